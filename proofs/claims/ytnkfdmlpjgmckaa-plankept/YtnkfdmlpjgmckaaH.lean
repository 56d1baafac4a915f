import Derived.Test.YtnkfdmlpjgmckaaG
namespace Go.Proofs.Ytnkfdmlpjgmckaa
open Go.RowKit
set_option linter.unusedVariables false
set_option maxRecDepth 6000

/-- How many rounds a window can take. -/
def rdW (n : Nat) (y : Win) : Int := y.u + 2 + (y.u / 25 + 1) * (8 + 4 * n)
def rdC (n : Nat) (ws : List Win) (j : Nat) : Int := ((ws.take j).map (rdW n)).sum
theorem rdC_succ {n : Nat} {ws : List Win} {j : Nat} {y : Win} (hy : ws[j]? = some y) : rdC n ws (j + 1) = rdC n ws j + rdW n y := by
  unfold rdC
  rw [List.take_add_one, hy]
  simp
theorem rdW_bound {n : Nat} {y : Win} (hn : n ≤ 4) (h : y.okB = true) : 0 ≤ rdW n y ∧ rdW n y ≤ 40000 := by
  have h := Win.okB_iff.1 h
  unfold rdW
  have h1 : 0 ≤ y.u / 25 ∧ y.u / 25 ≤ 656 := by omega
  have h2 : (y.u / 25 + 1) * (8 + 4 * (n : Int)) ≤ 657 * 24 := Int.mul_le_mul (by omega) (by omega) (by omega) (by omega)
  have h3 : 0 ≤ (y.u / 25 + 1) * (8 + 4 * (n : Int)) := Int.mul_nonneg (by omega) (by omega)
  omega
theorem rdC_bound {n : Nat} {ws : List Win} (hn : n ≤ 4) (h : ∀ y ∈ ws, y.okB = true) (j : Nat) : 0 ≤ rdC n ws j ∧ rdC n ws j ≤ 40000 * min j ws.length := by
  induction j with
  | zero => simp [rdC]
  | succ j ih =>
    by_cases hj : j < ws.length
    · have hy : ws[j]? = some ws[j] := List.getElem?_eq_getElem hj
      rw [rdC_succ hy]
      have := rdW_bound hn (h ws[j] (List.getElem_mem hj))
      omega
    · have : rdC n ws (j + 1) = rdC n ws j := by unfold rdC; rw [List.take_of_length_le (by omega), List.take_of_length_le (by omega)]
      omega

set_option maxHeartbeats 1000000 in
theorem coreRounds_any (n : Nat) (hn : n ≤ 4) (a : Option Addr) (c : Nat) (l : List Win) (w : World) (h1 : SegA Win.vs 3 w a l) (hl1 : l.length ≤ c ∧ c ≤ maxLen) (hm : may l = true) :
    Calls Try.prog 50 #[.slice a l.length c, .int .i64 n] w fun e w' => e = .returned (.int .i64 (rdC n l l.length)) ∧ Keeps (fun _ => False) w w' := by
  obtain ⟨L, hL⟩ : ∃ L, l.length = L := ⟨_, rfl⟩
  have HS : Hid (SegA Win.vs 3 w a l ∧ l.length = L ∧ may l = true) := ⟨h1, hL, hm⟩
  have hL16 := (may_iff.1 hm).2.1
  rw [hL] at hl1 hL16 ⊢
  have hc1 : (L : Int) ≤ c := by omega
  have hc3 : (c : Int) ≤ 9223372036854775807 := by unfold maxLen at hl1; omega
  clear h1 hL hl1 hm
  go_enter Try.func50, Try.ntmps50
  go_wp2
  go_loopw [5, 11] (fun z i wr => ∃ j : Nat, j ≤ L ∧ i = .int .i64 j ∧ z = .int .i64 (rdC n l j) ∧ Keeps (fun _ => False) w wr) (fun _ i _ => L - (intOf i).toNat)
  case atStart => exact ⟨0, by omega, rfl, rfl, Keeps.refl _ _⟩
  case round =>
    obtain ⟨j, hj, rfl, rfl, hK⟩ := hrel
    by_cases hlt : j < L
    · obtain ⟨y, hy⟩ : ∃ y, l[j]? = some y := ⟨_, List.getElem?_eq_getElem (by have := HS.out.2.1; omega)⟩
      obtain ⟨g1, o1, rfl, hg1⟩ := (HS.out.1.kept hK fun _ _ _ e => e).at hy
      have y0 := hg1 0 _ rfl
      rw [Nat.add_zero] at y0
      have y1 := hg1 1 _ rfl
      have y2 := hg1 2 _ rfl
      obtain ⟨B, hB⟩ : ∃ B, rdC n l j = B := ⟨_, rfl⟩
      have hb := rdC_bound hn (may_iff.1 HS.out.2.2).2.2 j
      have hyo := (may_iff.1 HS.out.2.2).2.2 _ (List.mem_of_getElem? hy)
      have hy4 := Win.okB_iff.1 hyo
      have hyw := rdW_bound hn hyo
      obtain ⟨R, hR⟩ : ∃ R, rdW n y = R := ⟨_, rfl⟩
      have HK : Hid (Keeps (fun _ => False) w wr ∧ rdC n l (j + 1) = B + R) := ⟨hK, by rw [rdC_succ hy, hB, hR]⟩
      rw [hB] at hb ⊢
      rw [hR] at hyw
      have hB1 : 0 ≤ B ∧ B ≤ 640000 := by have := HS.out.2.1; omega
      unfold rdW at hR
      clear hy hg1 hK hb hB hyo
      obtain ⟨p, u, s⟩ := y
      dsimp only at hy4 hR
      obtain ⟨D, hD⟩ : ∃ D, u / 25 = D := ⟨_, rfl⟩
      have hD1 : 0 ≤ D ∧ D ≤ 656 := by omega
      have hD2 : u.tdiv 25 = D := by rw [Int.tdiv_eq_ediv_of_nonneg (by omega)]; exact hD
      rw [hD] at hR
      have q0 : IntKind.i64.wrap D = D := by rw [IntKind.wrap_i64]; omega
      have q1 : IntKind.i64.wrap (D + 1) = D + 1 := by rw [IntKind.wrap_i64]; omega
      have q2 : IntKind.i64.wrap (u + 2) = u + 2 := by rw [IntKind.wrap_i64]; omega
      have q3 : IntKind.i64.wrap (4 * (n : Int)) = 4 * n := by rw [IntKind.wrap_i64]; omega
      have q4 : IntKind.i64.wrap (8 + 4 * (n : Int)) = 8 + 4 * n := by rw [IntKind.wrap_i64]; omega
      obtain ⟨M, hM⟩ : ∃ M, (D + 1) * (8 + 4 * (n : Int)) = M := ⟨_, rfl⟩
      rw [hM] at hR
      have q5 : IntKind.i64.wrap ((D + 1) * (8 + 4 * (n : Int))) = M := by rw [hM, IntKind.wrap_i64]; omega
      have q6 : IntKind.i64.wrap (u + 2 + M) = R := by rw [hR, IntKind.wrap_i64]; omega
      have q7 : IntKind.i64.wrap (B + R) = B + R := by rw [IntKind.wrap_i64]; omega
      have HN : Hid ((D + 1) * (8 + 4 * (n : Int)) = M ∧ u + 2 + M = R ∧ u / 25 = D) := ⟨hM, hR, hD⟩
      obtain ⟨W, hW⟩ : ∃ W, W = wr.alloc (.cells #[.int .i64 p, .int .i64 u, .int .i64 s] 40) := ⟨_, rfl⟩
      have HB : Hid (Blk W wr.heap.size [.int .i64 p, .int .i64 u, .int .i64 s] 40 ∧ Keeps (fun _ => False) w W) := by
        rw [hW]; exact ⟨Blk.new _ _ _, HK.out.1.alloc _⟩
      obtain ⟨C, hC⟩ : ∃ C, C = wr.heap.size := ⟨_, rfl⟩
      rw [← hC] at HB
      clear hM hR hD
      go_upto_region 5 with fail
      rw [← hW, ← hC]
      clear y0 y1 y2 hW hC
      have c1 : W.cell? ⟨C, 1, none⟩ = some (.int .i64 u) := HB.out.1.cell rfl
      go_wp2
      go_roundw
      trace_state
      case rel => exact ⟨j + 1, by omega, by go_num, by rw [HK.out.2], HB.out.2⟩
      case measure => simp [intOf]; omega
    · obtain rfl : j = L := by omega
      have HK : Hid (Keeps (fun _ => False) w wr) := hK
      clear hK
      go_wp2
      go_ret
      exact ⟨rfl, HK.out⟩
end Go.Proofs.Ytnkfdmlpjgmckaa
