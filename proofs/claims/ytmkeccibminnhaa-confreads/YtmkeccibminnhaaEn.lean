import Derived.Test.YtmkeccibminnhaaWp
import Derived.Deep.RegionHeld3
namespace Go.Proofs.Ytmkeccibminnhaa
open Go.RowKit
set_option linter.unusedVariables false
set_option maxRecDepth 6000

theorem Wt.drew {w : World} {a b : Nat} {g : Option Nat} {xs : List UInt8} {d : Bool} (h : Wt w a b g xs d) : Wt w.drew a b g xs d := h.kept ((Keeps.refl (fun _ => False) w).drew) fun _ _ e => e
theorem Wt.drewN {w : World} {a b : Nat} {g : Option Nat} {xs : List UInt8} {d : Bool} (h : Wt w a b g xs d) (n : Nat) : Wt (w.drewN n) a b g xs d := h.kept ((Keeps.refl (fun _ => False) w).drewN n) fun _ _ e => e
theorem seg_blk {w : World} {g : Nat} {xs : List UInt8} {t : TypeId} (h : Blk w g (bvs xs) t) : Seg w (some ⟨g, 0, none⟩) xs :=
  .inr ⟨g, 0, rfl, fun j hj => by rw [Nat.zero_add]; exact h.cell (bvs_get xs j hj)⟩

set_option maxHeartbeats 1000000 in
theorem wsum_any (a b : Nat) (g : Option Nat) (xs : List UInt8) (d : Bool) (w : World) (h : Wt w a b g xs d) (hx : xs.length + 4 ≤ 140737488355328) :
    Calls Try.prog 18 #[.pointer (some ⟨a, 0, none⟩)] w fun e w' => e = .returned (.tuple #[]) ∧ Put w a b g xs w' (lowB 4 (sumN xs)) d := by
  have HH : Hid (Wt w a b g xs d) := h
  have p0 := h.blk.cell (i := 0) rfl
  clear h
  go_enter Try.func18, Try.ntmps18
  go_wp2
  go_region_held3 (fun w' => w'.cell? ⟨a, 0, none⟩ = some (.pointer (some ⟨b, 0, none⟩))) (first | exact hS | go_keep)
    (first
      | (go_at_call 20; refine (wOut_any b g xs _ HH.out.drew.wr (by omega)).mono ?_; rintro e w2 ⟨rfl, hB2, hK2⟩; have hS : w2.cell? ⟨a, 0, none⟩ = some (.pointer (some ⟨b, 0, none⟩)) := (HH.out.drew.kept hK2 fun _ _ e => e).blk.cell (i := 0) rfl)
      | (go_at_call 40; refine (sum_any _ _ xs _ (seg_blk hB2) (by unfold maxLen; omega)).mono ?_; rintro e w3 ⟨rfl, rfl⟩)
      | (go_at_call 16; refine (wU32_any b (sumN xs) g xs _ (HH.out.drew.kept hK2 fun _ _ e => e).wr hx (sumN_lt xs)).mono ?_; rintro e w4 ⟨rfl, g4, hW4, hg4, hK4⟩; have hS : w4.cell? ⟨a, 0, none⟩ = some (.pointer (some ⟨b, 0, none⟩)) := ((HH.out.drew.kept hK2 fun _ _ e => e).blk.kept hK4 (fun e => e.elim HH.out.ne fun e => HH.out.ng a e.symm rfl)).cell (i := 0) rfl))
  go_wp2
  go_end0
  have hKd := ((Keeps.refl (fun _ => False) w).drew).trans hK2 fun _ _ e => e
  exact ⟨rfl, (Put.of_bits (HH.out.kept hKd fun _ _ e => e) hW4 hg4 hK4).grown hKd⟩

/-- The form: the mark, the items, the sum. -/
def markB : List UInt8 := lowB 4 826493762
def body (x : Cfg) : List UInt8 := markB ++ x.e
def form (x : Cfg) : List UInt8 := body x ++ lowB 4 (sumN (body x))
theorem body_le (x : Cfg) : (body x).length ≤ 2221073 := by
  unfold body markB; rw [List.length_append, lowB_len]; have := x.e_le; omega

set_option maxHeartbeats 1000000 in
theorem encode_any (N : Nat) (x : Cfg) (w : World) (hi : x.In w N) (hN : N ≤ w.heap.size) :
    Calls Try.prog 9 #[x.v] w fun e w' => Keeps (fun _ => False) w w' ∧ ((x.d = true ∧ e = .returned (.tuple #[.slice none 0 0, .int .i64 112])) ∨ (x.d = false ∧ 16384 < (form x).length ∧ e = .returned (.tuple #[.slice none 0 0, .int .i64 2])) ∨
      (x.d = false ∧ (form x).length ≤ 16384 ∧ ∃ g, w.heap.size ≤ g ∧ Blk w' g (bvs (form x)) 5 ∧ e = .returned (.tuple #[.slice (some ⟨g, 0, none⟩) (form x).length (form x).length, .int .i64 0]))) := by
  have HI : Hid (x.In w N ∧ N ≤ w.heap.size) := ⟨hi, hN⟩
  clear hi hN
  obtain ⟨n1, n2, n3, n4, ca, cc, cs, pa, pc, ps, ha, hc, hs⟩ := x
  obtain ⟨X, hX⟩ : ∃ X : Cfg, X = ⟨n1, n2, n3, n4, ca, cc, cs, pa, pc, ps, ha, hc, hs⟩ := ⟨_, rfl⟩
  rw [← hX] at HI ⊢
  have HX : Hid (X = ⟨n1, n2, n3, n4, ca, cc, cs, pa, pc, ps, ha, hc, hs⟩) := hX
  obtain ⟨L1, hL1⟩ : ∃ L, cs.length = L := ⟨_, rfl⟩
  obtain ⟨L2, hL2⟩ : ∃ L, ps.length = L := ⟨_, rfl⟩
  obtain ⟨L3, hL3⟩ : ∃ L, hs.length = L := ⟨_, rfl⟩
  have hv : X.v = .agg #[.int .i64 n1, .int .i64 n2, .int .i64 n3, .int .i64 n4, .slice ca L1 cc, .slice pa L2 pc, .slice ha L3 hc] := by rw [hX, ← hL1, ← hL2, ← hL3]
  have HV : Hid (X.v = .agg #[.int .i64 n1, .int .i64 n2, .int .i64 n3, .int .i64 n4, .slice ca L1 cc, .slice pa L2 pc, .slice ha L3 hc]) := hv
  rw [hv]
  clear hX hv hL1 hL2 hL3
  go_enter Try.func9, Try.ntmps9
  go_wp2_with fail
  obtain ⟨W, hW⟩ : ∃ W, W = w.alloc (.cells #[.int .i64 n1, .int .i64 n2, .int .i64 n3, .int .i64 n4, .slice ca L1 cc, .slice pa L2 pc, .slice ha L3 hc] 26) := ⟨_, rfl⟩
  have hKW : Keeps (fun _ => False) w W := by rw [hW]; exact (Keeps.refl _ w).alloc _
  have hBW : Blk W w.heap.size [.int .i64 n1, .int .i64 n2, .int .i64 n3, .int .i64 n4, .slice ca L1 cc, .slice pa L2 pc, .slice ha L3 hc] 26 := by rw [hW]; exact Blk.new w _ _
  have HA : Hid (Keeps (fun _ => False) w W ∧ Blk W w.heap.size [.int .i64 n1, .int .i64 n2, .int .i64 n3, .int .i64 n4, .slice ca L1 cc, .slice pa L2 pc, .slice ha L3 hc] 26) := ⟨hKW, hBW⟩
  rw [← hW]
  clear hKW hBW hW
  refine (confWriter_any W).mono ?_
  rintro e w1 ⟨a, b, rfl, hw1, ha1, hb1, hK1⟩
  have p0 := hw1.blk.cell (i := 0) rfl
  have H1 : Hid (Wt w1 a b none [] false ∧ W.heap.size ≤ a ∧ W.heap.size ≤ b ∧ Keeps (fun _ => False) W w1) := ⟨hw1, ha1, hb1, hK1⟩
  clear hw1 ha1 hb1 hK1
  go_wp2_with fail
  refine (wU32_any b 826493762 none [] w1 H1.out.1.wr (by simp) (by omega)).mono ?_
  rintro e w2 ⟨rfl, g2, hW2, hg2, hK2⟩
  obtain ⟨g3, hw3, hg3, hK3⟩ := Put.of_bits H1.out.1 hW2 hg2 hK2
  have hB3 := (HA.out.2.kept H1.out.2.2.2 fun e => e).kept hK3 (by
    have h1 := H1.out.2.1; have h2 := H1.out.2.2.1; have h3 := HA.out.2.lt
    rintro (e | e | e)
    · omega
    · omega
    · cases e)
  have c0 := hB3.cell (i := 0) rfl
  have c1 := hB3.cell (i := 1) rfl
  have c2 := hB3.cell (i := 2) rfl
  have c3 := hB3.cell (i := 3) rfl
  have c4 := hB3.cell (i := 4) rfl
  have c5 := hB3.cell (i := 5) rfl
  have c6 := hB3.cell (i := 6) rfl
  have H2 : Hid (Wt w2 a b g3 markB false ∧ Hi W.heap.size a b g3 ∧ Keeps (fun _ => False) w w2) := by
    refine ⟨hw3, ⟨H1.out.2.1, H1.out.2.2.1, ?_⟩, (HA.out.1.trans H1.out.2.2.2 fun _ _ e => e).trans hK3 ?_⟩
    · intro k hk
      rcases hg3 with rfl | ⟨m, rfl, hm⟩
      · cases hk
      · cases hk; exact Nat.le_trans H1.out.2.2.2.size hm
    · intro k hk ho
      have h1 := H1.out.2.1; have h2 := H1.out.2.2.1; have := HA.out.1.size
      rcases ho with e | e | e
      · omega
      · omega
      · cases e
  clear p0 H1 hW2 hg2 hK2 hw3 hg3 hK3 hB3
  go_wp2_with fail
  have hNa : Hi N a b g3 := by
    have h1 := H2.out.2.1; have h2 := HI.out.2; have h3 := HA.out.1.size
    exact ⟨by have := h1.1; omega, by have := h1.2.1; omega, fun k hk => by have := h1.2.2 k hk; omega⟩
  have HC := config_any N a b g3 markB false X w2 H2.out.1 hNa (Nat.le_trans HI.out.2 H2.out.2.2.size) (HI.out.1.below (H2.out.2.2.below HI.out.2 fun _ e => e.elim)) (by decide)
  rw [HV.out] at HC
  refine HC.mono ?_
  rintro e w3 ⟨rfl, g4, hw4, hg4, hK4⟩
  have hO : ∀ k, Own a b g3 k → w.heap.size ≤ k := fun k ho => Nat.le_trans HA.out.1.size (H2.out.2.1.own ho)
  have H3 : Hid (Wt w3 a b g4 (body X) X.d ∧ Keeps (fun _ => False) w w3 ∧ ∀ k, Own a b g4 k → w.heap.size ≤ k) := by
    refine ⟨by have := hw4; rw [Bool.false_or] at this; exact this, H2.out.2.2.trans hK4 fun k hk ho => by have := hO k ho; omega, fun k ho => ?_⟩
    by_cases hk : k < w2.heap.size
    · exact hO k (own_back hg4 hk ho)
    · have := H2.out.2.2.size; omega
  have p1 := H3.out.1.blk.cell (i := 1) rfl
  have p0 := H3.out.1.blk.cell (i := 0) rfl
  clear hw4 hg4 hK4 hO hNa HC H2 c0 c1 c2 c3 c4 c5 c6
  cases hd : X.d
  · rw [hd] at p1
    have HD : Hid (X.d = false) := hd
    clear hd
    go_wp2_with fail
    refine (wsum_any a b g4 (body X) X.d w3 H3.out.1 (by have := body_le X; omega)).mono ?_
    rintro e w4 ⟨rfl, g5, hw5, hg5, hK5⟩
    have H4 : Hid (Wt w4 a b g5 (form X) X.d ∧ Keeps (fun _ => False) w w4) := by
      refine ⟨hw5, H3.out.2.1.trans hK5 fun k hk ho => by have := H3.out.2.2 k ho; omega⟩
    have q0 := H4.out.1.blk.cell (i := 0) rfl
    clear hw5 hg5 hK5 p0 p1 H3
    go_wp2_with fail
    refine (wLen_any b g5 (form X) w4 H4.out.1.wr).mono ?_
    rintro e w5 ⟨rfl, hw5⟩
    obtain rfl := hw5.symm
    clear hw5
    obtain ⟨M, hM⟩ : ∃ M, (form X).length = M := ⟨_, rfl⟩
    have HM : Hid ((form X).length = M) := hM
    rw [hM]
    clear hM
    by_cases hl : 16384 < M
    · have hl' : (16384 : Int) < M := by omega
      go_wp2
      go_ret2
      exact ⟨H4.out.2, .inr (.inl ⟨HD.out, by have := HM.out; omega, rfl⟩)⟩
    · have hl' : ¬ (16384 : Int) < M := by omega
      go_wp2_with fail
      refine (wOut_any b g5 (form X) w4 H4.out.1.wr (by have := HM.out; omega)).mono ?_
      rintro e w6 ⟨rfl, hB, hK6⟩
      have H6 : Hid (Keeps (fun _ => False) w w6 ∧ Blk w6 w4.heap.size (bvs (form X)) 5 ∧ w.heap.size ≤ w4.heap.size) := ⟨H4.out.2.trans hK6 fun _ _ e => e, hB, H4.out.2.size⟩
      clear hB hK6 q0 H4
      rw [HM.out]
      go_wp2
      go_ret2
      exact ⟨H6.out.1, .inr (.inr ⟨HD.out, by have := HM.out; omega, _, H6.out.2.2, H6.out.2.1, by rw [HM.out]; rfl⟩)⟩
  · rw [hd] at p1
    have HD : Hid (X.d = true) := hd
    clear hd
    go_wp2
    go_ret2
    exact ⟨H3.out.2.1, .inl ⟨HD.out, rfl⟩⟩
end Go.Proofs.Ytmkeccibminnhaa
