import Derived.Test.YtnkfdmlpjgmckaaA
namespace Go.Proofs.Ytnkfdmlpjgmckaa
open Go.RowKit
set_option linter.unusedVariables false
set_option maxRecDepth 6000

set_option maxHeartbeats 1000000 in
theorem rmay_any (a : Option Addr) (c : Nat) (l : List Win) (w : World) (h1 : SegA Win.vs 3 w a l) (hl1 : l.length ≤ c ∧ c ≤ maxLen) :
    Calls Try.prog 33 #[.slice a l.length c] w fun e w' => e = .returned (.bool (may l)) ∧ w' = w := by
  obtain ⟨L, hL⟩ : ∃ L, l.length = L := ⟨_, rfl⟩
  have HS : Hid (SegA Win.vs 3 w a l ∧ l.length = L) := ⟨h1, hL⟩
  rw [hL] at hl1 ⊢
  have hc1 : (L : Int) ≤ c := by omega
  have hc3 : (c : Int) ≤ 9223372036854775807 := by unfold maxLen at hl1; omega
  clear h1 hL hl1
  go_enter Try.func33, Try.ntmps33
  by_cases h0 : L = 0
  · subst h0
    have e0 : may l = false := by unfold may; rw [HS.out.2]; rfl
    rw [e0]
    go_wp2
    go_ret
    exact ⟨rfl, rfl⟩
  have h0' : decide ((L : Int) < 1) = false := by simp; omega
  by_cases h16 : 16 < L
  · have e0 : may l = false := by unfold may; rw [HS.out.2]; simp; omega
    rw [e0]
    have : decide (16 < (L : Int)) = true := by simp; omega
    go_wp2
    go_ret
    exact ⟨rfl, rfl⟩
  have h16' : decide (16 < (L : Int)) = false := by simp; omega
  go_wp2
  go_loopw [3] (fun i wr => ∃ j : Nat, j ≤ L ∧ i = .int .i64 j ∧ (∀ y ∈ l.take j, y.okB = true) ∧ wr = w) (fun i _ => L - (intOf i).toNat)
  case atStart => exact ⟨0, by omega, rfl, by simp, rfl⟩
  case round =>
    obtain ⟨j, hj, rfl, hall, hK⟩ := hrel
    obtain rfl := hK.symm
    by_cases hlt : j < L
    · obtain ⟨y, hy⟩ : ∃ y, l[j]? = some y := ⟨_, List.getElem?_eq_getElem (by have := HS.out.2; omega)⟩
      obtain ⟨g1, o1, rfl, hg1⟩ := HS.out.1.at hy
      have y0 := hg1 0 _ rfl
      rw [Nat.add_zero] at y0
      have y1 := hg1 1 _ rfl
      have y2 := hg1 2 _ rfl
      have HK : Hid ((∀ y ∈ l.take j, y.okB = true) ∧ l[j]? = some y) := ⟨hall, hy⟩
      clear hy hg1 hall
      obtain ⟨p, u, s⟩ := y
      have no : ¬ (0 ≤ u ∧ u ≤ 16384 ∧ 0 ≤ s ∧ s ≤ 16384) → may l = false := by
        intro hno
        rw [Bool.eq_false_iff]
        intro hm
        exact hno (Win.okB_iff.1 ((may_iff.1 hm).2.2 _ (List.mem_of_getElem? HK.out.2)))
      by_cases h1 : u < 0
      · have : decide (u < 0) = true := by simp [h1]
        have HM : Hid (may l = false) := no (by omega)
        clear no
        go_wp2
        go_ret
        rw [HM.out]
        exact ⟨rfl, rfl⟩
      have f1 : decide (u < 0) = false := by simp [h1]
      by_cases h2 : 16384 < u
      · have : decide (16384 < u) = true := by simp [h2]
        have HM : Hid (may l = false) := no (by omega)
        clear no
        go_wp2
        go_ret
        rw [HM.out]
        exact ⟨rfl, rfl⟩
      have f2 : decide (16384 < u) = false := by simp [h2]
      by_cases h3 : s < 0
      · have : decide (s < 0) = true := by simp [h3]
        have HM : Hid (may l = false) := no (by omega)
        clear no
        go_wp2
        go_ret
        rw [HM.out]
        exact ⟨rfl, rfl⟩
      have f3 : decide (s < 0) = false := by simp [h3]
      by_cases h4 : 16384 < s
      · have : decide (16384 < s) = true := by simp [h4]
        have HM : Hid (may l = false) := no (by omega)
        clear no
        go_wp2
        go_ret
        rw [HM.out]
        exact ⟨rfl, rfl⟩
      have f4 : decide (16384 < s) = false := by simp [h4]
      clear no
      go_wp2
      go_roundw
      case rel => exact ⟨j + 1, by omega, by go_num, take_all HK.out.2 HK.out.1 (Win.okB_iff.2 ⟨by dsimp only; omega, by dsimp only; omega, by dsimp only; omega, by dsimp only; omega⟩), trivial⟩
      case measure => simp [intOf]; omega
    · obtain rfl : j = L := by omega
      have HK : Hid (∀ y ∈ l.take j, y.okB = true) := hall
      clear hall
      go_wp2
      go_ret
      refine ⟨?_, rfl⟩
      have := HK.out
      rw [List.take_of_length_le (by rw [HS.out.2]; exact Nat.le_refl _)] at this
      rw [may_iff.2 ⟨by rw [HS.out.2]; omega, by rw [HS.out.2]; omega, this⟩]
      rfl

set_option maxHeartbeats 1000000 in
theorem rbegin_any (a : Option Addr) (c : Nat) (l : List Win) (k : Nat) (hk : k ≤ l.length) (w : World) (h1 : SegA Win.vs 3 w a l) (hl1 : l.length ≤ c ∧ c ≤ maxLen) (hm : may l = true) :
    Calls Try.prog 34 #[.slice a l.length c, .int .i64 k] w fun e w' => e = .returned (.int .i64 (beg l k)) ∧ Keeps (fun _ => False) w w' ∧ w'.heap.size = w.heap.size := by
  obtain ⟨L, hL⟩ : ∃ L, l.length = L := ⟨_, rfl⟩
  have HS : Hid (SegA Win.vs 3 w a l ∧ l.length = L ∧ may l = true) := ⟨h1, hL, hm⟩
  have hL16 := (may_iff.1 hm).2.1
  rw [hL] at hl1 hk hL16 ⊢
  have hc1 : (L : Int) ≤ c := by omega
  have hc3 : (c : Int) ≤ 9223372036854775807 := by unfold maxLen at hl1; omega
  clear h1 hL hl1 hm
  go_enter Try.func34, Try.ntmps34
  go_wp2
  go_loopw [5, 6] (fun z i wr => ∃ j : Nat, j ≤ k ∧ i = .int .i64 j ∧ z = .int .i64 (beg l j) ∧ Keeps (fun _ => False) w wr ∧ wr.heap.size = w.heap.size) (fun _ i _ => k - (intOf i).toNat)
  case atStart => exact ⟨0, by omega, rfl, rfl, Keeps.refl _ _, rfl⟩
  case round =>
    obtain ⟨j, hj, rfl, rfl, hK, hsz⟩ := hrel
    by_cases hlt : j < k
    · obtain ⟨y, hy⟩ : ∃ y, l[j]? = some y := ⟨_, List.getElem?_eq_getElem (by have := HS.out.2.1; omega)⟩
      obtain ⟨g1, o1, rfl, hg1⟩ := (HS.out.1.kept hK fun _ _ _ e => e).at hy
      have y0 := hg1 0 _ rfl
      rw [Nat.add_zero] at y0
      have y1 := hg1 1 _ rfl
      have y2 := hg1 2 _ rfl
      obtain ⟨B, hB⟩ : ∃ B, beg l j = B := ⟨_, rfl⟩
      have hb := beg_bound (may_iff.1 HS.out.2.2).2.2 j
      have hy4 := Win.okB_iff.1 ((may_iff.1 HS.out.2.2).2.2 _ (List.mem_of_getElem? hy))
      have HK : Hid (Keeps (fun _ => False) w wr ∧ wr.heap.size = w.heap.size ∧ beg l (j + 1) = B + (y.u + y.s)) := ⟨hK, hsz, by rw [beg_succ hy, hB]⟩
      rw [hB] at hb ⊢
      have hB1 : 0 ≤ B ∧ B ≤ 524288 := by have := HS.out.2.1; omega
      clear hy hg1 hK hsz hb hB
      obtain ⟨p, u, s⟩ := y
      dsimp only at hy4
      have q1 : IntKind.i64.wrap (u + s) = u + s := by rw [IntKind.wrap_i64]; omega
      have q2 : IntKind.i64.wrap (B + (u + s)) = B + (u + s) := by rw [IntKind.wrap_i64]; omega
      go_wp2
      go_quiet (fail)
      clear y0 y1 y2
      go_wp2
      go_roundw
      case rel => exact ⟨j + 1, by omega, by go_num, by rw [HK.out.2.2], HK.out.1.drewN _, HK.out.2.1⟩
      case measure => simp [intOf]; omega
    · obtain rfl : j = k := by omega
      have HK : Hid (Keeps (fun _ => False) w wr ∧ wr.heap.size = w.heap.size) := ⟨hK, hsz⟩
      clear hK hsz
      go_wp2
      go_ret
      exact ⟨rfl, HK.out.1, HK.out.2⟩
end Go.Proofs.Ytnkfdmlpjgmckaa
