import Derived.Test.YtnkfdmlpjgmckaaCf
import Derived.Deep.RegionHeld3
namespace Go.Proofs.Ytnkfdmlpjgmckaa
open Go.RowKit
set_option linter.unusedVariables false
set_option maxRecDepth 6000

/-- A window whose cycles may be. -/
def Win.okB (y : Win) : Bool := decide (0 ≤ y.u) && decide (y.u ≤ 16384) && decide (0 ≤ y.s) && decide (y.s ≤ 16384)
/-- A plan that may be. -/
def may (ws : List Win) : Bool := decide (1 ≤ ws.length) && decide (ws.length ≤ 16) && ws.all Win.okB
/-- When the window of this number begins. -/
def beg (ws : List Win) (j : Nat) : Int := ((ws.take j).map fun y => y.u + y.s).sum

theorem Win.okB_iff {y : Win} : y.okB = true ↔ (0 ≤ y.u ∧ y.u ≤ 16384 ∧ 0 ≤ y.s ∧ y.s ≤ 16384) := by
  unfold Win.okB; simp [and_assoc]
theorem may_iff {ws : List Win} : may ws = true ↔ (1 ≤ ws.length ∧ ws.length ≤ 16 ∧ ∀ y ∈ ws, y.okB = true) := by
  unfold may; simp [and_assoc]
theorem take_all {ws : List Win} {j : Nat} {y : Win} {p : Win → Bool} (hy : ws[j]? = some y) (h : ∀ z ∈ ws.take j, p z = true) (hp : p y = true) : ∀ z ∈ ws.take (j + 1), p z = true := by
  intro z hz
  rw [List.take_add_one, hy] at hz
  simp at hz
  rcases hz with hz | rfl
  · exact h z hz
  · exact hp
theorem beg_succ {ws : List Win} {j : Nat} {y : Win} (hy : ws[j]? = some y) : beg ws (j + 1) = beg ws j + (y.u + y.s) := by
  unfold beg
  rw [List.take_add_one, hy]
  simp
theorem beg_bound {ws : List Win} (h : ∀ y ∈ ws, y.okB = true) (j : Nat) : 0 ≤ beg ws j ∧ beg ws j ≤ 32768 * min j ws.length := by
  induction j with
  | zero => simp [beg]
  | succ j ih =>
    by_cases hj : j < ws.length
    · have hy : ws[j]? = some ws[j] := List.getElem?_eq_getElem hj
      rw [beg_succ hy]
      have := Win.okB_iff.1 (h ws[j] (List.getElem_mem hj))
      omega
    · have : beg ws (j + 1) = beg ws j := by unfold beg; rw [List.take_of_length_le (by omega), List.take_of_length_le (by omega)]
      omega
theorem beg_le {ws : List Win} (h : ∀ y ∈ ws, y.okB = true) {i j : Nat} (hij : i ≤ j) : beg ws i ≤ beg ws j := by
  induction j with
  | zero => obtain rfl : i = 0 := by omega
            exact Int.le_refl _
  | succ j ih =>
    by_cases e : i = j + 1
    · subst e; exact Int.le_refl _
    · have h1 := ih (by omega)
      by_cases hj : j < ws.length
      · have hy : ws[j]? = some ws[j] := List.getElem?_eq_getElem hj
        rw [beg_succ hy]
        have := Win.okB_iff.1 (h ws[j] (List.getElem_mem hj))
        omega
      · have : beg ws (j + 1) = beg ws j := by unfold beg; rw [List.take_of_length_le (by omega), List.take_of_length_le (by omega)]
        omega

theorem isLength_any (n : Int) (w : World) : Calls Try.prog 55 #[.int .i64 n] w fun e w' => e = .returned (.bool (decide (0 ≤ n) && decide (n ≤ 16384))) ∧ w' = w := by
  go_enter Try.func55, Try.ntmps55
  by_cases h1 : 0 ≤ n
  · have e1 : decide (0 ≤ n) = true := by simp [h1]
    go_wp2
    go_ret
    simp [h1]
  · have e1 : decide (0 ≤ n) = false := by simp [h1]
    go_wp2
    go_ret
    simp

set_option maxHeartbeats 1000000 in
theorem mayBe_any (a : Option Addr) (c : Nat) (l : List Win) (w : World) (h1 : SegA Win.vs 3 w a l) (hl1 : l.length ≤ c ∧ c ≤ maxLen) :
    Calls Try.prog 51 #[.slice a l.length c] w fun e w' => e = .returned (.bool (may l)) ∧ Keeps (fun _ => False) w w' := by
  obtain ⟨L, hL⟩ : ∃ L, l.length = L := ⟨_, rfl⟩
  have HS : Hid (SegA Win.vs 3 w a l ∧ l.length = L) := ⟨h1, hL⟩
  rw [hL] at hl1 ⊢
  have hc1 : (L : Int) ≤ c := by omega
  have hc3 : (c : Int) ≤ 9223372036854775807 := by unfold maxLen at hl1; omega
  clear h1 hL hl1
  go_enter Try.func51, Try.ntmps51
  by_cases h0 : L = 0
  · subst h0
    have e0 : may l = false := by unfold may; rw [HS.out.2]; rfl
    rw [e0]
    go_wp2
    go_ret
    exact ⟨rfl, Keeps.refl _ _⟩
  have h0' : ((L : Int) == 0) = false := by simp; omega
  by_cases h16 : 16 < L
  · have e0 : may l = false := by unfold may; rw [HS.out.2]; simp; omega
    rw [e0]
    have : decide (16 < (L : Int)) = true := by simp; omega
    go_wp2
    go_ret
    exact ⟨rfl, Keeps.refl _ _⟩
  have h16' : decide (16 < (L : Int)) = false := by simp; omega
  go_wp2
  go_loopw [15] (fun i wr => ∃ j : Nat, j ≤ L ∧ i = .int .i64 j ∧ (∀ y ∈ l.take j, y.okB = true) ∧ Keeps (fun _ => False) w wr) (fun i _ => L - (intOf i).toNat)
  case atStart => exact ⟨0, by omega, rfl, by simp, Keeps.refl _ _⟩
  case round =>
    obtain ⟨j, hj, rfl, hall, hK⟩ := hrel
    by_cases hlt : j < L
    · obtain ⟨y, hy⟩ : ∃ y, l[j]? = some y := ⟨_, List.getElem?_eq_getElem (by have := HS.out.2; omega)⟩
      obtain ⟨g1, o1, rfl, hg1⟩ := (HS.out.1.kept hK fun _ _ _ e => e).at hy
      have y0 := hg1 0 _ rfl
      rw [Nat.add_zero] at y0
      have y1 := hg1 1 _ rfl
      have y2 := hg1 2 _ rfl
      have HK : Hid (Keeps (fun _ => False) w wr ∧ (∀ y ∈ l.take j, y.okB = true) ∧ l[j]? = some y) := ⟨hK, hall, hy⟩
      clear hy hg1 hK hall
      obtain ⟨p, u, s⟩ := y
      obtain ⟨W, hW⟩ : ∃ W, W = wr.alloc (.cells #[.int .i64 p, .int .i64 u, .int .i64 s] 40) := ⟨_, rfl⟩
      have HB : Hid (Blk W wr.heap.size [.int .i64 p, .int .i64 u, .int .i64 s] 40 ∧ Keeps (fun _ => False) w W) := by
        rw [hW]; exact ⟨Blk.new _ _ _, HK.out.1.alloc _⟩
      obtain ⟨C, hC⟩ : ∃ C, C = wr.heap.size := ⟨_, rfl⟩
      rw [← hC] at HB
      go_wp2_with fail
      rw [← hW, ← hC]
      clear y0 y1 y2 hW hC
      have c1 : W.cell? ⟨C, 1, none⟩ = some (.int .i64 u) := HB.out.1.cell rfl
      have c2 : W.cell? ⟨C, 2, none⟩ = some (.int .i64 s) := HB.out.1.cell rfl
      refine (isLength_any u _).mono ?_
      rintro e w1 ⟨rfl, hw1⟩
      obtain rfl := hw1.symm
      clear hw1
      obtain ⟨b, hb⟩ : ∃ b, (decide (0 ≤ u) && decide (u ≤ 16384)) = b := ⟨_, rfl⟩
      rw [hb]
      have HU : Hid ((decide (0 ≤ u) && decide (u ≤ 16384)) = b) := hb
      clear hb
      cases b with
      | false =>
        go_wp2
        go_ret
        refine ⟨?_, HB.out.2⟩
        have : may l = false := by
          rw [Bool.eq_false_iff]
          intro hm
          have h3 := Win.okB_iff.1 ((may_iff.1 hm).2.2 _ (List.mem_of_getElem? HK.out.2.2))
          have := HU.out
          simp at this h3
          omega
        rw [this]
        rfl
      | true =>
        go_wp2_with fail
        refine (isLength_any s _).mono ?_
        rintro e w1 ⟨rfl, hw1⟩
        obtain rfl := hw1.symm
        clear hw1
        obtain ⟨b, hb⟩ : ∃ b, (decide (0 ≤ s) && decide (s ≤ 16384)) = b := ⟨_, rfl⟩
        rw [hb]
        have HV : Hid ((decide (0 ≤ s) && decide (s ≤ 16384)) = b) := hb
        clear hb
        cases b with
        | false =>
          go_wp2
          go_ret
          refine ⟨?_, HB.out.2⟩
          have : may l = false := by
            rw [Bool.eq_false_iff]
            intro hm
            have h3 := Win.okB_iff.1 ((may_iff.1 hm).2.2 _ (List.mem_of_getElem? HK.out.2.2))
            have := HV.out
            simp at this h3
            omega
          rw [this]
          rfl
        | true =>
          go_wp2
          go_roundw
          case rel =>
            refine ⟨j + 1, by omega, by go_num, take_all HK.out.2.2 HK.out.2.1 (Win.okB_iff.2 ?_), HB.out.2⟩
            have h1 := HU.out
            have h2 := HV.out
            simp at h1 h2
            exact ⟨h1.1, h1.2, h2.1, h2.2⟩
          case measure => simp [intOf]; omega
    · obtain rfl : j = L := by omega
      have HK : Hid (Keeps (fun _ => False) w wr ∧ (∀ y ∈ l.take j, y.okB = true)) := ⟨hK, hall⟩
      clear hK hall
      go_wp2
      go_ret
      refine ⟨?_, HK.out.1⟩
      have := HK.out.2
      rw [List.take_of_length_le (by rw [HS.out.2]; exact Nat.le_refl _)] at this
      rw [may_iff.2 ⟨by rw [HS.out.2]; omega, by rw [HS.out.2]; omega, this⟩]
      rfl
end Go.Proofs.Ytnkfdmlpjgmckaa
namespace Go.Proofs.Ytnkfdmlpjgmckaa
open Go.RowKit
set_option linter.unusedVariables false
set_option maxRecDepth 6000

set_option maxHeartbeats 1000000 in
theorem rmay_any (a : Option Addr) (c : Nat) (l : List Win) (w : World) (h1 : SegA Win.vs 3 w a l) (hl1 : l.length ≤ c ∧ c ≤ maxLen) :
    Calls Try.prog 33 #[.slice a l.length c] w fun e w' => e = .returned (.bool (may l)) ∧ w' = w := by
  obtain ⟨L, hL⟩ : ∃ L, l.length = L := ⟨_, rfl⟩
  have HS : Hid (SegA Win.vs 3 w a l ∧ l.length = L) := ⟨h1, hL⟩
  rw [hL] at hl1 ⊢
  have hc1 : (L : Int) ≤ c := by omega
  have hc3 : (c : Int) ≤ 9223372036854775807 := by unfold maxLen at hl1; omega
  clear h1 hL hl1
  go_enter Try.func33, Try.ntmps33
  by_cases h0 : L = 0
  · subst h0
    have e0 : may l = false := by unfold may; rw [HS.out.2]; rfl
    rw [e0]
    go_wp2
    go_ret
    exact ⟨rfl, rfl⟩
  have h0' : decide ((L : Int) < 1) = false := by simp; omega
  by_cases h16 : 16 < L
  · have e0 : may l = false := by unfold may; rw [HS.out.2]; simp; omega
    rw [e0]
    have : decide (16 < (L : Int)) = true := by simp; omega
    go_wp2
    go_ret
    exact ⟨rfl, rfl⟩
  have h16' : decide (16 < (L : Int)) = false := by simp; omega
  go_wp2
  go_loopw [3] (fun i wr => ∃ j : Nat, j ≤ L ∧ i = .int .i64 j ∧ (∀ y ∈ l.take j, y.okB = true) ∧ wr = w) (fun i _ => L - (intOf i).toNat)
  case atStart => exact ⟨0, by omega, rfl, by simp, rfl⟩
  case round =>
    obtain ⟨j, hj, rfl, hall, hK⟩ := hrel
    obtain rfl := hK.symm
    by_cases hlt : j < L
    · obtain ⟨y, hy⟩ : ∃ y, l[j]? = some y := ⟨_, List.getElem?_eq_getElem (by have := HS.out.2; omega)⟩
      obtain ⟨g1, o1, rfl, hg1⟩ := HS.out.1.at hy
      have y0 := hg1 0 _ rfl
      rw [Nat.add_zero] at y0
      have y1 := hg1 1 _ rfl
      have y2 := hg1 2 _ rfl
      have HK : Hid ((∀ y ∈ l.take j, y.okB = true) ∧ l[j]? = some y) := ⟨hall, hy⟩
      clear hy hg1 hall
      obtain ⟨p, u, s⟩ := y
      have no : ¬ (0 ≤ u ∧ u ≤ 16384 ∧ 0 ≤ s ∧ s ≤ 16384) → may l = false := by
        intro hno
        rw [Bool.eq_false_iff]
        intro hm
        exact hno (Win.okB_iff.1 ((may_iff.1 hm).2.2 _ (List.mem_of_getElem? HK.out.2)))
      by_cases h1 : u < 0
      · have : decide (u < 0) = true := by simp [h1]
        have HM : Hid (may l = false) := no (by omega)
        clear no
        go_wp2
        go_ret
        rw [HM.out]
        exact ⟨rfl, rfl⟩
      have f1 : decide (u < 0) = false := by simp [h1]
      by_cases h2 : 16384 < u
      · have : decide (16384 < u) = true := by simp [h2]
        have HM : Hid (may l = false) := no (by omega)
        clear no
        go_wp2
        go_ret
        rw [HM.out]
        exact ⟨rfl, rfl⟩
      have f2 : decide (16384 < u) = false := by simp [h2]
      by_cases h3 : s < 0
      · have : decide (s < 0) = true := by simp [h3]
        have HM : Hid (may l = false) := no (by omega)
        clear no
        go_wp2
        go_ret
        rw [HM.out]
        exact ⟨rfl, rfl⟩
      have f3 : decide (s < 0) = false := by simp [h3]
      by_cases h4 : 16384 < s
      · have : decide (16384 < s) = true := by simp [h4]
        have HM : Hid (may l = false) := no (by omega)
        clear no
        go_wp2
        go_ret
        rw [HM.out]
        exact ⟨rfl, rfl⟩
      have f4 : decide (16384 < s) = false := by simp [h4]
      clear no
      go_wp2
      go_roundw
      case rel => exact ⟨j + 1, by omega, by go_num, take_all HK.out.2 HK.out.1 (Win.okB_iff.2 ⟨by dsimp only; omega, by dsimp only; omega, by dsimp only; omega, by dsimp only; omega⟩), trivial⟩
      case measure => simp [intOf]; omega
    · obtain rfl : j = L := by omega
      have HK : Hid (∀ y ∈ l.take j, y.okB = true) := hall
      clear hall
      go_wp2
      go_ret
      refine ⟨?_, rfl⟩
      have := HK.out
      rw [List.take_of_length_le (by rw [HS.out.2]; exact Nat.le_refl _)] at this
      rw [may_iff.2 ⟨by rw [HS.out.2]; omega, by rw [HS.out.2]; omega, this⟩]
      rfl

set_option maxHeartbeats 1000000 in
theorem rbegin_any (a : Option Addr) (c : Nat) (l : List Win) (k : Nat) (hk : k ≤ l.length) (w : World) (h1 : SegA Win.vs 3 w a l) (hl1 : l.length ≤ c ∧ c ≤ maxLen) (hm : may l = true) :
    Calls Try.prog 34 #[.slice a l.length c, .int .i64 k] w fun e w' => e = .returned (.int .i64 (beg l k)) ∧ Keeps (fun _ => False) w w' ∧ w'.heap.size = w.heap.size := by
  obtain ⟨L, hL⟩ : ∃ L, l.length = L := ⟨_, rfl⟩
  have HS : Hid (SegA Win.vs 3 w a l ∧ l.length = L ∧ may l = true) := ⟨h1, hL, hm⟩
  have hL16 := (may_iff.1 hm).2.1
  rw [hL] at hl1 hk hL16 ⊢
  have hc1 : (L : Int) ≤ c := by omega
  have hc3 : (c : Int) ≤ 9223372036854775807 := by unfold maxLen at hl1; omega
  clear h1 hL hl1 hm
  go_enter Try.func34, Try.ntmps34
  go_wp2
  go_loopw [5, 6] (fun z i wr => ∃ j : Nat, j ≤ k ∧ i = .int .i64 j ∧ z = .int .i64 (beg l j) ∧ Keeps (fun _ => False) w wr ∧ wr.heap.size = w.heap.size) (fun _ i _ => k - (intOf i).toNat)
  case atStart => exact ⟨0, by omega, rfl, rfl, Keeps.refl _ _, rfl⟩
  case round =>
    obtain ⟨j, hj, rfl, rfl, hK, hsz⟩ := hrel
    by_cases hlt : j < k
    · obtain ⟨y, hy⟩ : ∃ y, l[j]? = some y := ⟨_, List.getElem?_eq_getElem (by have := HS.out.2.1; omega)⟩
      obtain ⟨g1, o1, rfl, hg1⟩ := (HS.out.1.kept hK fun _ _ _ e => e).at hy
      have y0 := hg1 0 _ rfl
      rw [Nat.add_zero] at y0
      have y1 := hg1 1 _ rfl
      have y2 := hg1 2 _ rfl
      obtain ⟨B, hB⟩ : ∃ B, beg l j = B := ⟨_, rfl⟩
      have hb := beg_bound (may_iff.1 HS.out.2.2).2.2 j
      have hy4 := Win.okB_iff.1 ((may_iff.1 HS.out.2.2).2.2 _ (List.mem_of_getElem? hy))
      have HK : Hid (Keeps (fun _ => False) w wr ∧ wr.heap.size = w.heap.size ∧ beg l (j + 1) = B + (y.u + y.s)) := ⟨hK, hsz, by rw [beg_succ hy, hB]⟩
      rw [hB] at hb ⊢
      have hB1 : 0 ≤ B ∧ B ≤ 524288 := by have := HS.out.2.1; omega
      clear hy hg1 hK hsz hb hB
      obtain ⟨p, u, s⟩ := y
      dsimp only at hy4
      have q1 : IntKind.i64.wrap (u + s) = u + s := by rw [IntKind.wrap_i64]; omega
      have q2 : IntKind.i64.wrap (B + (u + s)) = B + (u + s) := by rw [IntKind.wrap_i64]; omega
      go_wp2
      go_quiet (fail)
      clear y0 y1 y2
      go_wp2
      go_roundw
      case rel => exact ⟨j + 1, by omega, by go_num, by rw [HK.out.2.2], HK.out.1.drewN _, HK.out.2.1⟩
      case measure => simp [intOf]; omega
    · obtain rfl : j = k := by omega
      have HK : Hid (Keeps (fun _ => False) w wr ∧ wr.heap.size = w.heap.size) := ⟨hK, hsz⟩
      clear hK hsz
      go_wp2
      go_ret
      exact ⟨rfl, HK.out.1, HK.out.2⟩
end Go.Proofs.Ytnkfdmlpjgmckaa
