import Derived.Test.YtnkfdmlpjgmckaaN
import Derived.Test.YtnkfdmlpjgmckaaFl
namespace Go.Proofs.Ytnkfdmlpjgmckaa
open Go.RowKit
set_option linter.unusedVariables false
set_option maxRecDepth 6000

theorem isPartition_any (x : Cfg) (p : Int) (w : World) :
    Calls Try.prog 38 #[x.v, .int .i64 p] w fun e w' => e = .returned (.bool (decide (0 ≤ p) && decide (p < x.ps.length))) ∧ Keeps (fun _ => False) w w' := by
  go_enter Try.func38, Try.ntmps38
  by_cases h1 : 0 ≤ p
  · have e1 : decide (0 ≤ p) = true := by simp [h1]
    go_wp2
    go_ret
    refine ⟨?_, (Keeps.refl _ _).alloc _⟩
    simp [h1]
  · have e1 : decide (0 ≤ p) = false := by simp [h1]
    go_wp2
    go_ret
    refine ⟨?_, (Keeps.refl _ _).alloc _⟩
    simp

/-- The Usable cycles of a partition on a core, of the first so many windows. -/
def useW (p : Int) (ws : List Win) : Nat → Int
  | 0 => 0
  | j + 1 => match ws[j]? with
    | some y => if y.p = p then useW p ws j + y.u else useW p ws j
    | none => useW p ws j
def useAll (p : Int) (cs : List Core) : Nat → Int
  | 0 => 0
  | k + 1 => match cs[k]? with
    | some X => useAll p cs k + useW p X.ws X.ws.length
    | none => useAll p cs k
theorem useW_in {p : Int} {ws : List Win} {j : Nat} {y : Win} (hy : ws[j]? = some y) (h : y.p = p) : useW p ws (j + 1) = useW p ws j + y.u := by simp only [useW, hy, if_pos h]
theorem useW_out {p : Int} {ws : List Win} {j : Nat} {y : Win} (hy : ws[j]? = some y) (h : ¬ y.p = p) : useW p ws (j + 1) = useW p ws j := by simp only [useW, hy, if_neg h]
theorem useAll_succ {p : Int} {cs : List Core} {k : Nat} {X : Core} (hX : cs[k]? = some X) : useAll p cs (k + 1) = useAll p cs k + useW p X.ws X.ws.length := by simp only [useAll, hX]
/-- A span is a window of the partition. -/
def SpOf (p : Int) (cs : List Core) (s : Spn) (u : Int) : Prop := ∃ (k i : Nat) (X : Core) (y : Win), s = ⟨k, i, beg X.ws i, beg X.ws (i + 1)⟩ ∧ cs[k]? = some X ∧ X.ws[i]? = some y ∧ y.p = p ∧ u = y.u
/-- The spans and their Usable cycles, one by one. -/
theorem pick_use {p : Int} {cs : List Core} {k : Nat} {X : Core} (hX : cs[k]? = some X) (j : Nat) (hj : j ≤ X.ws.length) :
    ∃ us : List Int, us.length = (pick p k X.ws j).length ∧ us.sum = useW p X.ws j ∧ ∀ (i : Nat) (s : Spn) (u : Int), (pick p k X.ws j)[i]? = some s → us[i]? = some u → SpOf p cs s u := by
  induction j with
  | zero => exact ⟨[], rfl, rfl, fun i s u h => by simp [pick] at h⟩
  | succ j ih =>
    obtain ⟨us, h1, h2, h3⟩ := ih (by omega)
    obtain ⟨y, hy⟩ : ∃ y, X.ws[j]? = some y := ⟨_, List.getElem?_eq_getElem (by omega)⟩
    by_cases h : y.p = p
    · refine ⟨us ++ [y.u], by rw [pick_in hy h]; simp [h1], by rw [useW_in hy h]; simp [h2], fun i s u hs hu => ?_⟩
      rw [pick_in hy h] at hs
      by_cases hi : i < us.length
      · rw [List.getElem?_append_left (by omega)] at hs hu
        exact h3 i s u hs hu
      · rw [List.getElem?_append_right (by omega)] at hs hu
        have hi' : i = us.length := by
          have := (List.getElem?_eq_some_iff.1 hu).1
          simp at this; omega
        subst hi'
        simp at hu
        rw [h1] at hs
        simp at hs
        subst hs hu
        exact ⟨k, j, X, y, rfl, hX, hy, h, rfl⟩
    · refine ⟨us, by rw [pick_out hy h]; exact h1, by rw [useW_out hy h]; exact h2, fun i s u hs hu => ?_⟩
      rw [pick_out hy h] at hs
      exact h3 i s u hs hu
theorem pickAll_use {p : Int} {cs : List Core} (k : Nat) (hk : k ≤ cs.length) :
    ∃ us : List Int, us.length = (pickAll p cs k).length ∧ us.sum = useAll p cs k ∧ ∀ (i : Nat) (s : Spn) (u : Int), (pickAll p cs k)[i]? = some s → us[i]? = some u → SpOf p cs s u := by
  induction k with
  | zero => exact ⟨[], rfl, rfl, fun i s u h => by simp [pickAll] at h⟩
  | succ k ih =>
    obtain ⟨us, h1, h2, h3⟩ := ih (by omega)
    obtain ⟨X, hX⟩ : ∃ X, cs[k]? = some X := ⟨_, List.getElem?_eq_getElem (by omega)⟩
    obtain ⟨vs, g1, g2, g3⟩ := pick_use (p := p) hX X.ws.length (Nat.le_refl _)
    refine ⟨us ++ vs, by rw [pickAll_succ hX]; simp [h1, g1], by rw [useAll_succ hX]; simp [h2, g2], fun i s u hs hu => ?_⟩
    rw [pickAll_succ hX] at hs
    by_cases hi : i < us.length
    · rw [List.getElem?_append_left (by omega)] at hs hu
      exact h3 i s u hs hu
    · rw [List.getElem?_append_right (by omega)] at hs hu
      rw [h1] at hu
      exact g3 _ s u hs hu
theorem SpOf.bound {p : Int} {cs : List Core} {s : Spn} {u : Int} (h : SpOf p cs s u) (hm : allMay cs = true) : 0 ≤ u ∧ u ≤ 16384 := by
  obtain ⟨k, i, X, y, rfl, hX, hy, hp, rfl⟩ := h
  unfold allMay at hm
  rw [List.all_eq_true] at hm
  have := Win.okB_iff.1 ((may_iff.1 (hm X (List.mem_of_getElem? hX))).2.2 y (List.mem_of_getElem? hy))
  omega
theorem sum_take_succ {us : List Int} {j : Nat} {u : Int} (h : us[j]? = some u) : (us.take (j + 1)).sum = (us.take j).sum + u := by
  rw [List.take_add_one, h]; simp
theorem sum_bound {us : List Int} (h : ∀ (i : Nat) (u : Int), us[i]? = some u → 0 ≤ u ∧ u ≤ 16384) (j : Nat) : 0 ≤ (us.take j).sum ∧ (us.take j).sum ≤ 16384 * min j us.length := by
  induction j with
  | zero => simp
  | succ j ih =>
    by_cases hj : j < us.length
    · have hu : us[j]? = some us[j] := List.getElem?_eq_getElem hj
      have := h j _ hu
      rw [sum_take_succ hu]
      omega
    · rw [List.take_of_length_le (by omega)]
      rw [List.take_of_length_le (by omega)] at ih
      omega
end Go.Proofs.Ytnkfdmlpjgmckaa
