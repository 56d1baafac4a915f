import Derived.Test.YtnkfdmlpjgmckabSq
import Derived.Test.YtnkfdmlpjgmckabQ
namespace Go.Proofs.Ytnkfdmlpjgmckab
open Go.RowKit
set_option linter.unusedVariables false
set_option maxRecDepth 6000

theorem useW_bound {p : Int} {ws : List Win} (h : ∀ y ∈ ws, y.okB = true) (j : Nat) : 0 ≤ useW p ws j ∧ useW p ws j ≤ 16384 * min j ws.length := by
  induction j with
  | zero => simp [useW]
  | succ j ih =>
    cases hy : ws[j]? with
    | none =>
      have := List.getElem?_eq_none_iff.1 hy
      have e : useW p ws (j + 1) = useW p ws j := by simp only [useW, hy]
      omega
    | some y =>
      have hj := (List.getElem?_eq_some_iff.1 hy).1
      have := Win.okB_iff.1 (h y (List.mem_of_getElem? hy))
      by_cases hp : y.p = p
      · rw [useW_in hy hp]; omega
      · rw [useW_out hy hp]; omega
theorem useAll_bound {p : Int} {cs : List Core} (hm : allMay cs = true) (k : Nat) : 0 ≤ useAll p cs k ∧ useAll p cs k ≤ 16384 * tot cs k := by
  induction k with
  | zero => simp [useAll]; omega
  | succ k ih =>
    cases hX : cs[k]? with
    | none =>
      have e : useAll p cs (k + 1) = useAll p cs k := by simp only [useAll, hX]
      have := tot_le (cs := cs) (i := k) (j := k + 1) (by omega)
      omega
    | some X =>
      unfold allMay at hm
      rw [List.all_eq_true] at hm
      have := useW_bound (p := p) (may_iff.1 (hm X (List.mem_of_getElem? hX))).2.2 X.ws.length
      rw [useAll_succ hX, tot_succ hX]
      omega
/-- The spans stand core by core, and their ends are small. -/
theorem pick_core {p : Int} {k : Nat} {ws : List Win} (j : Nat) {s : Spn} (h : s ∈ pick p k ws j) : s.core = k := by
  induction j with
  | zero => cases h
  | succ j ih =>
    cases hy : ws[j]? with
    | none => simp only [pick, hy] at h; exact ih h
    | some y =>
      by_cases hp : y.p = p
      · rw [pick_in hy hp, List.mem_append] at h
        rcases h with h | h
        · exact ih h
        · simp at h; rw [h]
      · rw [pick_out hy hp] at h; exact ih h
theorem pickAll_core {p : Int} {cs : List Core} (k : Nat) {s : Spn} (h : s ∈ pickAll p cs k) : s.core < k := by
  induction k with
  | zero => cases h
  | succ k ih =>
    cases hX : cs[k]? with
    | none => simp only [pickAll, hX] at h; have := ih h; omega
    | some X =>
      rw [pickAll_succ hX, List.mem_append] at h
      rcases h with h | h
      · have := ih h; omega
      · have := pick_core _ h; omega
theorem pickAll_sorted {p : Int} {cs : List Core} (k : Nat) {i j : Nat} {a b : Spn} (hij : i ≤ j) (ha : (pickAll p cs k)[i]? = some a) (hb : (pickAll p cs k)[j]? = some b) : a.core ≤ b.core := by
  induction k generalizing i j with
  | zero => simp [pickAll] at ha
  | succ k ih =>
    cases hX : cs[k]? with
    | none => simp only [pickAll, hX] at ha hb; exact ih hij ha hb
    | some X =>
      rw [pickAll_succ hX] at ha hb
      by_cases h1 : j < (pickAll p cs k).length
      · rw [List.getElem?_append_left (by omega)] at ha hb
        exact ih hij ha hb
      · rw [List.getElem?_append_right (by omega)] at hb
        have hb' := pick_core _ (List.mem_of_getElem? hb)
        have ha' := List.mem_of_getElem? ha
        rw [List.mem_append] at ha'
        rcases ha' with h | h
        · have := pickAll_core _ h; omega
        · have := pick_core _ h; omega
theorem SpOf.small {p : Int} {cs : List Core} {s : Spn} {u : Int} (h : SpOf p cs s u) (hm : allMay cs = true) : 0 ≤ s.fr ∧ s.fr ≤ 524288 ∧ 0 ≤ s.til ∧ s.til ≤ 524288 := by
  obtain ⟨k, i, X, y, rfl, hX, hy, hp, rfl⟩ := h
  unfold allMay at hm
  rw [List.all_eq_true] at hm
  have hm := may_iff.1 (hm X (List.mem_of_getElem? hX))
  have h1 := beg_bound hm.2.2 i
  have h2 := beg_bound hm.2.2 (i + 1)
  dsimp only
  omega
theorem pickAll_small {p : Int} {cs : List Core} (hm : allMay cs = true) {i : Nat} {s : Spn} (h : (pickAll p cs cs.length)[i]? = some s) : 0 ≤ s.fr ∧ s.fr ≤ 524288 ∧ 0 ≤ s.til ∧ s.til ≤ 524288 := by
  obtain ⟨us, h1, h2, h3⟩ := pickAll_use (p := p) (cs := cs) cs.length (Nat.le_refl _)
  obtain ⟨u, hu⟩ : ∃ u, us[i]? = some u := ⟨_, List.getElem?_eq_getElem (by have := (List.getElem?_eq_some_iff.1 h).1; omega)⟩
  exact (h3 i s u h hu).small hm

theorem pick_mem {p : Int} {k : Nat} {ws : List Win} (j : Nat) {s : Spn} (h : s ∈ pick p k ws j) : ∃ m : Nat, m < j ∧ s = ⟨k, m, beg ws m, beg ws (m + 1)⟩ := by
  induction j with
  | zero => cases h
  | succ j ih =>
    cases hy : ws[j]? with
    | none => simp only [pick, hy] at h; obtain ⟨m, h1, h2⟩ := ih h; exact ⟨m, by omega, h2⟩
    | some y =>
      by_cases hp : y.p = p
      · rw [pick_in hy hp, List.mem_append] at h
        rcases h with h | h
        · obtain ⟨m, h1, h2⟩ := ih h; exact ⟨m, by omega, h2⟩
        · simp at h; exact ⟨j, by omega, h⟩
      · rw [pick_out hy hp] at h; obtain ⟨m, h1, h2⟩ := ih h; exact ⟨m, by omega, h2⟩
theorem pick_ord {p : Int} {k : Nat} {ws : List Win} (hok : ∀ y ∈ ws, y.okB = true) (n : Nat) {i j : Nat} {a b : Spn} (hij : i < j) (ha : (pick p k ws n)[i]? = some a) (hb : (pick p k ws n)[j]? = some b) : a.til ≤ b.fr ∧ a.win < b.win := by
  induction n generalizing i j with
  | zero => simp [pick] at ha
  | succ n ih =>
    cases hy : ws[n]? with
    | none => simp only [pick, hy] at ha hb; exact ih hij ha hb
    | some y =>
      by_cases hp : y.p = p
      · rw [pick_in hy hp] at ha hb
        by_cases hj : j < (pick p k ws n).length
        · rw [List.getElem?_append_left (by omega)] at ha hb
          exact ih hij ha hb
        · rw [List.getElem?_append_right (by omega)] at hb
          have hj' : j = (pick p k ws n).length := by
            have := (List.getElem?_eq_some_iff.1 hb).1
            simp at this; omega
          subst hj'
          simp at hb
          rw [List.getElem?_append_left (by omega)] at ha
          obtain ⟨m, h1, rfl⟩ := pick_mem _ (List.mem_of_getElem? ha)
          subst hb
          have := beg_le hok (i := m + 1) (j := n) (by omega)
          dsimp only
          omega
      · rw [pick_out hy hp] at ha hb; exact ih hij ha hb
theorem pickAll_ord {p : Int} {cs : List Core} (hm : allMay cs = true) (k : Nat) {i j : Nat} {a b : Spn} (hij : i < j) (ha : (pickAll p cs k)[i]? = some a) (hb : (pickAll p cs k)[j]? = some b) :
    a.core < b.core ∨ (a.core = b.core ∧ a.til ≤ b.fr ∧ a.win < b.win) := by
  induction k generalizing i j with
  | zero => simp [pickAll] at ha
  | succ k ih =>
    cases hX : cs[k]? with
    | none => simp only [pickAll, hX] at ha hb; exact ih hij ha hb
    | some X =>
      rw [pickAll_succ hX] at ha hb
      have hmx : may X.ws = true := by have h := hm; unfold allMay at h; rw [List.all_eq_true] at h; exact h X (List.mem_of_getElem? hX)
      by_cases h1 : j < (pickAll p cs k).length
      · rw [List.getElem?_append_left (by omega)] at ha hb
        exact ih hij ha hb
      · rw [List.getElem?_append_right (by omega)] at hb
        have hb' := pick_core _ (List.mem_of_getElem? hb)
        by_cases h2 : i < (pickAll p cs k).length
        · rw [List.getElem?_append_left h2] at ha
          have := pickAll_core _ (List.mem_of_getElem? ha)
          left; omega
        · rw [List.getElem?_append_right (by omega)] at ha
          have ha' := pick_core _ (List.mem_of_getElem? ha)
          right
          exact ⟨by omega, pick_ord (may_iff.1 hmx).2.2 _ (by omega) ha hb⟩
theorem pick_nil {p : Int} {k : Nat} {ws : List Win} (j : Nat) (hj : j ≤ ws.length) : pick p k ws j = [] ↔ srv p (ws.take j) = false := by
  induction j with
  | zero => simp [pick, srv]
  | succ j ih =>
    obtain ⟨y, hy⟩ : ∃ y, ws[j]? = some y := ⟨_, List.getElem?_eq_getElem (by omega)⟩
    have ht : srv p (ws.take (j + 1)) = (srv p (ws.take j) || (y.p == p)) := by
      unfold srv; rw [List.take_add_one, hy]; simp
    by_cases hp : y.p = p
    · rw [pick_in hy hp, ht]; simp [hp]
    · rw [pick_out hy hp, ht, ih (by omega)]; simp [hp]
theorem pickAll_nil {p : Int} {cs : List Core} (k : Nat) (hk : k ≤ cs.length) : pickAll p cs k = [] ↔ ∀ (i : Nat) (Y : Core), i < k → cs[i]? = some Y → srv p Y.ws = false := by
  induction k with
  | zero => simp [pickAll]
  | succ k ih =>
    obtain ⟨X, hX⟩ : ∃ X, cs[k]? = some X := ⟨_, List.getElem?_eq_getElem (by omega)⟩
    have hn := pick_nil (p := p) (k := k) (ws := X.ws) X.ws.length (Nat.le_refl _)
    rw [List.take_length] at hn
    rw [pickAll_succ hX, List.append_eq_nil_iff, ih (by omega), hn]
    constructor
    · rintro ⟨h1, h2⟩ i Y hi hY
      by_cases e : i = k
      · subst e; rw [hX] at hY; cases hY; exact h2
      · exact h1 i Y (by omega) hY
    · intro h
      exact ⟨fun i Y hi hY => h i Y (by omega) hY, h k X (by omega) hX⟩
theorem useW_nil {p : Int} {k : Nat} {ws : List Win} (j : Nat) (h : pick p k ws j = []) : useW p ws j = 0 := by
  induction j with
  | zero => rfl
  | succ j ih =>
    cases hy : ws[j]? with
    | none => simp only [pick, hy] at h; simp only [useW, hy]; exact ih h
    | some y =>
      by_cases hp : y.p = p
      · rw [pick_in hy hp] at h; simp at h
      · rw [pick_out hy hp] at h; rw [useW_out hy hp]; exact ih h
theorem useW_beg {p : Int} {ws : List Win} (hok : ∀ y ∈ ws, y.okB = true) (j : Nat) : useW p ws j ≤ beg ws j := by
  induction j with
  | zero => simp [useW, beg]
  | succ j ih =>
    cases hy : ws[j]? with
    | none =>
      have e : useW p ws (j + 1) = useW p ws j := by simp only [useW, hy]
      have := List.getElem?_eq_none_iff.1 hy
      have e2 : beg ws (j + 1) = beg ws j := by unfold beg; rw [List.take_of_length_le (by omega), List.take_of_length_le (by omega)]
      omega
    | some y =>
      have := Win.okB_iff.1 (hok y (List.mem_of_getElem? hy))
      rw [beg_succ hy]
      by_cases hp : y.p = p
      · rw [useW_in hy hp]; omega
      · rw [useW_out hy hp]; omega
theorem useAll_one {p mj : Int} {cs : List Core} (hf : fills mj cs = true) {k : Nat} (j : Nat) (hj : j ≤ cs.length) (h : ∀ s ∈ pickAll p cs j, s.core = k) : useAll p cs j ≤ if k < j then mj else 0 := by
  have hm := fills_may hf
  have hmj : 1 ≤ mj := by unfold fills at hf; simp at hf; exact hf.1.1
  induction j with
  | zero => simp [useAll]
  | succ j ih =>
    obtain ⟨X, hX⟩ : ∃ X, cs[j]? = some X := ⟨_, List.getElem?_eq_getElem (by omega)⟩
    have hmx : may X.ws = true := by have h := hm; unfold allMay at h; rw [List.all_eq_true] at h; exact h X (List.mem_of_getElem? hX)
    have hbx : beg X.ws X.ws.length = mj := by
      have h := hf
      unfold fills fillsC at h
      rw [Bool.and_eq_true, List.all_eq_true] at h
      have := h.2 X (List.mem_of_getElem? hX)
      simp at this; exact this.2
    rw [pickAll_succ hX] at h
    have ih := ih (by omega) (fun s hs => h s (List.mem_append_left _ hs))
    rw [useAll_succ hX]
    by_cases e : j = k
    · subst e
      have h0 : pickAll p cs j = [] := by
        apply List.eq_nil_iff_forall_not_mem.2
        intro s hs
        have h1 := h s (List.mem_append_left _ hs)
        have h2 := pickAll_core _ hs
        omega
      have := useW_beg (p := p) (may_iff.1 hmx).2.2 X.ws.length
      rw [if_neg (by omega)] at ih
      rw [if_pos (by omega)]
      omega
    · have h0 : pick p j X.ws X.ws.length = [] := by
        apply List.eq_nil_iff_forall_not_mem.2
        intro s hs
        have h1 := h s (List.mem_append_right _ hs)
        have h2 := pick_core _ hs
        omega
      rw [useW_nil _ h0]
      by_cases h3 : k < j
      · rw [if_pos h3] at ih; rw [if_pos (by omega)]; omega
      · rw [if_neg h3] at ih; rw [if_neg (by omega)]; omega
theorem useAll_le {p mj : Int} {cs : List Core} (hf : fills mj cs = true) {a b : Spn} (ha : (pickAll p cs cs.length)[0]? = some a) (hb : (pickAll p cs cs.length)[(pickAll p cs cs.length).length - 1]? = some b) (hab : a.core = b.core) : useAll p cs cs.length ≤ mj := by
  have hmj : 1 ≤ mj := by unfold fills at hf; simp at hf; exact hf.1.1
  obtain ⟨us, h1, h2, h3⟩ := pickAll_use (p := p) (cs := cs) cs.length (Nat.le_refl _)
  obtain ⟨u, hu⟩ : ∃ u, us[0]? = some u := ⟨_, List.getElem?_eq_getElem (by have := (List.getElem?_eq_some_iff.1 ha).1; omega)⟩
  obtain ⟨k, i, X, y, rfl, _⟩ := h3 0 a u ha hu
  have := useAll_one (p := p) hf (k := k) cs.length (Nat.le_refl _) (fun s hs => by
    obtain ⟨i, hi⟩ := List.getElem?_of_mem hs
    have g1 := pickAll_sorted (p := p) cs.length (Nat.zero_le i) ha hi
    have g2 := pickAll_sorted (p := p) cs.length (i := i) (j := (pickAll p cs cs.length).length - 1) (by have := (List.getElem?_eq_some_iff.1 hi).1; omega) hi hb
    dsimp only at g1 hab
    omega)
  split at this <;> omega
end Go.Proofs.Ytnkfdmlpjgmckab
