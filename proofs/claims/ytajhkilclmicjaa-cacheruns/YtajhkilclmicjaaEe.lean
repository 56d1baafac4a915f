import Derived.Test.YtajhkilclmicjaaEd
namespace Go.Proofs.Ytajhkilclmicjaa
open Go.RowKit Go.Shelf
set_option linter.unusedVariables false
set_option linter.unusedSimpArgs false

/-- Both caches hold the same. -/
structure Rel (st : Nat → List Int) (us : List Int) : Prop where
  eq : ∀ i : Nat, i < 4 → hd (i : Int) us = st i
  pos : ∀ x ∈ us, 0 ≤ x

theorem flt_append (s : Int) (a b : List Int) : flt s (a ++ b) = flt s a ++ flt s b := by unfold flt; rw [List.filter_append]
theorem flt_all {s : Int} {l : List Int} (h : ∀ x ∈ l, x.tmod 4 = s) : flt s l = l := by
  unfold flt
  rw [List.filter_eq_self]
  intro x hx
  simpa using h x hx
theorem flt_no {s : Int} {l : List Int} (h : ∀ x ∈ l, x.tmod 4 ≠ s) : flt s l = [] := by
  unfold flt
  rw [List.filter_eq_nil_iff]
  intro x hx
  simpa using h x hx
theorem mem_hd {s x : Int} {us : List Int} (h : x ∈ hd s us) : x ∈ us ∧ x.tmod 4 = s := by
  have h1 : x ∈ flt s us := List.mem_of_mem_drop h
  unfold flt at h1
  rw [List.mem_filter] at h1
  exact ⟨h1.1, by simpa using h1.2⟩
theorem mem_wo {n x : Int} {l : List Int} (h : x ∈ woN n l) : x ∈ l ∧ x ≠ n := by
  unfold woN at h
  rw [List.mem_filter] at h
  exact ⟨h.1, by simpa using h.2⟩
theorem lastTwo_short {l : List Int} (h : l.length ≤ 2) : lastTwo l = l := by
  unfold lastTwo
  rw [show l.length - 2 = 0 by omega]
  rfl

theorem rel_none : Rel (fun _ => []) [] := ⟨fun i _ => by simp [hd, flt, lastTwo], fun x hx => by simp at hx⟩

theorem flt_pre (l : Int) (us : List Int) (s : Nat) : ∀ j, flt (s : Int) (pre l us j) = if s < j then woN l (hd (s : Int) us) else []
  | 0 => by simp [pre, flt]
  | j + 1 => by
    rw [pre_succ, flt_append, flt_pre l us s j]
    by_cases e : s = j
    · subst e
      rw [if_neg (by omega), if_pos (by omega), List.nil_append]
      exact flt_all fun x hx => (mem_hd (mem_wo hx).1).2
    · rw [flt_no (l := woN l (hd (j : Int) us)) fun x hx h => e (by have := (mem_hd (mem_wo hx).1).2; omega), List.append_nil]
      by_cases h : s < j
      · rw [if_pos h, if_pos (by omega)]
      · rw [if_neg h, if_neg (by omega)]

theorem wo_not {n : Int} {l : List Int} (h : n ∉ l) : woN n l = l := by
  unfold woN
  rw [List.filter_eq_self]
  intro x hx
  simp only [bne_iff_ne, ne_eq]
  exact fun e => h (e ▸ hx)
theorem wo_erase {n : Int} {l : List Int} (h : l.Nodup) : woN n l = l.erase n := by
  rw [h.erase_eq_filter]
  unfold woN
  rfl

theorem rel_touch {st : Nat → List Int} {us : List Int} (h : Rel st us) (hn : ∀ i, i < 4 → (st i).Nodup) (l : Nat) : Rel (step l st) (tch l us) := by
  refine ⟨fun i hi => ?_, fun x hx => ?_⟩
  · have hf := h.eq i hi
    have hl2 : (st i).length ≤ 2 := by rw [← hf]; exact hd_len _ _
    have htm : ((l : Int)).tmod 4 = ((l % 4 : Nat) : Int) := by rw [Int.tmod_eq_emod_of_nonneg (by omega)]; omega
    unfold hd tch
    rw [flt_append, flt_pre, if_pos hi, hf]
    by_cases e : i = l % 4
    · subst e
      rw [step_same, flt_all (l := [(l : Int)]) fun x hx => by simp at hx; rw [hx]; exact htm]
      unfold putL
      by_cases hm : (l : Int) ∈ st (l % 4)
      · rw [if_pos hm, ← wo_erase (hn _ hi)]
        refine lastTwo_short ?_
        rw [wo_erase (hn _ hi), List.length_append, List.length_erase_of_mem hm]
        simp
        omega
      · rw [if_neg hm, wo_not hm]
        by_cases h2 : (st (l % 4)).length < 2
        · rw [if_pos h2]
          exact lastTwo_short (by rw [List.length_append]; simp; omega)
        · rw [if_neg h2]
          have h3 : (st (l % 4)).length = 2 := by omega
          unfold lastTwo
          rw [List.length_append, h3]
          match hst : st (l % 4), h3 with
          | [x, y], _ => rfl
    · rw [step_other e, flt_no (l := [(l : Int)]) fun x hx h => e (by simp at hx; subst hx; omega), List.append_nil]
      rw [wo_not]
      · exact lastTwo_short hl2
      · intro hm
        rw [← hf] at hm
        have := (mem_hd hm).2
        omega
  · unfold tch pre at hx
    rcases List.mem_append.1 hx with h1 | h1
    · obtain ⟨s, _, h2⟩ := List.mem_flatMap.1 h1
      exact h.pos x (mem_hd (mem_wo h2).1).1
    · simp at h1
      omega

theorem rel_has {st : Nat → List Int} {us : List Int} (h : Rel st us) (l : Nat) : decide ((l : Int) ∈ st (l % 4)) = has us l := by
  unfold has
  rw [h.eq (l % 4) (by omega)]
theorem rel_cost {st : Nat → List Int} {us : List Int} (h : Rel st us) (l : Nat) : cost l st = costR l us := by
  unfold cost costR
  rw [← rel_has h]
  by_cases hm : (l : Int) ∈ st (l % 4) <;> simp [hm]

theorem rel_restore {lls : List (List Int)} (h : MayL lls) (hl : lls.length = 4) : Rel (nth lls) lls.flatten := by
  obtain ⟨hg, h2⟩ := h.good hl
  obtain ⟨a, b, c, d, rfl⟩ : ∃ a b c d, lls = [a, b, c, d] := by
    match lls, hl with
    | [a, b, c, d], _ => exact ⟨a, b, c, d, rfl⟩
  have htm : ∀ i : Nat, i < 4 → ∀ z ∈ nth [a, b, c, d] i, z.tmod 4 = (i : Int) := fun i hi z hz => by
    obtain ⟨h1, h2, h3⟩ := hg i hi z hz
    rw [Int.tmod_eq_emod_of_nonneg h1]; exact h3
  refine ⟨fun i hi => ?_, fun x hx => ?_⟩
  · have e : flt (i : Int) [a, b, c, d].flatten = nth [a, b, c, d] i := by
      have ha := htm 0 (by omega); have hb := htm 1 (by omega); have hc := htm 2 (by omega); have hd' := htm 3 (by omega)
      change ∀ z ∈ a, z.tmod 4 = ((0 : Nat) : Int) at ha
      change ∀ z ∈ b, z.tmod 4 = ((1 : Nat) : Int) at hb
      change ∀ z ∈ c, z.tmod 4 = ((2 : Nat) : Int) at hc
      change ∀ z ∈ d, z.tmod 4 = ((3 : Nat) : Int) at hd'
      simp only [List.flatten_cons, List.flatten_nil, List.append_nil, flt_append]
      have : i = 0 ∨ i = 1 ∨ i = 2 ∨ i = 3 := by omega
      rcases this with rfl | rfl | rfl | rfl
      · rw [flt_all ha, flt_no fun x hx h => by have := hb x hx; omega, flt_no fun x hx h => by have := hc x hx; omega, flt_no fun x hx h => by have := hd' x hx; omega]
        simp [nth]
      · rw [flt_all hb, flt_no fun x hx h => by have := ha x hx; omega, flt_no fun x hx h => by have := hc x hx; omega, flt_no fun x hx h => by have := hd' x hx; omega]
        simp [nth]
      · rw [flt_all hc, flt_no fun x hx h => by have := ha x hx; omega, flt_no fun x hx h => by have := hb x hx; omega, flt_no fun x hx h => by have := hd' x hx; omega]
        simp [nth]
      · rw [flt_all hd', flt_no fun x hx h => by have := ha x hx; omega, flt_no fun x hx h => by have := hb x hx; omega, flt_no fun x hx h => by have := hc x hx; omega]
        simp [nth]
    unfold hd
    rw [e]
    exact lastTwo_short (h2 i hi).1
  · obtain ⟨l, hl1, hl2⟩ := List.mem_flatten.1 hx
    obtain ⟨i, hi, e⟩ := List.mem_iff_getElem.1 hl1
    have : nth [a, b, c, d] i = l := by unfold nth; rw [List.getElem?_eq_getElem hi, e]; rfl
    exact (hg i hi x (by rw [this]; exact hl2)).1

end Go.Proofs.Ytajhkilclmicjaa
