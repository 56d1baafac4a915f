import Derived.Test.YtpccdhoaicabcaaBu
namespace Go.Proofs.Ytpccdhoaicabcaa
open Go.RowKit
set_option linter.unusedVariables false

/-- 256 numbers. -/
def tab (f : Nat → Int) : List Value := (List.range 256).map fun p => .int .i64 (f p)
theorem tab_length (f : Nat → Int) : (tab f).length = 256 := by simp [tab]
theorem tab_get (f : Nat → Int) (p : Nat) (h : p < 256) : (tab f)[p]? = some (.int .i64 (f p)) := by simp [tab, h]
theorem tab_set (f : Nat → Int) (q : Nat) (v : Int) : (tab f).set q (.int .i64 v) = tab (fun p => if p = q then v else f p) := by
  apply List.ext_getElem
  · simp [tab]
  · intro i h1 h2
    simp only [tab, List.length_map, List.length_range] at h2
    rw [List.getElem_set]
    simp only [tab, List.getElem_map, List.getElem_range]
    by_cases h : q = i
    · rw [if_pos h, if_pos h.symm]
    · rw [if_neg h, if_neg (fun e => h e.symm)]
theorem tab_congr {f g : Nat → Int} (h : ∀ p, p < 256 → f p = g p) : tab f = tab g := by
  unfold tab
  apply List.map_congr_left
  intro p hp
  rw [h p (by simpa using hp)]

/-- Which region has a page, -1: none. -/
def idx (rs : List Rgn) (p : Nat) : Int := match rs.findIdx? (fun r => r.has p) with | some i => (i : Int) | none => -1
theorem idx_nil (p : Nat) : idx [] p = -1 := rfl
theorem idx_neg {rs : List Rgn} {p : Nat} (h : ∀ r, r ∈ rs → r.has p = false) : idx rs p = -1 := by
  unfold idx
  rw [List.findIdx?_eq_none_iff.2 (fun r hr => by simp [h r hr])]
theorem idx_pos {rs : List Rgn} {p : Nat} (h : 0 ≤ idx rs p) : ∃ r, r ∈ rs ∧ r.has p = true := by
  unfold idx at h
  cases hf : rs.findIdx? (fun r => r.has p) with
  | none => rw [hf] at h; simp at h
  | some i =>
    have := (List.findIdx?_eq_some_iff_getElem.1 hf)
    obtain ⟨hi, h1, _⟩ := this
    exact ⟨rs[i], List.getElem_mem _, by simpa using h1⟩
theorem idx_find (rs : List Rgn) (p : Nat) : decide (0 ≤ idx rs p) = (findL rs p).isSome := by
  by_cases h : 0 ≤ idx rs p
  · obtain ⟨r, hr, hh⟩ := idx_pos h
    have : (rs.find? fun r => r.has p).isSome = true := List.find?_isSome.2 ⟨r, hr, hh⟩
    unfold findL
    rw [Option.isSome_map, this]; simp [h]
  · have hn : ∀ r, r ∈ rs → r.has p = false := by
      intro r hr
      rw [Bool.eq_false_iff]
      intro hh
      apply h
      unfold idx
      cases hf : rs.findIdx? (fun r => r.has p) with
      | none => exact absurd hh (by rw [List.findIdx?_eq_none_iff.1 hf r hr]; simp)
      | some i => simp
    have : (rs.find? fun r => r.has p) = none := List.find?_eq_none.2 (fun r hr => by simp [hn r hr])
    unfold findL
    rw [this]; simp; omega
theorem idx_snoc (rs : List Rgn) (r : Rgn) (p : Nat) : idx (rs ++ [r]) p = if 0 ≤ idx rs p then idx rs p else if r.has p then (rs.length : Int) else -1 := by
  unfold idx
  rw [List.findIdx?_append]
  cases hf : rs.findIdx? (fun r => r.has p) with
  | none =>
    simp only [Option.none_or]
    by_cases hh : r.has p = true
    · simp [hh, List.findIdx?_cons]
    · simp [hh, List.findIdx?_cons]
  | some i => simp

/-- The numbers while the pages of region i are told. -/
def ofK (rs : List Rgn) (r : Rgn) (i k : Nat) (p : Nat) : Int := if 0 ≤ idx rs p then idx rs p else if r.page ≤ p ∧ (p : Int) < r.page + k then (i : Int) else -1
theorem ofK_zero (rs : List Rgn) (r : Rgn) (i : Nat) (p : Nat) : ofK rs r i 0 p = idx rs p := by
  unfold ofK
  split
  · rfl
  · rw [if_neg (by omega)]
    rename_i h
    unfold idx at h ⊢
    split at h
    · omega
    · rfl
theorem ofK_full (rs : List Rgn) (r : Rgn) (k : Nat) (p : Nat) (hk : r.pages = k) : ofK rs r rs.length k p = idx (rs ++ [r]) p := by
  rw [idx_snoc]
  unfold ofK
  split
  · rfl
  · have : (r.has p = true) ↔ r.page ≤ p ∧ (p : Int) < r.page + k := by unfold Rgn.has; rw [hk]; simp
    by_cases h : r.page ≤ p ∧ (p : Int) < r.page + k
    · rw [if_pos h, if_pos (this.2 h)]
    · rw [if_neg h, if_neg (fun e => h (this.1 e))]
theorem ofK_step (rs : List Rgn) (r : Rgn) (i k q : Nat) (hq : (q : Int) = r.page + k) (hn : ¬ 0 ≤ idx rs q) (p : Nat) : (if p = q then (i : Int) else ofK rs r i k p) = ofK rs r i (k + 1) p := by
  unfold ofK
  by_cases h : p = q
  · subst h
    rw [if_pos rfl, if_neg hn, if_pos (by omega)]
  · rw [if_neg h]
    by_cases h2 : 0 ≤ idx rs p
    · rw [if_pos h2, if_pos h2]
    · rw [if_neg h2, if_neg h2]
      by_cases h3 : r.page ≤ p ∧ (p : Int) < r.page + k
      · rw [if_pos h3, if_pos (by omega)]
      · rw [if_neg h3, if_neg (by omega)]
theorem ofK_at (rs : List Rgn) (r : Rgn) (i k q : Nat) (hq : (q : Int) = r.page + k) : (0 ≤ ofK rs r i k q) ↔ 0 ≤ idx rs q := by
  unfold ofK
  by_cases h : 0 ≤ idx rs q
  · rw [if_pos h]
  · rw [if_neg h, if_neg (by omega)]
    constructor
    · intro h; omega
    · intro h'; exact absurd h' h

theorem meets_page {r o : Rgn} (hr : r.ok) (ho : o.ok) (h : meets r o) : ∃ k : Nat, (k : Int) < r.pages ∧ o.has (r.page.toNat + k) = true := by
  obtain ⟨h1, h2⟩ := h
  obtain ⟨a1, a2, a3, _⟩ := hr
  obtain ⟨b1, b2, b3, _⟩ := ho
  refine ⟨(max r.page o.page - r.page).toNat, by omega, ?_⟩
  unfold Rgn.has
  simp
  omega
theorem page_meets {r o : Rgn} {q : Nat} (h : r.has q = true) (h' : o.has q = true) : meets r o := by
  have a := has_bounds h
  have b := has_bounds h'
  exact ⟨by omega, by omega⟩

theorem may_next {rs : List Rgn} {j : Nat} {y : Rgn} (h : MayB (rs.take j)) (hy : rs[j]? = some y) (ho : y.ok) (hk : ∀ k : Nat, (k : Int) < y.pages → ¬ 0 ≤ idx (rs.take j) (y.page.toNat + k)) : MayB (rs.take (j + 1)) := by
  refine may_step h hy ho ?_
  rw [Bool.eq_false_iff]
  intro e
  obtain ⟨o, hoo, hd⟩ := List.any_eq_true.1 e
  obtain ⟨k, hk1, hk2⟩ := meets_page ho (may_ok h o hoo) (of_decide_eq_true hd)
  refine hk k hk1 ?_
  have h1 := idx_find (rs.take j) (y.page.toNat + k)
  have h2 : (findL (rs.take j) (y.page.toNat + k)).isSome = true := by
    unfold findL
    rw [Option.isSome_map]
    exact List.find?_isSome.2 ⟨o, hoo, hk2⟩
  rw [h2] at h1
  exact of_decide_eq_true h1
theorem may_twice {rs : List Rgn} {j : Nat} {y : Rgn} {k : Nat} (hy : rs[j]? = some y) (ho : y.ok) (hk : (k : Int) < y.pages) (h : 0 ≤ idx (rs.take j) (y.page.toNat + k)) : ¬ MayB rs := by
  obtain ⟨o, hoo, hh⟩ := idx_pos h
  refine may_not_meet hy (List.any_eq_true.2 ⟨o, hoo, decide_eq_true (page_meets (q := y.page.toNat + k) ?_ hh)⟩)
  obtain ⟨a1, a2, a3, _⟩ := ho
  unfold Rgn.has
  simp
  omega

end Go.Proofs.Ytpccdhoaicabcaa
