import Derived.Test.YtpccdhoaicabcaaK
namespace Go.Proofs.Ytpccdhoaicabcaa
set_option linter.unusedVariables false

/-- Which region has a page. -/
def Rgn.has (r : Rgn) (p : Nat) : Bool := decide (r.page ≤ p) && decide ((p : Int) < r.page + r.pages)
/-- Where a page stands: frame and rights. -/
def findL (rs : List Rgn) (p : Nat) : Option (Nat × Nat) := (rs.find? fun r => r.has p).map fun r => ((r.frame + ((p : Int) - r.page)).toNat, r.rights.toNat)

def encO : Option (Nat × Nat) → UInt32
  | some x => enc x.1 x.2
  | none => 0
def needB (f : Nat → Option (Nat × Nat)) (t : Nat) : Bool := (List.range 16).any fun i => (f (t * 16 + i)).isSome
def rowL (f : Nat → Option (Nat × Nat)) (t : Nat) : List UInt32 := (List.range 16).map fun i => encO (f (t * 16 + i))
/-- How many tables the first so many sixteens need. -/
def cnt (f : Nat → Option (Nat × Nat)) : Nat → Nat
  | 0 => 0
  | t + 1 => cnt f t + if needB f t then 1 else 0
/-- The root's word for a sixteen. -/
def topW (f : Nat → Option (Nat × Nat)) (ts : List Int) (t : Nat) : UInt32 := if needB f t then enc (ts.getD (cnt f t) 0).toNat 0 else 0
def topL (f : Nat → Option (Nat × Nat)) (ts : List Int) : List UInt32 := (List.range 16).map (topW f ts)
/-- The tables of the first so many sixteens laid down. -/
def layed (f : Nat → Option (Nat × Nat)) (ts : List Int) (xs : List UInt32) : Nat → List UInt32
  | 0 => xs
  | t + 1 => if needB f t then lay (layed f ts xs t) (16 * (ts.getD (cnt f t) 0).toNat) (rowL f t) else layed f ts xs t
def builtL (f : Nat → Option (Nat × Nat)) (ts : List Int) (root : Nat) (xs : List UInt32) : List UInt32 := lay (layed f ts xs 16) (16 * root) (topL f ts)

theorem rowL_length (f : Nat → Option (Nat × Nat)) (t : Nat) : (rowL f t).length = 16 := by simp [rowL]
theorem topL_length (f : Nat → Option (Nat × Nat)) (ts : List Int) : (topL f ts).length = 16 := by simp [topL]
theorem cnt_le (f : Nat → Option (Nat × Nat)) (t : Nat) : cnt f t ≤ t := by
  induction t with
  | zero => exact Nat.le_refl _
  | succ t ih => unfold cnt; split <;> omega
theorem cnt_mono (f : Nat → Option (Nat × Nat)) {s t : Nat} (h : s ≤ t) : cnt f s ≤ cnt f t := by
  induction t with
  | zero => rw [Nat.le_zero.1 h]; exact Nat.le_refl _
  | succ t ih =>
    by_cases hs : s = t + 1
    · rw [hs]; exact Nat.le_refl _
    · have := ih (by omega)
      show _ ≤ cnt f t + _
      omega
theorem cnt_lt (f : Nat → Option (Nat × Nat)) {s t : Nat} (h : s < t) (hn : needB f s = true) : cnt f s < cnt f t := by
  have := cnt_mono f (show s + 1 ≤ t by omega)
  have e : cnt f (s + 1) = cnt f s + 1 := by show cnt f s + _ = _; rw [if_pos hn]
  omega

theorem lay_get (xs : List UInt32) (p : Nat) (ys : List UInt32) (h : p + ys.length ≤ xs.length) (i : Nat) : (lay xs p ys)[i]? = if p ≤ i ∧ i < p + ys.length then ys[i - p]? else xs[i]? := by
  unfold lay
  have hp : (xs.take p).length = p := by simp; omega
  rw [List.append_assoc, List.getElem?_append, hp]
  split
  · rw [if_neg (by omega), List.getElem?_take, if_pos (by assumption)]
  · rw [List.getElem?_append]
    split
    · rw [if_pos (by omega)]
    · rw [if_neg (by omega), List.getElem?_drop]
      congr 1
      omega
theorem lay_comm (xs : List UInt32) (p q : Nat) (ys zs : List UInt32) (hp : p + ys.length ≤ xs.length) (hq : q + zs.length ≤ xs.length) (hd : p + ys.length ≤ q ∨ q + zs.length ≤ p) :
    lay (lay xs p ys) q zs = lay (lay xs q zs) p ys := by
  apply List.ext_getElem?
  intro i
  rw [lay_get _ _ _ (by rw [lay_length _ _ _ hp]; exact hq), lay_get _ _ _ hp, lay_get _ _ _ (by rw [lay_length _ _ _ hq]; exact hp), lay_get _ _ _ hq]
  by_cases h1 : q ≤ i ∧ i < q + zs.length
  · rw [if_pos h1, if_neg (by omega), if_pos h1]
  · rw [if_neg h1, if_neg h1]
theorem lay_one (xs : List UInt32) (p : Nat) (ys : List UInt32) (y : UInt32) (h : p + ys.length < xs.length) : lay (lay xs p ys) (p + ys.length) [y] = lay xs p (ys ++ [y]) := by
  apply List.ext_getElem?
  intro i
  have hl := lay_length xs p ys (by omega)
  rw [lay_get _ _ _ (by rw [hl]; simp; omega), lay_get _ _ _ (by omega), lay_get _ _ _ (by simp; omega)]
  simp only [List.length_append, List.length_cons, List.length_nil]
  by_cases h1 : i = p + ys.length
  · subst h1
    rw [if_pos (by omega), if_pos (by omega), Nat.sub_self, List.getElem?_append_right (by omega), show p + ys.length - p - ys.length = 0 by omega]
  · rw [if_neg (by omega)]
    by_cases h2 : p ≤ i ∧ i < p + ys.length
    · rw [if_pos h2, if_pos (by omega), List.getElem?_append_left (by omega)]
    · rw [if_neg h2, if_neg (by omega)]

/-- Every page has a frame and rights that can be said. -/
def FitF (f : Nat → Option (Nat × Nat)) : Prop := ∀ p x, f p = some x → x.1 < 1024 ∧ x.2 < 8

theorem has_bounds {r : Rgn} {p : Nat} (h : r.has p = true) : r.page ≤ p ∧ (p : Int) < r.page + r.pages := by simpa [Rgn.has] using h
theorem findL_fit {rs : List Rgn} (h : ∀ r, r ∈ rs → r.ok) : FitF (findL rs) := by
  intro p x hx
  unfold findL at hx
  cases hf : rs.find? fun r => r.has p with
  | none => rw [hf] at hx; simp at hx
  | some r =>
    rw [hf] at hx
    simp only [Option.map_some] at hx
    obtain rfl := Option.some.inj hx
    obtain ⟨h1, h2, h3, h4, h5, h6, h7⟩ := h r (List.mem_of_find?_eq_some hf)
    have hb := has_bounds (r := r) (p := p) (by simpa using List.find?_some hf)
    simp only
    omega

end Go.Proofs.Ytpccdhoaicabcaa
