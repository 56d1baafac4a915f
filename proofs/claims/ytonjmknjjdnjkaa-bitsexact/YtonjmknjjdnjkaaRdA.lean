import Derived.Test.YtonjmknjjdnjkaaWriA
namespace Go.Proofs.Ytonjmknjjdnjkaa
open Go.RowKit
set_option linter.unusedVariables false

/-- What an entry of the readers is, in both lists. -/
theorem rd_at {s : Nat × Nat → Ob} {g : GS} {w0 : World} (h : Rel s g w0) (i : Nat) (hi : i < g.R.length) :
    ∃ b xs p er c v, g.R[i]? = some (b, xs, p, er) ∧ g.Q[i]? = some (c, v) ∧ s (10, i) = .rd b xs p er ∧ s (11, i) = .dr c v xs p er := by
  obtain ⟨⟨b, xs, p, er⟩, hb⟩ : ∃ e, g.R[i]? = some e := ⟨_, List.getElem?_eq_getElem hi⟩
  obtain ⟨⟨c, v⟩, hc⟩ : ∃ e, g.Q[i]? = some e := ⟨_, List.getElem?_eq_getElem (by rw [h.lenQ]; exact hi)⟩
  exact ⟨b, xs, p, er, c, v, hb, hc, h.rd i b xs p er hb, h.dr i c v b xs p er hc hb⟩

/-- What a read leaves of the play. -/
theorem Rel.readd {s : Nat × Nat → Ob} {g : GS} {w0 : World} (h : Rel s g w0) {i b c p p' : Nat} {er er' : Int} {xs : List UInt8} {v : Value} (hb : g.R[i]? = some (b, xs, p, er)) (hc : g.Q[i]? = some (c, v)) :
    Rel (upd (upd s (10, i) (.rd b xs p' er')) (11, i) (.dr c v xs p' er')) { g with R := g.R.set i (b, xs, p', er') } w0 := by
  have ne : ∀ x y, x ≠ 10 → x ≠ 11 → upd (upd s (10, i) (.rd b xs p' er')) (11, i) (.dr c v xs p' er') (x, y) = s (x, y) := fun x y h8 h9 => by
    rw [upd_ne _ _ _ _ (by intro e; cases e; exact h9 rfl), upd_ne _ _ _ _ (by intro e; cases e; exact h8 rfl)]
  have hiR := (List.getElem?_eq_some_iff.1 hb).1
  have mR : (g.R.set i (b, xs, p', er')).map (fun e => ptr e.1) = g.R.map fun e => ptr e.1 := by
    apply List.ext_getElem?
    intro j
    simp only [List.getElem?_map, List.getElem?_set]
    by_cases hj : i = j
    · subst hj; rw [if_pos rfl, if_pos hiR, hb]; rfl
    · rw [if_neg hj]
  refine ⟨?_, ?_, ?_, ?_, ?_, ?_, ?_, ?_, fun j b' xs' hj => ?_, fun j b' v2 c' xs' h1 h2 => ?_, fun j b2 xs2 p2 er2 hj => ?_, fun j b2 v2 c2 xs2 p2 er2 h1 h2 => ?_, fun i a v xs hb => ?_, fun i a v xs hb => ?_, h.lenV, ?_⟩
  · rw [ne _ _ (by omega) (by omega)]; exact h.base
  · rw [ne _ _ (by omega) (by omega)]; exact h.x
  · rw [ne _ _ (by omega) (by omega)]; exact h.rw
  · rw [ne _ _ (by omega) (by omega)]; exact h.rv
  · rw [ne _ _ (by omega) (by omega)]; show _ = Ob.row 66 1 g.sr (g.R.set i (b, xs, p', er')).length _; rw [mR, List.length_set]; exact h.rr
  · rw [ne _ _ (by omega) (by omega)]; exact h.rq
  · rw [ne _ _ (by omega) (by omega)]; exact h.kb
  · rw [ne _ _ (by omega) (by omega)]; exact h.kw
  · rw [ne _ _ (by omega) (by omega)]; exact h.wr j b' xs' hj
  · rw [ne _ _ (by omega) (by omega)]; exact h.dw j b' v2 c' xs' h1 h2
  · rw [upd_ne _ _ _ _ (by intro e; cases e)]
    have hj' : (g.R.set i (b, xs, p', er'))[j]? = some (b2, xs2, p2, er2) := hj
    rw [List.getElem?_set] at hj'
    by_cases e : i = j
    · subst e
      rw [if_pos rfl, if_pos hiR] at hj'
      cases hj'
      rw [upd_self]
    · rw [if_neg e] at hj'
      rw [upd_ne _ _ _ _ (by intro e2; cases e2; exact e rfl)]
      exact h.rd j b2 xs2 p2 er2 hj'
  · have h2' : (g.R.set i (b, xs, p', er'))[j]? = some (c2, xs2, p2, er2) := h2
    have h1' : g.Q[j]? = some (b2, v2) := h1
    rw [List.getElem?_set] at h2'
    by_cases e : i = j
    · subst e
      rw [if_pos rfl, if_pos hiR] at h2'
      rw [hc] at h1'
      cases h1'; cases h2'
      rw [upd_self]
    · rw [if_neg e] at h2'
      rw [upd_ne _ _ _ _ (by intro e2; cases e2; exact e rfl), upd_ne _ _ _ _ (by intro e2; cases e2)]
      exact h.dr j b2 v2 c2 xs2 p2 er2 h1' h2'
  · rw [ne _ _ (by omega) (by omega), ne _ _ (by omega) (by omega)]; exact h.lb i a v xs hb
  · rw [ne _ _ (by omega) (by omega), ne _ _ (by omega) (by omega)]; exact h.lw i a v xs hb
  · show g.Q.length = (g.R.set i (b, xs, p', er')).length
    rw [List.length_set]; exact h.lenQ

theorem Small.readd {g : GS} {T T' i b p p' : Nat} {er er' : Int} {xs : List UInt8} (h : Small g T) (hT : T ≤ T') (hb : g.R[i]? = some (b, xs, p, er)) : Small { g with R := g.R.set i (b, xs, p', er') } T' := by
  have h' := h.more hT
  refine ⟨h'.w0, ?_, h'.w, ?_, h'.b, h'.k, h'.ws, fun j b2 ys q e2 hj => ?_, h'.bs, h'.ks⟩
  · show 0 < (g.R.set i (b, xs, p', er')).length; rw [List.length_set]; exact h'.r0
  · show (g.R.set i (b, xs, p', er')).length ≤ _; rw [List.length_set]; exact h'.r
  · have hj' : (g.R.set i (b, xs, p', er'))[j]? = some (b2, ys, q, e2) := hj
    rw [List.getElem?_set] at hj'
    by_cases e : i = j
    · subst e
      rw [if_pos rfl] at hj'
      split at hj'
      · cases hj'; exact h'.rs i _ _ _ _ hb
      · cases hj'
    · rw [if_neg e] at hj'; exact h'.rs j b2 ys q e2 hj'
end Go.Proofs.Ytonjmknjjdnjkaa
