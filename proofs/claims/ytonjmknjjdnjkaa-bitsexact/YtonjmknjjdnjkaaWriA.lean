import Derived.Test.YtonjmknjjdnjkaaGame
namespace Go.Proofs.Ytonjmknjjdnjkaa
open Go.RowKit
set_option linter.unusedVariables false

/-- The play's world behind the box of an operation. -/
theorem has_box {s : Nat × Nat → Ob} {w : World} (h : Has s w) (cs : Array Value) : Has (upd s (21, 0) (.blk w.heap.size cs.toList 41)) (w.alloc (.cells cs 41)) :=
  h.newBlk (21, 0) (Blk.new w cs 41) (Nat.le_refl _) ((Keeps.refl _ w).alloc _)

/-- What an entry of the writers is, in both lists. -/
theorem wr_at {s : Nat × Nat → Ob} {g : GS} {w0 : World} (h : Rel s g w0) (i : Nat) (hi : i < g.W.length) :
    ∃ b xs c v, g.W[i]? = some (b, xs) ∧ g.V[i]? = some (c, v) ∧ s (8, i) = .wr b xs ∧ s (9, i) = .dw c v xs := by
  obtain ⟨⟨b, xs⟩, hb⟩ : ∃ e, g.W[i]? = some e := ⟨_, List.getElem?_eq_getElem hi⟩
  obtain ⟨⟨c, v⟩, hc⟩ : ∃ e, g.V[i]? = some e := ⟨_, List.getElem?_eq_getElem (by rw [h.lenV]; exact hi)⟩
  exact ⟨b, xs, c, v, hb, hc, h.wr i b xs hb, h.dw i c v b xs hc hb⟩

/-- What a write leaves of the play. -/
theorem Rel.wrote {s : Nat × Nat → Ob} {g : GS} {w0 : World} (h : Rel s g w0) {i b c : Nat} {xs ys : List UInt8} {v v' : Value} (hb : g.W[i]? = some (b, xs)) (hc : g.V[i]? = some (c, v)) :
    Rel (upd (upd s (8, i) (.wr b ys)) (9, i) (.dw c v' ys)) { g with W := g.W.set i (b, ys), V := g.V.set i (c, v') } w0 := by
  have ne : ∀ x y, x ≠ 8 → x ≠ 9 → upd (upd s (8, i) (.wr b ys)) (9, i) (.dw c v' ys) (x, y) = s (x, y) := fun x y h8 h9 => by
    rw [upd_ne _ _ _ _ (by intro e; cases e; exact h9 rfl), upd_ne _ _ _ _ (by intro e; cases e; exact h8 rfl)]
  have hiW := (List.getElem?_eq_some_iff.1 hb).1
  have hiV := (List.getElem?_eq_some_iff.1 hc).1
  have mW : (g.W.set i (b, ys)).map (fun e => ptr e.1) = g.W.map fun e => ptr e.1 := by
    apply List.ext_getElem?
    intro j
    simp only [List.getElem?_map, List.getElem?_set]
    by_cases hj : i = j
    · subst hj; rw [if_pos rfl, if_pos hiW, hb]; rfl
    · rw [if_neg hj]
  have mV : (g.V.set i (c, v')).map (fun e => ptr e.1) = g.V.map fun e => ptr e.1 := by
    apply List.ext_getElem?
    intro j
    simp only [List.getElem?_map, List.getElem?_set]
    by_cases hj : i = j
    · subst hj; rw [if_pos rfl, if_pos hiV, hc]; rfl
    · rw [if_neg hj]
  refine ⟨?_, ?_, ?_, ?_, ?_, ?_, ?_, ?_, fun j b' xs' hj => ?_, fun j b' v2 c' xs' h1 h2 => ?_, fun i b xs p er hb => ?_, fun i b v c xs p er h1 h2 => ?_, fun i a v xs hb => ?_, fun i a v xs hb => ?_, ?_, h.lenQ⟩
  · rw [ne _ _ (by omega) (by omega)]; exact h.base
  · rw [ne _ _ (by omega) (by omega)]; exact h.x
  · rw [ne _ _ (by omega) (by omega)]; show _ = Ob.row 58 1 g.sw (g.W.set i (b, ys)).length _; rw [mW, List.length_set]; exact h.rw
  · rw [ne _ _ (by omega) (by omega)]; show _ = Ob.row 86 1 g.sv (g.V.set i (c, v')).length _; rw [mV, List.length_set]; exact h.rv
  · rw [ne _ _ (by omega) (by omega)]; exact h.rr
  · rw [ne _ _ (by omega) (by omega)]; exact h.rq
  · rw [ne _ _ (by omega) (by omega)]; exact h.kb
  · rw [ne _ _ (by omega) (by omega)]; exact h.kw
  · rw [upd_ne _ _ _ _ (by intro e; cases e)]
    have hj' : (g.W.set i (b, ys))[j]? = some (b', xs') := hj
    rw [List.getElem?_set] at hj'
    by_cases e : i = j
    · subst e
      rw [if_pos rfl, if_pos hiW] at hj'
      cases hj'
      rw [upd_self]
    · rw [if_neg e] at hj'
      rw [upd_ne _ _ _ _ (by intro e2; cases e2; exact e rfl)]
      exact h.wr j b' xs' hj'
  · have h1' : (g.V.set i (c, v'))[j]? = some (b', v2) := h1
    have h2' : (g.W.set i (b, ys))[j]? = some (c', xs') := h2
    rw [List.getElem?_set] at h1' h2'
    by_cases e : i = j
    · subst e
      rw [if_pos rfl, if_pos hiV] at h1'
      rw [if_pos rfl, if_pos hiW] at h2'
      cases h1'; cases h2'
      rw [upd_self]
    · rw [if_neg e] at h1' h2'
      rw [upd_ne _ _ _ _ (by intro e2; cases e2; exact e rfl), upd_ne _ _ _ _ (by intro e2; cases e2)]
      exact h.dw j b' v2 c' xs' h1' h2'
  · rw [ne _ _ (by omega) (by omega)]; exact h.rd i b xs p er hb
  · rw [ne _ _ (by omega) (by omega)]; exact h.dr i b v c xs p er h1 h2
  · rw [ne _ _ (by omega) (by omega), ne _ _ (by omega) (by omega)]; exact h.lb i a v xs hb
  · rw [ne _ _ (by omega) (by omega), ne _ _ (by omega) (by omega)]; exact h.lw i a v xs hb
  · show (g.V.set i (c, v')).length = (g.W.set i (b, ys)).length
    rw [List.length_set, List.length_set]; exact h.lenV

theorem Small.wrote {g : GS} {T T' i b c : Nat} {ys : List UInt8} {v' : Value} (h : Small g T) (hT : T ≤ T') (hy : ys.length ≤ T') : Small { g with W := g.W.set i (b, ys), V := g.V.set i (c, v') } T' := by
  have h' := h.more hT
  refine ⟨?_, h'.r0, ?_, h'.r, h'.b, h'.k, fun j b2 xs hj => ?_, h'.rs, h'.bs, h'.ks⟩
  · show 0 < (g.W.set i (b, ys)).length; rw [List.length_set]; exact h'.w0
  · show (g.W.set i (b, ys)).length ≤ _; rw [List.length_set]; exact h'.w
  · have hj' : (g.W.set i (b, ys))[j]? = some (b2, xs) := hj
    rw [List.getElem?_set] at hj'
    by_cases e : i = j
    · subst e
      rw [if_pos rfl] at hj'
      split at hj'
      · cases hj'; exact hy
      · cases hj'
    · rw [if_neg e] at hj'; exact h'.ws j b2 xs hj'

theorem cells_x {s : Nat × Nat → Ob} {w : World} (h : Has s w) {X : Nat} {c0 c1 c2 c3 c4 c5 : Value} (hx : s (1, 0) = .blk X [c0, c1, c2, c3, c4, c5] 34) :
    w.cell? ⟨X, 0, none⟩ = some c0 ∧ w.cell? ⟨X, 1, none⟩ = some c1 ∧ w.cell? ⟨X, 2, none⟩ = some c2 ∧ w.cell? ⟨X, 3, none⟩ = some c3 ∧ w.cell? ⟨X, 4, none⟩ = some c4 ∧ w.cell? ⟨X, 5, none⟩ = some c5 := by
  have B := (h.blk hx).1
  exact ⟨B.cell (i := 0) rfl, B.cell (i := 1) rfl, B.cell (i := 2) rfl, B.cell (i := 3) rfl, B.cell (i := 4) rfl, B.cell (i := 5) rfl⟩

theorem cell_row {s : Nat × Nat → Ob} {w : World} (h : Has s w) {o : Nat × Nat} {e : TypeId} {α : Type} {gg n c : Nat} (l : List α) (f : α → Value) (hr : s o = .row e 1 (.slice (some ⟨gg, 0, none⟩) n c) n (l.map f)) (i : Nat) (y : α) (hi : l[i]? = some y) :
    w.cell? ⟨gg, i, none⟩ = some (f y) := by
  have := (h.row hr).1.cells (g := gg) rfl i (f y) (by simp [hi])
  rw [addr_add, Nat.zero_add] at this
  exact this

/-- A row that has an entry is no nil. -/
theorem row_some {s : Nat × Nat → Ob} {w : World} (h : Has s w) {o : Nat × Nat} {e : TypeId} {v : Value} {n : Nat} {vs : List Value} (hr : s o = .row e 1 v n vs) (hn : 0 < n) :
    ∃ gg c, v = .slice (some ⟨gg, 0, none⟩) n c ∧ n ≤ c ∧ c ≤ 9223372036854775807 := by
  rcases (h.row hr).1.2 with ⟨rfl, rfl⟩ | ⟨g, cap, cur, rfl, _, hg1, hnc, hcm, hcs, htake⟩
  · omega
  · exact ⟨g, cap, rfl, hnc, by unfold maxLen at hcm; omega⟩

/-- A region whose last operations must come last, each in its turn; those ahead of them only read. -/
theorem region_tail {id : Nat} {Q : Exit → Act → World → Prop} {a : Act} {w : World} {l : List Oper} (n : Nat) (hB : Region.lexTailB .any l.toArray n = true)
    (h : wpStill Try.prog l.toArray (w.drewN 1) (fun a' => wpList Try.prog l.toArray Q (l.drop n) a' (w.drewN 1)) (l.take n) a) : (Code.region id l.toArray true).wp Try.prog Q a w :=
  wp_region_still_tail n Try.mixed hB h
end Go.Proofs.Ytonjmknjjdnjkaa
