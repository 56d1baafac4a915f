import Derived.Test.YtomjodoimjiceaaDoorRing
namespace Go.Proofs.YtomjodoimjiceaaDoor.Q
open Go.RowKit
set_option linter.unusedVariables false

/-- A pair. -/
structure Pr where
  a : Int
  b : Int
deriving DecidableEq

abbrev Pr.v (l : Pr) : Value := .agg #[.int .i64 l.a, .int .i64 l.b]
abbrev Pr.vs (l : Pr) : List Value := [.int .i64 l.a, .int .i64 l.b]
abbrev Pr.none : Pr := ⟨0, 0⟩

structure N where
  blk : Nat
  key : Pr
  thing : Value

/-- Each of these places has its block. -/
def Nodes (w : World) (t : TypeId) (L : List N) (nw od : Nat → Nat) : Prop :=
  ∀ x ∈ L, Blk w x.blk [.int .i64 x.key.a, .int .i64 x.key.b, x.thing, ptr (od x.blk), ptr (nw x.blk)] t

theorem Nodes.kept {S : Nat → Prop} {w w' : World} {t : TypeId} {L : List N} {nw od : Nat → Nat} (h : Nodes w t L nw od) (k : Keeps S w w') (hn : ∀ x ∈ L, ¬ S x.blk) : Nodes w' t L nw od :=
  fun x hx => (h x hx).kept k (hn x hx)
theorem Nodes.sub {w : World} {t : TypeId} {L L' : List N} {nw od : Nat → Nat} (h : Nodes w t L nw od) (hs : ∀ x ∈ L', x ∈ L) : Nodes w t L' nw od := fun x hx => h x (hs x hx)
theorem Nodes.setNew {w : World} {t : TypeId} {L : List N} {nw od : Nat → Nat} (h : Nodes w t L nw od) (x y : Nat) : Nodes (w.setCell ⟨x, 4, none⟩ (ptr y)) t L (upd nw x y) od := by
  intro z hz
  by_cases e : z.blk = x
  · have h1 := h z hz
    rw [e] at h1 ⊢
    rw [upd_same]
    exact h1.setCell 4 (ptr y)
  · rw [upd_ne _ _ e]
    exact (h z hz).setCell_ne e _
theorem Nodes.setOld {w : World} {t : TypeId} {L : List N} {nw od : Nat → Nat} (h : Nodes w t L nw od) (x y : Nat) : Nodes (w.setCell ⟨x, 3, none⟩ (ptr y)) t L nw (upd od x y) := by
  intro z hz
  by_cases e : z.blk = x
  · have h1 := h z hz
    rw [e] at h1 ⊢
    rw [upd_same]
    exact h1.setCell 3 (ptr y)
  · rw [upd_ne _ _ e]
    exact (h z hz).setCell_ne e _

/-- A ring in the memory: the end and its places. -/
structure Rg (w : World) (t : TypeId) (e : N) (xs : List N) (nw od : Nat → Nat) : Prop where
  chain : Chain nw od e.blk (xs.map N.blk) e.blk
  nodup : (e.blk :: xs.map N.blk).Nodup
  nodes : Nodes w t (e :: xs) nw od

theorem Rg.kept {S : Nat → Prop} {w w' : World} {t : TypeId} {e : N} {xs : List N} {nw od : Nat → Nat} (h : Rg w t e xs nw od) (k : Keeps S w w') (hn : ∀ x ∈ e :: xs, ¬ S x.blk) : Rg w' t e xs nw od :=
  ⟨h.chain, h.nodup, h.nodes.kept k hn⟩

end Go.Proofs.YtomjodoimjiceaaDoor.Q
