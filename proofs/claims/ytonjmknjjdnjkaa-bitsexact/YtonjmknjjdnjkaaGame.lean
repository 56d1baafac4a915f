import Derived.Test.YtonjmknjjdnjkaaExL
import Derived.StillTailTactics
import Derived.Deep.RegionHeld3
namespace Go.Proofs.Ytonjmknjjdnjkaa
open Go.RowKit
set_option linter.unusedVariables false

def ptr (b : Nat) : Value := .pointer (some ⟨b, 0, none⟩)

/-- Where everything stands in the play: the lists, the writers and readers, the program's and the document's, what was kept. -/
structure GS where
  X : Nat
  sw : Value
  sv : Value
  sr : Value
  sq : Value
  sb : Value
  sk : Value
  W : List (Nat × List UInt8)
  V : List (Nat × Value)
  R : List (Nat × List UInt8 × Nat × Int)
  Q : List (Nat × Value)
  B : List (Option Addr × Value × List UInt8)
  K : List (Option Addr × Value × List UInt32)

def bCells (e : Option Addr × Value × List UInt8) : List Value := [.slice e.1 e.2.2.length e.2.2.length, e.2.1, .slice none 0 0, .slice none 0 0]
def kCells (e : Option Addr × Value × List UInt32) : List Value := [.slice e.1 e.2.2.length e.2.2.length, e.2.1, .slice none 0 0, .slice none 0 0]

structure Rel (s : Nat × Nat → Ob) (g : GS) (w0 : World) : Prop where
  base : s (0, 0) = .base w0
  x : s (1, 0) = .blk g.X [g.sw, g.sv, g.sr, g.sq, g.sb, g.sk] 34
  rw : s (2, 0) = .row 58 1 g.sw g.W.length (g.W.map fun e => ptr e.1)
  rv : s (3, 0) = .row 86 1 g.sv g.V.length (g.V.map fun e => ptr e.1)
  rr : s (4, 0) = .row 66 1 g.sr g.R.length (g.R.map fun e => ptr e.1)
  rq : s (5, 0) = .row 90 1 g.sq g.Q.length (g.Q.map fun e => ptr e.1)
  kb : s (6, 0) = .row 100 4 g.sb g.B.length (g.B.flatMap bCells)
  kw : s (7, 0) = .row 102 4 g.sk g.K.length (g.K.flatMap kCells)
  wr : ∀ i b xs, g.W[i]? = some (b, xs) → s (8, i) = .wr b xs
  dw : ∀ i b v c xs, g.V[i]? = some (b, v) → g.W[i]? = some (c, xs) → s (9, i) = .dw b v xs
  rd : ∀ i b xs p er, g.R[i]? = some (b, xs, p, er) → s (10, i) = .rd b xs p er
  dr : ∀ i b v c xs p er, g.Q[i]? = some (b, v) → g.R[i]? = some (c, xs, p, er) → s (11, i) = .dr b v xs p er
  lb : ∀ i a v xs, g.B[i]? = some (a, v, xs) → s (12, i) = .row 5 1 (.slice a xs.length xs.length) xs.length (bvs xs) ∧ s (13, i) = .row 5 1 v xs.length (bvs xs)
  lw : ∀ i a v xs, g.K[i]? = some (a, v, xs) → s (14, i) = .row 36 1 (.slice a xs.length xs.length) xs.length (wvs xs) ∧ s (15, i) = .row 36 1 v xs.length (wvs xs)
  lenV : g.V.length = g.W.length
  lenQ : g.Q.length = g.R.length

/-- How much there is, at most. -/
structure Small (g : GS) (T : Nat) : Prop where
  w0 : 0 < g.W.length
  r0 : 0 < g.R.length
  w : g.W.length ≤ T + 8
  r : g.R.length ≤ T + 8
  b : g.B.length ≤ T
  k : g.K.length ≤ T
  ws : ∀ (i : Nat) (b : Nat) (xs : List UInt8), g.W[i]? = some (b, xs) → xs.length ≤ T
  rs : ∀ (i : Nat) (b : Nat) (xs : List UInt8) (p : Nat) (er : Int), g.R[i]? = some (b, xs, p, er) → xs.length ≤ T + 8
  bs : ∀ (i : Nat) (a : Option Addr) (v : Value) (xs : List UInt8), g.B[i]? = some (a, v, xs) → xs.length ≤ T
  ks : ∀ (i : Nat) (a : Option Addr) (v : Value) (xs : List UInt32), g.K[i]? = some (a, v, xs) → xs.length ≤ T

structure Game (w0 w : World) (X T : Nat) : Prop where
  out : ∃ s g, Has s w ∧ Rel s g w0 ∧ Small g T ∧ g.X = X

/-- What an update of keys that the play does not use leaves. -/
theorem Rel.other {s : Nat × Nat → Ob} {g : GS} {w0 : World} (h : Rel s g w0) (i j : Nat) (hi : 16 ≤ i) (ob : Ob) : Rel (upd s (i, j) ob) g w0 := by
  have ne : ∀ a b, a < 16 → upd s (i, j) ob (a, b) = s (a, b) := fun a b ha => upd_ne _ _ _ _ (by intro e; cases e; omega)
  refine ⟨?_, ?_, ?_, ?_, ?_, ?_, ?_, ?_, fun i b xs hb => ?_, fun i b v c xs h1 h2 => ?_, fun i b xs p er hb => ?_, fun i b v c xs p er h1 h2 => ?_, fun i a v xs hb => ?_, fun i a v xs hb => ?_, h.lenV, h.lenQ⟩
  · rw [ne _ _ (by omega)]; exact h.base
  · rw [ne _ _ (by omega)]; exact h.x
  · rw [ne _ _ (by omega)]; exact h.rw
  · rw [ne _ _ (by omega)]; exact h.rv
  · rw [ne _ _ (by omega)]; exact h.rr
  · rw [ne _ _ (by omega)]; exact h.rq
  · rw [ne _ _ (by omega)]; exact h.kb
  · rw [ne _ _ (by omega)]; exact h.kw
  · rw [ne _ _ (by omega)]; exact h.wr i b xs hb
  · rw [ne _ _ (by omega)]; exact h.dw i b v c xs h1 h2
  · rw [ne _ _ (by omega)]; exact h.rd i b xs p er hb
  · rw [ne _ _ (by omega)]; exact h.dr i b v c xs p er h1 h2
  · rw [ne _ _ (by omega), ne _ _ (by omega)]; exact h.lb i a v xs hb
  · rw [ne _ _ (by omega), ne _ _ (by omega)]; exact h.lw i a v xs hb

theorem Small.more {g : GS} {T T' : Nat} (h : Small g T) (hT : T ≤ T') : Small g T' :=
  ⟨h.w0, h.r0, by have := h.w; omega, by have := h.r; omega, by have := h.b; omega, by have := h.k; omega,
    fun i b xs hb => by have := h.ws i b xs hb; omega, fun i b xs p er hb => by have := h.rs i b xs p er hb; omega, fun i a v xs hb => by have := h.bs i a v xs hb; omega, fun i a v xs hb => by have := h.ks i a v xs hb; omega⟩

/-- A row of pointers: the slice and its entry. -/
theorem row_at {w : World} {e : TypeId} {α : Type} {v : Value} {n : Nat} (l : List α) (f : α → Value) (h : w.ownsRow 0 e 1 v n (l.map f)) (i : Nat) (hi : i < l.length) :
    ∃ g c, v = .slice (some ⟨g, 0, none⟩) n c ∧ n ≤ c ∧ c ≤ maxLen ∧ n = l.length ∧ w.cell? ⟨g, i, none⟩ = some (f l[i]) := by
  have hl : l.length = n := by have := h.1; rw [List.length_map] at this; omega
  have h' := h
  rcases h.2 with ⟨rfl, rfl⟩ | ⟨g, cap, cur, rfl, _, hg1, hnc, hcm, hcs, htake⟩
  · omega
  · refine ⟨g, cap, rfl, hnc, hcm, hl.symm, ?_⟩
    have := h'.cells (g := g) rfl i (f l[i]) (by simp [hi])
    rw [addr_add, Nat.zero_add] at this
    exact this

theorem Try.mixed : Try.prog.follows .mixedOrders = true := by kernel_rfl
end Go.Proofs.Ytonjmknjjdnjkaa
