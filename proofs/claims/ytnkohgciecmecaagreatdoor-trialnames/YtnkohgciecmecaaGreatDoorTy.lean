import Derived.Test.YtnkohgciecmecaaGreatDoorMem
import Derived.Test.YtnkohgciecmecaaGreatDoorProg
import Derived.WalkSpells
import Derived.WalkLawsBesides
import Derived.Deep.QuietTactic
import Derived.BigQuiet
import Derived.Deep.RegionHeld3
import Derived.Deep.RegionHeld2
import Derived.Deep.Cut
import Derived.Deep.CutBlock
import Derived.Deep.CutRange
import Derived.Shelf.RegionOpen
import Derived.StillTailTactics
namespace Go.Proofs.YtnkohgciecmecaaGreatDoor
open Go.RowKit
set_option linter.unusedVariables false

abbrev I64 (k : Int) : Prop := -9223372036854775808 ≤ k ∧ k ≤ 9223372036854775807

structure Win where
  p : Int
  u : Int
  s : Int
deriving DecidableEq
structure Rgn where
  page : Int
  pages : Int
  frame : Int
  rights : Int
deriving DecidableEq
structure Prt where
  ch : Int
  src : Bool
deriving DecidableEq
structure Chn where
  kind : Int
  words : Int
  depth : Int
deriving DecidableEq
/-- A core as it lies in the memory: where its windows are, and they. -/
structure Core where
  a : Option Addr
  c : Nat
  ws : List Win
structure Par where
  name : ByteArray
  entry : Int
  action : Int
  restarts : Int
  inputs : Int
  outputs : Int
  ra : Option Addr
  rc : Nat
  rs : List Rgn
  pa : Option Addr
  pc : Nat
  ps : List Prt
structure Cfg where
  frames : Int
  major : Int
  kernel : Int
  room : Int
  ca : Option Addr
  cc : Nat
  cs : List Core
  pa : Option Addr
  pc : Nat
  ps : List Par
  ha : Option Addr
  hc : Nat
  hs : List Chn

abbrev Win.vs (x : Win) : List Value := [.int .i64 x.p, .int .i64 x.u, .int .i64 x.s]
abbrev Win.v (x : Win) : Value := .agg #[.int .i64 x.p, .int .i64 x.u, .int .i64 x.s]
abbrev Rgn.vs (x : Rgn) : List Value := [.int .i64 x.page, .int .i64 x.pages, .int .i64 x.frame, .int .i64 x.rights]
abbrev Rgn.v (x : Rgn) : Value := .agg #[.int .i64 x.page, .int .i64 x.pages, .int .i64 x.frame, .int .i64 x.rights]
abbrev Prt.vs (x : Prt) : List Value := [.int .i64 x.ch, .bool x.src]
abbrev Prt.v (x : Prt) : Value := .agg #[.int .i64 x.ch, .bool x.src]
abbrev Chn.vs (x : Chn) : List Value := [.int .i64 x.kind, .int .i64 x.words, .int .i64 x.depth]
abbrev Chn.v (x : Chn) : Value := .agg #[.int .i64 x.kind, .int .i64 x.words, .int .i64 x.depth]
abbrev Core.vs (x : Core) : List Value := [.slice x.a x.ws.length x.c]
abbrev Core.v (x : Core) : Value := .slice x.a x.ws.length x.c
abbrev Par.vs (x : Par) : List Value := [.string x.name, .int .i64 x.entry, .int .i64 x.action, .int .i64 x.restarts, .int .i64 x.inputs, .int .i64 x.outputs, .slice x.ra x.rs.length x.rc, .slice x.pa x.ps.length x.pc]
abbrev Par.v (x : Par) : Value := .agg #[.string x.name, .int .i64 x.entry, .int .i64 x.action, .int .i64 x.restarts, .int .i64 x.inputs, .int .i64 x.outputs, .slice x.ra x.rs.length x.rc, .slice x.pa x.ps.length x.pc]
abbrev Cfg.v (x : Cfg) : Value := .agg #[.int .i64 x.frames, .int .i64 x.major, .int .i64 x.kernel, .int .i64 x.room, .slice x.ca x.cs.length x.cc, .slice x.pa x.ps.length x.pc, .slice x.ha x.hs.length x.hc]
abbrev Cfg.vs (x : Cfg) : List Value := [.int .i64 x.frames, .int .i64 x.major, .int .i64 x.kernel, .int .i64 x.room, .slice x.ca x.cs.length x.cc, .slice x.pa x.ps.length x.pc, .slice x.ha x.hs.length x.hc]

def Win.Fine (x : Win) : Prop := I64 x.p ∧ I64 x.u ∧ I64 x.s
def Rgn.Fine (x : Rgn) : Prop := I64 x.page ∧ I64 x.pages ∧ I64 x.frame ∧ I64 x.rights
def Prt.Fine (x : Prt) : Prop := I64 x.ch
def Chn.Fine (x : Chn) : Prop := I64 x.kind ∧ I64 x.words ∧ I64 x.depth

/-- Things of so many cells each can be read at this address, one behind another. -/
def SegA {α : Type} (cells : α → List Value) (k : Nat) (w : World) (a : Option Addr) (xs : List α) : Prop :=
  xs = [] ∨ ∃ g o, a = some ⟨g, o, none⟩ ∧ ∀ j x, xs[j]? = some x → ∀ i v, (cells x)[i]? = some v → w.cell? ⟨g, o + j * k + i, none⟩ = some v

section
variable {α : Type} {cells : α → List Value} {k : Nat} {w w' : World} {a : Option Addr} {xs : List α}
theorem SegA.kept {S : Nat → Prop} (h : SegA cells k w a xs) (hK : Keeps S w w') (hn : xs ≠ [] → ∀ x, a = some x → ¬ S x.block) : SegA cells k w' a xs := by
  rcases h with h | ⟨g, o, ha, hc⟩
  · exact .inl h
  · refine .inr ⟨g, o, ha, fun j x hj i v hv => ?_⟩
    have h1 := hc j x hj i v hv
    rw [World.cell?_of_block (w := w) (hK.block g (World.block_lt_of_cell? w _ h1) (hn (fun e => by rw [e] at hj; simp at hj) _ ha))]
    exact h1
theorem SegA.below {B : Nat} (h : SegA cells k w a xs) (hK : Below B w w') (hn : xs ≠ [] → ∀ x, a = some x → x.block < B) : SegA cells k w' a xs := by
  rcases h with h | ⟨g, o, ha, hc⟩
  · exact .inl h
  · refine .inr ⟨g, o, ha, fun j x hj i v hv => ?_⟩
    rw [World.cell?_of_block (w := w) (hK.block g (hn (fun e => by rw [e] at hj; simp at hj) _ ha))]
    exact hc j x hj i v hv
theorem SegA.at (h : SegA cells k w a xs) {j : Nat} {x : α} (hj : xs[j]? = some x) : ∃ g o, a = some ⟨g, o, none⟩ ∧ ∀ i v, (cells x)[i]? = some v → w.cell? ⟨g, o + j * k + i, none⟩ = some v := by
  rcases h with h | ⟨g, o, ha, hc⟩
  · rw [h] at hj; simp at hj
  · exact ⟨g, o, ha, fun i v => hc j x hj i v⟩
end

def Par.ns (x : Par) : List Int := [x.entry, x.action, x.restarts, x.inputs, x.outputs]
def Cfg.ns (x : Cfg) : List Int := [x.frames, x.major, x.kernel, x.room]
end Go.Proofs.YtnkohgciecmecaaGreatDoor
