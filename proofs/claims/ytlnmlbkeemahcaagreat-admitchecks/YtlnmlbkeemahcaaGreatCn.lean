import Derived.Test.YtlnmlbkeemahcaaGreatMem
import Derived.Test.YtlnmlbkeemahcaaGreatProg
import Derived.WalkSpells
import Derived.WalkLawsBesides
import Derived.Deep.QuietTactic
import Derived.BigQuiet
import Derived.Deep.RegionHeld3
import Derived.Deep.RegionHeld2
import Derived.Deep.Cut
import Derived.Deep.CutBlock
import Derived.Deep.CutRange
import Derived.Shelf.RegionOpen
import Derived.StillTailTactics
namespace Go.Proofs.YtlnmlbkeemahcaaGreat
open Go.RowKit
set_option linter.unusedVariables false
abbrev I64 (k : Int) : Prop := -9223372036854775808 ≤ k ∧ k ≤ 9223372036854775807
structure Win where
 p : Int
 u : Int
 s : Int
deriving DecidableEq
structure Rgn where
 page : Int
 pages : Int
 frame : Int
 rights : Int
deriving DecidableEq
structure Prt where
 ch : Int
 src : Bool
deriving DecidableEq
structure Chn where
 kind : Int
 words : Int
 depth : Int
deriving DecidableEq
structure Core where
 a : Option Addr
 c : Nat
 ws : List Win
structure Par where
 name : ByteArray
 entry : Int
 action : Int
 restarts : Int
 inputs : Int
 outputs : Int
 ra : Option Addr
 rc : Nat
 rs : List Rgn
 pa : Option Addr
 pc : Nat
 ps : List Prt
structure Cfg where
 frames : Int
 major : Int
 kernel : Int
 room : Int
 ca : Option Addr
 cc : Nat
 cs : List Core
 pa : Option Addr
 pc : Nat
 ps : List Par
 ha : Option Addr
 hc : Nat
 hs : List Chn
abbrev Win.vs (x : Win) : List Value := [.int .i64 x.p, .int .i64 x.u, .int .i64 x.s]
abbrev Win.v (x : Win) : Value := .agg #[.int .i64 x.p, .int .i64 x.u, .int .i64 x.s]
abbrev Rgn.vs (x : Rgn) : List Value := [.int .i64 x.page, .int .i64 x.pages, .int .i64 x.frame, .int .i64 x.rights]
abbrev Rgn.v (x : Rgn) : Value := .agg #[.int .i64 x.page, .int .i64 x.pages, .int .i64 x.frame, .int .i64 x.rights]
abbrev Prt.vs (x : Prt) : List Value := [.int .i64 x.ch, .bool x.src]
abbrev Prt.v (x : Prt) : Value := .agg #[.int .i64 x.ch, .bool x.src]
abbrev Chn.vs (x : Chn) : List Value := [.int .i64 x.kind, .int .i64 x.words, .int .i64 x.depth]
abbrev Chn.v (x : Chn) : Value := .agg #[.int .i64 x.kind, .int .i64 x.words, .int .i64 x.depth]
abbrev Core.vs (x : Core) : List Value := [.slice x.a x.ws.length x.c]
abbrev Core.v (x : Core) : Value := .slice x.a x.ws.length x.c
abbrev Par.vs (x : Par) : List Value := [.string x.name, .int .i64 x.entry, .int .i64 x.action, .int .i64 x.restarts, .int .i64 x.inputs, .int .i64 x.outputs, .slice x.ra x.rs.length x.rc, .slice x.pa x.ps.length x.pc]
abbrev Par.v (x : Par) : Value := .agg #[.string x.name, .int .i64 x.entry, .int .i64 x.action, .int .i64 x.restarts, .int .i64 x.inputs, .int .i64 x.outputs, .slice x.ra x.rs.length x.rc, .slice x.pa x.ps.length x.pc]
abbrev Cfg.v (x : Cfg) : Value := .agg #[.int .i64 x.frames, .int .i64 x.major, .int .i64 x.kernel, .int .i64 x.room, .slice x.ca x.cs.length x.cc, .slice x.pa x.ps.length x.pc, .slice x.ha x.hs.length x.hc]
abbrev Cfg.vs (x : Cfg) : List Value := [.int .i64 x.frames, .int .i64 x.major, .int .i64 x.kernel, .int .i64 x.room, .slice x.ca x.cs.length x.cc, .slice x.pa x.ps.length x.pc, .slice x.ha x.hs.length x.hc]
def Win.Fine (x : Win) : Prop := I64 x.p ∧ I64 x.u ∧ I64 x.s
def Rgn.Fine (x : Rgn) : Prop := I64 x.page ∧ I64 x.pages ∧ I64 x.frame ∧ I64 x.rights
def Prt.Fine (x : Prt) : Prop := I64 x.ch
def Chn.Fine (x : Chn) : Prop := I64 x.kind ∧ I64 x.words ∧ I64 x.depth
def SegA {α : Type} (cells : α → List Value) (k : Nat) (w : World) (a : Option Addr) (xs : List α) : Prop :=
 xs = [] ∨ ∃ g o, a = some ⟨g, o, none⟩ ∧ ∀ j x, xs[j]? = some x → ∀ i v, (cells x)[i]? = some v → w.cell? ⟨g, o + j * k + i, none⟩ = some v
section
variable {α : Type} {cells : α → List Value} {k : Nat} {w w' : World} {a : Option Addr} {xs : List α}
theorem SegA.kept {S : Nat → Prop} (h : SegA cells k w a xs) (hK : Keeps S w w') (hn : xs ≠ [] → ∀ x, a = some x → ¬ S x.block) : SegA cells k w' a xs := by
 rcases h with h | ⟨g, o, ha, hc⟩
 ·
  exact .inl h
 ·
  refine .inr ⟨g, o, ha, fun j x hj i v hv => ?_⟩
  have h1 := hc j x hj i v hv
  rw [World.cell?_of_block (w := w) (hK.block g (World.block_lt_of_cell? w _ h1) (hn (fun e => by rw [e] at hj; simp at hj) _ ha))]
  exact h1
theorem SegA.below {B : Nat} (h : SegA cells k w a xs) (hK : Below B w w') (hn : xs ≠ [] → ∀ x, a = some x → x.block < B) : SegA cells k w' a xs := by
 rcases h with h | ⟨g, o, ha, hc⟩
 ·
  exact .inl h
 ·
  refine .inr ⟨g, o, ha, fun j x hj i v hv => ?_⟩
  rw [World.cell?_of_block (w := w) (hK.block g (hn (fun e => by rw [e] at hj; simp at hj) _ ha))]
  exact hc j x hj i v hv
theorem SegA.at (h : SegA cells k w a xs) {j : Nat} {x : α} (hj : xs[j]? = some x) : ∃ g o, a = some ⟨g, o, none⟩ ∧ ∀ i v, (cells x)[i]? = some v → w.cell? ⟨g, o + j * k + i, none⟩ = some v := by
 rcases h with h | ⟨g, o, ha, hc⟩
 ·
  rw [h] at hj; simp at hj
 ·
  exact ⟨g, o, ha, fun i v => hc j x hj i v⟩
end
def Par.ns (x : Par) : List Int := [x.entry, x.action, x.restarts, x.inputs, x.outputs]
def Cfg.ns (x : Cfg) : List Int := [x.frames, x.major, x.kernel, x.room]
end Go.Proofs.YtlnmlbkeemahcaaGreat
namespace Go.Proofs.YtlnmlbkeemahcaaGreat
open Go.RowKit
set_option linter.unusedVariables false
set_option maxRecDepth 6000
structure Elem (α : Type) where
 vs : α → List Value
 k : Nat
 ety : TypeId
 len : ∀ x, (vs x).length = k
 pos : 0 < k
 Ok : World → α → Prop
 bl : α → List Nat
 kept : ∀ {S : Nat → Prop} {w w' : World} {x : α}, Ok w x → Keeps S w w' → (∀ k ∈ bl x, ¬ S k) → Ok w' x
variable {α : Type} {E : Elem α}
theorem flat_len (E : Elem α) (xs : List α) : (xs.flatMap E.vs).length = xs.length * E.k := by
 induction xs with
 | nil => simp
 | cons x xs ih => simp only [List.flatMap_cons, List.length_append, List.length_cons, E.len, ih, Nat.add_mul]; omega
theorem flat_get (E : Elem α) (xs : List α) (j : Nat) (x : α) (i : Nat) (v : Value) (hj : xs[j]? = some x) (hi : (E.vs x)[i]? = some v) : (xs.flatMap E.vs)[j * E.k + i]? = some v := by
 induction xs generalizing j with
 | nil => simp at hj
 | cons y ys ih =>
  have hik : i < E.k := by rw [← E.len x]; exact (List.getElem?_eq_some_iff.1 hi).1
  cases j with
  | zero =>
   simp at hj
   subst hj
   rw [List.flatMap_cons, Nat.zero_mul, Nat.zero_add, List.getElem?_append_left (by rw [E.len]; exact hik)]
   exact hi
  | succ j =>
   rw [List.flatMap_cons, List.getElem?_append_right (by rw [E.len, Nat.add_mul]; omega), E.len]
   have : (j + 1) * E.k + i - E.k = j * E.k + i := by rw [Nat.add_mul]; omega
   rw [this]
   exact ih j (by simpa using hj)
def eWin : Elem Win := ⟨Win.vs, 3, 44, fun _ => rfl, by decide, fun _ x => x.Fine, fun _ => [], fun h _ _ => h⟩
def eRgn : Elem Rgn := ⟨Rgn.vs, 4, 54, fun _ => rfl, by decide, fun _ x => x.Fine, fun _ => [], fun h _ _ => h⟩
def ePrt : Elem Prt := ⟨Prt.vs, 2, 57, fun _ => rfl, by decide, fun _ x => x.Fine, fun _ => [], fun h _ _ => h⟩
def eChn : Elem Chn := ⟨Chn.vs, 3, 48, fun _ => rfl, by decide, fun _ x => x.Fine, fun _ => [], fun h _ _ => h⟩
def blk1 {β : Type} (a : Option Addr) (l : List β) : List Nat := match a with | some y => if l.isEmpty then [] else [y.block] | none => []
theorem blk1_mem {β : Type} {a : Option Addr} {l : List β} {k : Nat} : k ∈ blk1 a l ↔ l ≠ [] ∧ ∃ y, a = some y ∧ y.block = k := by
 unfold blk1
 cases a with
 | none => simp
 | some y =>
  cases l with
  | nil => simp
  | cons x l => simp; exact eq_comm
structure Core.Ok (w : World) (x : Core) : Prop where
 seg : SegA Win.vs 3 w x.a x.ws
 len : x.ws.length ≤ x.c ∧ x.c ≤ maxLen
 fine : ∀ y ∈ x.ws, y.Fine
structure Par.Ok (w : World) (x : Par) : Prop where
 rseg : SegA Rgn.vs 4 w x.ra x.rs
 rlen : x.rs.length ≤ x.rc ∧ x.rc ≤ maxLen
 rfine : ∀ y ∈ x.rs, y.Fine
 pseg : SegA Prt.vs 2 w x.pa x.ps
 plen : x.ps.length ≤ x.pc ∧ x.pc ≤ maxLen
 pfine : ∀ y ∈ x.ps, y.Fine
 ns : ∀ n ∈ x.ns, I64 n
 name : x.name.size ≤ 9223372036854775807
def Par.bl (x : Par) : List Nat := blk1 x.ra x.rs ++ blk1 x.pa x.ps
def eCore : Elem Core := ⟨Core.vs, 1, 42, fun _ => rfl, by decide, fun w x => x.Ok w, fun x => blk1 x.a x.ws, fun h hK hn => ⟨h.seg.kept hK fun h1 y hy => hn _ (blk1_mem.2 ⟨h1, y, hy, rfl⟩), h.len, h.fine⟩⟩
def ePar : Elem Par := ⟨Par.vs, 8, 41, fun _ => rfl, by decide, fun w x => x.Ok w, fun x => x.bl, fun h hK hn =>
 ⟨h.rseg.kept hK fun h1 y hy => hn _ (List.mem_append_left _ (blk1_mem.2 ⟨h1, y, hy, rfl⟩)), h.rlen, h.rfine, h.pseg.kept hK fun h1 y hy => hn _ (List.mem_append_right _ (blk1_mem.2 ⟨h1, y, hy, rfl⟩)), h.plen, h.pfine, h.ns, h.name⟩⟩
structure Core.In (w : World) (N : Nat) (x : Core) : Prop where
 seg : SegA Win.vs 3 w x.a x.ws
 lo : x.ws ≠ [] → ∀ y, x.a = some y → y.block < N
 len : x.ws.length ≤ x.c ∧ x.c ≤ maxLen
 fine : ∀ y ∈ x.ws, y.Fine
structure Par.In (w : World) (N : Nat) (x : Par) : Prop where
 rseg : SegA Rgn.vs 4 w x.ra x.rs
 rlo : x.rs ≠ [] → ∀ y, x.ra = some y → y.block < N
 rlen : x.rs.length ≤ x.rc ∧ x.rc ≤ maxLen
 rfine : ∀ y ∈ x.rs, y.Fine
 pseg : SegA Prt.vs 2 w x.pa x.ps
 plo : x.ps ≠ [] → ∀ y, x.pa = some y → y.block < N
 plen : x.ps.length ≤ x.pc ∧ x.pc ≤ maxLen
 pfine : ∀ y ∈ x.ps, y.Fine
 ns : ∀ n ∈ x.ns, I64 n
 name : x.name.size ≤ 9223372036854775807
structure Cfg.In (w : World) (N : Nat) (x : Cfg) : Prop where
 cseg : SegA Core.vs 1 w x.ca x.cs
 clo : x.cs ≠ [] → ∀ y, x.ca = some y → y.block < N
 clen : x.cs.length ≤ x.cc ∧ x.cc ≤ maxLen
 cin : ∀ y ∈ x.cs, y.In w N
 pseg : SegA Par.vs 8 w x.pa x.ps
 plo : x.ps ≠ [] → ∀ y, x.pa = some y → y.block < N
 plen : x.ps.length ≤ x.pc ∧ x.pc ≤ maxLen
 pin : ∀ y ∈ x.ps, y.In w N
 hseg : SegA Chn.vs 3 w x.ha x.hs
 hlo : x.hs ≠ [] → ∀ y, x.ha = some y → y.block < N
 hlen : x.hs.length ≤ x.hc ∧ x.hc ≤ maxLen
 hfine : ∀ y ∈ x.hs, y.Fine
 ns : ∀ n ∈ x.ns, I64 n
theorem Core.In.below {w w' : World} {N : Nat} {x : Core} (h : x.In w N) (hK : Below N w w') : x.In w' N := ⟨h.seg.below hK h.lo, h.lo, h.len, h.fine⟩
theorem Par.In.below {w w' : World} {N : Nat} {x : Par} (h : x.In w N) (hK : Below N w w') : x.In w' N := ⟨h.rseg.below hK h.rlo, h.rlo, h.rlen, h.rfine, h.pseg.below hK h.plo, h.plo, h.plen, h.pfine, h.ns, h.name⟩
theorem Cfg.In.below {w w' : World} {N : Nat} {x : Cfg} (h : x.In w N) (hK : Below N w w') : x.In w' N :=
 ⟨h.cseg.below hK h.clo, h.clo, h.clen, fun y hy => (h.cin y hy).below hK, h.pseg.below hK h.plo, h.plo, h.plen, fun y hy => (h.pin y hy).below hK, h.hseg.below hK h.hlo, h.hlo, h.hlen, h.hfine, h.ns⟩
theorem segA_lt {α : Type} {cells : α → List Value} {k : Nat} {w : World} {a : Option Addr} {xs : List α} (h : SegA cells k w a xs) (hp : ∀ x, 0 < (cells x).length) (hn : xs ≠ []) (y : Addr) (hy : a = some y) : y.block < w.heap.size := by
 rcases h with h1 | ⟨g, o, h1, h2⟩
 ·
  exact (hn h1).elim
 ·
  rw [h1] at hy
  cases hy
  obtain ⟨x, hx⟩ : ∃ x, xs[0]? = some x := by cases xs with | nil => exact (hn rfl).elim | cons x l => exact ⟨x, rfl⟩
  obtain ⟨v, hv⟩ : ∃ v, (cells x)[0]? = some v := ⟨_, List.getElem?_eq_getElem (hp x)⟩
  exact World.block_lt_of_cell? w ⟨g, o + 0 * k + 0, none⟩ (h2 0 x hx 0 v hv)
theorem Core.Ok.in {x : Core} {w : World} (h : x.Ok w) : x.In w w.heap.size := ⟨h.seg, fun hn y hy => segA_lt h.seg (fun _ => by simp) hn y hy, h.len, h.fine⟩
theorem Par.Ok.in {x : Par} {w : World} (h : x.Ok w) : x.In w w.heap.size :=
 ⟨h.rseg, fun hn y hy => segA_lt h.rseg (fun _ => by simp) hn y hy, h.rlen, h.rfine, h.pseg, fun hn y hy => segA_lt h.pseg (fun _ => by simp) hn y hy, h.plen, h.pfine, h.ns, h.name⟩
end Go.Proofs.YtlnmlbkeemahcaaGreat
namespace Go.Proofs.YtlnmlbkeemahcaaGreat
open Go.RowKit
set_option linter.unusedVariables false
set_option maxRecDepth 6000
theorem Cfg.In.keeps {x : Cfg} {w w' : World} {N : Nat} (h : x.In w N) (hN : N ≤ w.heap.size) (hK : KF w w') : x.In w' N := h.below (hK.below hN fun _ h => h.elim)
theorem Cfg.In.core {x : Cfg} {w : World} {N : Nat} (h : x.In w N) {k : Nat} {X : Core} (hX : x.cs[k]? = some X) :
  ∃ g o, x.ca = some ⟨g, o, none⟩ ∧ w.cell? ⟨g, o + k, none⟩ = some X.v := by
 obtain ⟨g, o, ha, hc⟩ := h.cseg.at hX
 refine ⟨g, o, ha, ?_⟩
 have := hc 0 _ rfl
 rw [Nat.mul_one, Nat.add_zero] at this
 exact this
abbrev Cfg.laid (w : World) (x : Cfg) : World := w.alloc (.cells #[.int .i64 x.frames, .int .i64 x.major, .int .i64 x.kernel, .int .i64 x.room, .slice x.ca x.cs.length x.cc, .slice x.pa x.ps.length x.pc, .slice x.ha x.hs.length x.hc] 26)
structure One (w : World) (x : Cfg) (C N : Nat) (w' : World) : Prop where
 cfg : Blk w' C x.vs 26
 keeps : KF w w'
 cin : x.In w' N
 lo : w.heap.size ≤ C
 n : N ≤ w.heap.size
theorem One.mk' {w : World} {x : Cfg} {N : Nat} (hi : x.In w N) (hN : N ≤ w.heap.size) : One w x w.heap.size N (x.laid w) :=
 ⟨Blk.new w _ _, (Keeps.refl _ _).alloc _, hi.keeps hN ((Keeps.refl _ _).alloc _), Nat.le_refl _, hN⟩
theorem One.kept {w : World} {x : Cfg} {C N : Nat} {w' w'' : World} (h : One w x C N w') (hK : KF w' w'') : One w x C N w'' :=
 ⟨h.cfg.kept hK fun h => h, h.keeps.trans hK fun _ _ h => h, h.cin.keeps (Nat.le_trans h.n h.keeps.size) hK, h.lo, h.n⟩
theorem One.nn {w : World} {x : Cfg} {C N : Nat} {w' : World} (h : One w x C N w') : N ≤ w'.heap.size := Nat.le_trans h.n h.keeps.size
theorem One.kept' {w : World} {x : Cfg} {C N : Nat} {w' w'' : World} {S : Nat → Prop} (h : One w x C N w') (hK : Keeps S w' w'') (hC : ¬ S C) (hN : ∀ k, S k → N ≤ k) (hw : ∀ k, S k → w.heap.size ≤ k) : One w x C N w'' :=
 ⟨h.cfg.kept hK hC, h.keeps.trans hK fun k hk e => absurd hk (by have := hw k e; omega), h.cin.below (hK.below h.nn hN), h.lo, h.n⟩
theorem Cfg.In.par {x : Cfg} {w : World} {N : Nat} (h : x.In w N) {k : Nat} {X : Par} (hX : x.ps[k]? = some X) :
  ∃ g o, x.pa = some ⟨g, o, none⟩ ∧ ∀ i v, X.vs[i]? = some v → w.cell? ⟨g, o + k * 8 + i, none⟩ = some v := h.pseg.at hX
theorem Cfg.In.chn {x : Cfg} {w : World} {N : Nat} (h : x.In w N) {k : Nat} {X : Chn} (hX : x.hs[k]? = some X) :
  ∃ g o, x.ha = some ⟨g, o, none⟩ ∧ ∀ i v, X.vs[i]? = some v → w.cell? ⟨g, o + k * 3 + i, none⟩ = some v := h.hseg.at hX
theorem One.cells {w : World} {x : Cfg} {C N : Nat} {w' : World} (h : One w x C N w') :
  w'.cell? ⟨C, 0, none⟩ = some (.int .i64 x.frames) ∧ w'.cell? ⟨C, 1, none⟩ = some (.int .i64 x.major) ∧ w'.cell? ⟨C, 2, none⟩ = some (.int .i64 x.kernel) ∧ w'.cell? ⟨C, 3, none⟩ = some (.int .i64 x.room) ∧
  w'.cell? ⟨C, 4, none⟩ = some (.slice x.ca x.cs.length x.cc) ∧ w'.cell? ⟨C, 5, none⟩ = some (.slice x.pa x.ps.length x.pc) ∧ w'.cell? ⟨C, 6, none⟩ = some (.slice x.ha x.hs.length x.hc) :=
 ⟨h.cfg.cell rfl, h.cfg.cell rfl, h.cfg.cell rfl, h.cfg.cell rfl, h.cfg.cell rfl, h.cfg.cell rfl, h.cfg.cell rfl⟩
theorem s1 {α : Type} {l : List α} {i : Nat} {a : α} : l.toArray.setIfInBounds i a = (l.set i a).toArray := List.setIfInBounds_toArray ..
theorem s2 {α : Type} {x : α} {xs : List α} {a : α} : (x :: xs).set 0 a = a :: xs := List.set_cons_zero
theorem s3 {α : Type} {x : α} {xs : List α} {i : Nat} {a : α} : (x :: xs).set (i + 1) a = x :: xs.set i a := List.set_cons_succ
theorem tk {P : Program} {md : Region.Mode} {ops : Array Oper} {Q : Exit → Act → World → Prop} {S : World → Prop} {oi : Oper} {fuel : Nat} {listed : Array Bool} {a : Act} {w : World} (i : Nat) (v : Value) (hS : S w) (h : wpAnyH P md ops Q S fuel (listed.setIfInBounds i true) (a.put oi.dst v) w)
  (hi : ops[i]? = some oi := by (simp only [List.getElem?_toArray, List.getElem?_cons_succ, List.getElem?_cons_zero]; exact rfl))
  (hs : Region.noSelect ops = true := by kernel_rfl) (hf : Region.free md ops listed i = true := by kernel_rfl) (hc : (Region.ready md ops listed).contains i = true := by kernel_rfl)
  (hQ : ∀ c a w, Q (.panic c) (a.put oi.dst v) w → Q (.panic c) a w := by exact fun _ _ _ h => h) (hg : Region.wanted oi (yielded ops a.tmps) = true := by kernel_rfl)
  (hr : ∀ w, S w → (execOp a.eval oi).run P w = .ok (.value v) w := by (intro w hSw; (try dsimp only at hSw); go_simp; try omega)) : wpAnyH P md ops Q S (fuel + 1) listed a w :=
 wpAnyH_take hi hs hf hc hQ (Or.inl ⟨hg, hr⟩) hS h
theorem tn {P : Program} {md : Region.Mode} {ops : Array Oper} {Q : Exit → Act → World → Prop} {S : World → Prop} {oi : Oper} {fuel : Nat} {listed : Array Bool} {a : Act} {w : World} (i : Nat) (hS : S w) (h : wpAnyH P md ops Q S fuel (listed.setIfInBounds i true) (a.put oi.dst undef) w)
  (hi : ops[i]? = some oi := by (simp only [List.getElem?_toArray, List.getElem?_cons_succ, List.getElem?_cons_zero]; exact rfl))
  (hs : Region.noSelect ops = true := by kernel_rfl) (hf : Region.free md ops listed i = true := by kernel_rfl) (hc : (Region.ready md ops listed).contains i = true := by kernel_rfl)
  (hQ : ∀ c a w, Q (.panic c) (a.put oi.dst undef) w → Q (.panic c) a w := by exact fun _ _ _ h => h) (hg : Region.wanted oi (yielded ops a.tmps) = false := by kernel_rfl) : wpAnyH P md ops Q S (fuel + 1) listed a w :=
 wpAnyH_take hi hs hf hc hQ (Or.inr ⟨hg, rfl⟩) hS h
theorem rd {P : Program} {md : Region.Mode} {ops : Array Oper} {Q : Exit → Act → World → Prop} {S : World → Prop} {fuel : Nat} {listed : Array Bool} {a : Act} {w : World} {o : Oper} (i : Nat)
 (h : ∀ K' : Act → World → Prop, Shut (∀ a w, S w → (S w → wpAnyH P md ops Q S fuel (listed.setIfInBounds i true) a w) → K' a w) → if Region.wanted o (yielded ops a.tmps) = true then Oper.wp P o a w K' Q else K' (a.put o.dst undef) w)
 (hi : ops[i]? = some o := by (simp only [List.getElem?_toArray, List.getElem?_cons_succ, List.getElem?_cons_zero]; exact rfl)) (hr : Region.ready md ops listed = [i] := by kernel_rfl) : wpAnyH P md ops Q S (fuel + 1) listed a w :=
 wpAnyH_ready hr (by simp) (AllReadyH.cons hi h AllReadyH.nil)
theorem t1 {α : Type} {l : List α} : l.toArray.size = l.length := List.size_toArray ..
theorem t2 {α : Type} {a : α} {l : List α} : (a :: l).length = l.length + 1 := List.length_cons
theorem t4 {α : Type} {n : Nat} {a : α} : Array.replicate (n + 1) a = (Array.replicate n a).push a := Array.replicate_succ
theorem t6 {α : Type} {l : List α} {a : α} : l.toArray.push a = (l ++ [a]).toArray := List.push_toArray ..
theorem t8 {α : Type} {a : α} {l m : List α} : a :: l ++ m = a :: (l ++ m) := List.cons_append
end Go.Proofs.YtlnmlbkeemahcaaGreat
