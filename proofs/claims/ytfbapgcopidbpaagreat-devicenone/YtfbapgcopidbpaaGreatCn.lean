import Derived.Test.YtfbapgcopidbpaaGreatTy
namespace Go.Proofs.YtfbapgcopidbpaaGreat
open Go.RowKit
set_option linter.unusedVariables false
set_option maxRecDepth 6000

/-- A kind of elements: how they lie, what besides must be there, and in which blocks. -/
structure Elem (α : Type) where
  vs : α → List Value
  k : Nat
  ety : TypeId
  len : ∀ x, (vs x).length = k
  pos : 0 < k
  Ok : World → α → Prop
  bl : α → List Nat
  kept : ∀ {S : Nat → Prop} {w w' : World} {x : α}, Ok w x → Keeps S w w' → (∀ k ∈ bl x, ¬ S k) → Ok w' x

variable {α : Type} {E : Elem α}

theorem flat_get (E : Elem α) (xs : List α) (j : Nat) (x : α) (i : Nat) (v : Value) (hj : xs[j]? = some x) (hi : (E.vs x)[i]? = some v) : (xs.flatMap E.vs)[j * E.k + i]? = some v := by
  induction xs generalizing j with
  | nil => simp at hj
  | cons y ys ih =>
    have hik : i < E.k := by rw [← E.len x]; exact (List.getElem?_eq_some_iff.1 hi).1
    cases j with
    | zero =>
      simp at hj
      subst hj
      rw [List.flatMap_cons, Nat.zero_mul, Nat.zero_add, List.getElem?_append_left (by rw [E.len]; exact hik)]
      exact hi
    | succ j =>
      rw [List.flatMap_cons, List.getElem?_append_right (by rw [E.len, Nat.add_mul]; omega), E.len]
      have : (j + 1) * E.k + i - E.k = j * E.k + i := by rw [Nat.add_mul]; omega
      rw [this]
      exact ih j (by simpa using hj)

def eWin : Elem Win := ⟨Win.vs, 3, 94, fun _ => rfl, by decide, fun _ x => x.Fine, fun _ => [], fun h _ _ => h⟩
def eRgn : Elem Rgn := ⟨Rgn.vs, 4, 97, fun _ => rfl, by decide, fun _ x => x.Fine, fun _ => [], fun h _ _ => h⟩
def ePrt : Elem Prt := ⟨Prt.vs, 2, 116, fun _ => rfl, by decide, fun _ x => x.Fine, fun _ => [], fun h _ _ => h⟩
def eChn : Elem Chn := ⟨Chn.vs, 3, 112, fun _ => rfl, by decide, fun _ x => x.Fine, fun _ => [], fun h _ _ => h⟩
/-- The block of a list that has something. -/
def blk1 {β : Type} (a : Option Addr) (l : List β) : List Nat := match a with | some y => if l.isEmpty then [] else [y.block] | none => []
theorem blk1_mem {β : Type} {a : Option Addr} {l : List β} {k : Nat} : k ∈ blk1 a l ↔ l ≠ [] ∧ ∃ y, a = some y ∧ y.block = k := by
  unfold blk1
  cases a with
  | none => simp
  | some y =>
    cases l with
    | nil => simp
    | cons x l => simp; exact eq_comm
structure Core.Ok (w : World) (x : Core) : Prop where
  seg : SegA Win.vs 3 w x.a x.ws
  len : x.ws.length ≤ x.c ∧ x.c ≤ maxLen
  fine : ∀ y ∈ x.ws, y.Fine
structure Par.Ok (w : World) (x : Par) : Prop where
  rseg : SegA Rgn.vs 4 w x.ra x.rs
  rlen : x.rs.length ≤ x.rc ∧ x.rc ≤ maxLen
  rfine : ∀ y ∈ x.rs, y.Fine
  pseg : SegA Prt.vs 2 w x.pa x.ps
  plen : x.ps.length ≤ x.pc ∧ x.pc ≤ maxLen
  pfine : ∀ y ∈ x.ps, y.Fine
  ns : ∀ n ∈ x.ns, I64 n
  name : x.name.size ≤ 9223372036854775807
def Par.bl (x : Par) : List Nat := blk1 x.ra x.rs ++ blk1 x.pa x.ps
def eCore : Elem Core := ⟨Core.vs, 1, 95, fun _ => rfl, by decide, fun w x => x.Ok w, fun x => blk1 x.a x.ws, fun h hK hn => ⟨h.seg.kept hK fun h1 y hy => hn _ (blk1_mem.2 ⟨h1, y, hy, rfl⟩), h.len, h.fine⟩⟩
def ePar : Elem Par := ⟨Par.vs, 8, 55, fun _ => rfl, by decide, fun w x => x.Ok w, fun x => x.bl, fun h hK hn =>
  ⟨h.rseg.kept hK fun h1 y hy => hn _ (List.mem_append_left _ (blk1_mem.2 ⟨h1, y, hy, rfl⟩)), h.rlen, h.rfine, h.pseg.kept hK fun h1 y hy => hn _ (List.mem_append_right _ (blk1_mem.2 ⟨h1, y, hy, rfl⟩)), h.plen, h.pfine, h.ns, h.name⟩⟩
/-- A core lies there, below N. -/
structure Core.In (w : World) (N : Nat) (x : Core) : Prop where
  seg : SegA Win.vs 3 w x.a x.ws
  lo : x.ws ≠ [] → ∀ y, x.a = some y → y.block < N
  len : x.ws.length ≤ x.c ∧ x.c ≤ maxLen
  fine : ∀ y ∈ x.ws, y.Fine
structure Par.In (w : World) (N : Nat) (x : Par) : Prop where
  rseg : SegA Rgn.vs 4 w x.ra x.rs
  rlo : x.rs ≠ [] → ∀ y, x.ra = some y → y.block < N
  rlen : x.rs.length ≤ x.rc ∧ x.rc ≤ maxLen
  rfine : ∀ y ∈ x.rs, y.Fine
  pseg : SegA Prt.vs 2 w x.pa x.ps
  plo : x.ps ≠ [] → ∀ y, x.pa = some y → y.block < N
  plen : x.ps.length ≤ x.pc ∧ x.pc ≤ maxLen
  pfine : ∀ y ∈ x.ps, y.Fine
  ns : ∀ n ∈ x.ns, I64 n
  name : x.name.size ≤ 9223372036854775807
structure Cfg.In (w : World) (N : Nat) (x : Cfg) : Prop where
  cseg : SegA Core.vs 1 w x.ca x.cs
  clo : x.cs ≠ [] → ∀ y, x.ca = some y → y.block < N
  clen : x.cs.length ≤ x.cc ∧ x.cc ≤ maxLen
  cin : ∀ y ∈ x.cs, y.In w N
  pseg : SegA Par.vs 8 w x.pa x.ps
  plo : x.ps ≠ [] → ∀ y, x.pa = some y → y.block < N
  plen : x.ps.length ≤ x.pc ∧ x.pc ≤ maxLen
  pin : ∀ y ∈ x.ps, y.In w N
  hseg : SegA Chn.vs 3 w x.ha x.hs
  hlo : x.hs ≠ [] → ∀ y, x.ha = some y → y.block < N
  hlen : x.hs.length ≤ x.hc ∧ x.hc ≤ maxLen
  hfine : ∀ y ∈ x.hs, y.Fine
  ns : ∀ n ∈ x.ns, I64 n
theorem Core.In.below {w w' : World} {N : Nat} {x : Core} (h : x.In w N) (hK : Below N w w') : x.In w' N := ⟨h.seg.below hK h.lo, h.lo, h.len, h.fine⟩
theorem Par.In.below {w w' : World} {N : Nat} {x : Par} (h : x.In w N) (hK : Below N w w') : x.In w' N := ⟨h.rseg.below hK h.rlo, h.rlo, h.rlen, h.rfine, h.pseg.below hK h.plo, h.plo, h.plen, h.pfine, h.ns, h.name⟩
theorem Cfg.In.below {w w' : World} {N : Nat} {x : Cfg} (h : x.In w N) (hK : Below N w w') : x.In w' N :=
  ⟨h.cseg.below hK h.clo, h.clo, h.clen, fun y hy => (h.cin y hy).below hK, h.pseg.below hK h.plo, h.plo, h.plen, fun y hy => (h.pin y hy).below hK, h.hseg.below hK h.hlo, h.hlo, h.hlen, h.hfine, h.ns⟩
end Go.Proofs.YtfbapgcopidbpaaGreat
namespace Go.Proofs.YtfbapgcopidbpaaGreat
open Go.RowKit
set_option linter.unusedVariables false
set_option maxRecDepth 6000

theorem Cfg.In.keeps {x : Cfg} {w w' : World} {N : Nat} (h : x.In w N) (hN : N ≤ w.heap.size) (hK : Keeps (fun _ => False) w w') : x.In w' N := h.below (hK.below hN fun _ h => h.elim)
theorem Cfg.In.core {x : Cfg} {w : World} {N : Nat} (h : x.In w N) {k : Nat} {X : Core} (hX : x.cs[k]? = some X) :
    ∃ g o, x.ca = some ⟨g, o, none⟩ ∧ w.cell? ⟨g, o + k, none⟩ = some X.v := by
  obtain ⟨g, o, ha, hc⟩ := h.cseg.at hX
  refine ⟨g, o, ha, ?_⟩
  have := hc 0 _ rfl
  rw [Nat.mul_one, Nat.add_zero] at this
  exact this
/-- A configuration laid into a block. -/
abbrev Cfg.laid (w : World) (x : Cfg) : World := w.alloc (.cells #[.int .i64 x.frames, .int .i64 x.major, .int .i64 x.kernel, .int .i64 x.room, .slice x.ca x.cs.length x.cc, .slice x.pa x.ps.length x.pc, .slice x.ha x.hs.length x.hc] 42)

/-- A configuration in a block of its own. -/
structure One (w : World) (x : Cfg) (C N : Nat) (w' : World) : Prop where
  cfg : Blk w' C x.vs 42
  keeps : Keeps (fun _ => False) w w'
  cin : x.In w' N
  lo : w.heap.size ≤ C
  n : N ≤ w.heap.size
theorem One.mk' {w : World} {x : Cfg} {N : Nat} (hi : x.In w N) (hN : N ≤ w.heap.size) : One w x w.heap.size N (x.laid w) :=
  ⟨Blk.new w _ _, (Keeps.refl _ _).alloc _, hi.keeps hN ((Keeps.refl _ _).alloc _), Nat.le_refl _, hN⟩
theorem One.kept {w : World} {x : Cfg} {C N : Nat} {w' w'' : World} (h : One w x C N w') (hK : Keeps (fun _ => False) w' w'') : One w x C N w'' :=
  ⟨h.cfg.kept hK fun h => h, h.keeps.trans hK fun _ _ h => h, h.cin.keeps (Nat.le_trans h.n h.keeps.size) hK, h.lo, h.n⟩
theorem One.nn {w : World} {x : Cfg} {C N : Nat} {w' : World} (h : One w x C N w') : N ≤ w'.heap.size := Nat.le_trans h.n h.keeps.size


theorem One.kept' {w : World} {x : Cfg} {C N : Nat} {w' w'' : World} {S : Nat → Prop} (h : One w x C N w') (hK : Keeps S w' w'') (hC : ¬ S C) (hN : ∀ k, S k → N ≤ k) (hw : ∀ k, S k → w.heap.size ≤ k) : One w x C N w'' :=
  ⟨h.cfg.kept hK hC, h.keeps.trans hK fun k hk e => absurd hk (by have := hw k e; omega), h.cin.below (hK.below h.nn hN), h.lo, h.n⟩
theorem Cfg.In.par {x : Cfg} {w : World} {N : Nat} (h : x.In w N) {k : Nat} {X : Par} (hX : x.ps[k]? = some X) :
    ∃ g o, x.pa = some ⟨g, o, none⟩ ∧ ∀ i v, X.vs[i]? = some v → w.cell? ⟨g, o + k * 8 + i, none⟩ = some v := h.pseg.at hX
theorem Cfg.In.chn {x : Cfg} {w : World} {N : Nat} (h : x.In w N) {k : Nat} {X : Chn} (hX : x.hs[k]? = some X) :
    ∃ g o, x.ha = some ⟨g, o, none⟩ ∧ ∀ i v, X.vs[i]? = some v → w.cell? ⟨g, o + k * 3 + i, none⟩ = some v := h.hseg.at hX
theorem One.cells {w : World} {x : Cfg} {C N : Nat} {w' : World} (h : One w x C N w') :
    w'.cell? ⟨C, 0, none⟩ = some (.int .i64 x.frames) ∧ w'.cell? ⟨C, 1, none⟩ = some (.int .i64 x.major) ∧ w'.cell? ⟨C, 2, none⟩ = some (.int .i64 x.kernel) ∧ w'.cell? ⟨C, 3, none⟩ = some (.int .i64 x.room) ∧
    w'.cell? ⟨C, 4, none⟩ = some (.slice x.ca x.cs.length x.cc) ∧ w'.cell? ⟨C, 5, none⟩ = some (.slice x.pa x.ps.length x.pc) ∧ w'.cell? ⟨C, 6, none⟩ = some (.slice x.ha x.hs.length x.hc) :=
  ⟨h.cfg.cell rfl, h.cfg.cell rfl, h.cfg.cell rfl, h.cfg.cell rfl, h.cfg.cell rfl, h.cfg.cell rfl, h.cfg.cell rfl⟩
end Go.Proofs.YtfbapgcopidbpaaGreat
