import Derived.Test.YtnkohgciecmecaaGreatDoorTy
namespace Go.Proofs.YtnkohgciecmecaaGreatDoor
open Go.RowKit
set_option linter.unusedVariables false
set_option maxRecDepth 6000

/-- A kind of elements: how they lie, what besides must be there, and in which blocks. -/
structure Elem (α : Type) where
  vs : α → List Value
  k : Nat
  ety : TypeId
  len : ∀ x, (vs x).length = k
  pos : 0 < k
  Ok : World → α → Prop
  bl : α → List Nat
  kept : ∀ {S : Nat → Prop} {w w' : World} {x : α}, Ok w x → Keeps S w w' → (∀ k ∈ bl x, ¬ S k) → Ok w' x

variable {α : Type} {E : Elem α}

theorem flat_len (E : Elem α) (xs : List α) : (xs.flatMap E.vs).length = xs.length * E.k := by
  induction xs with
  | nil => simp
  | cons x xs ih => simp only [List.flatMap_cons, List.length_append, List.length_cons, E.len, ih, Nat.add_mul]; omega
theorem flat_get (E : Elem α) (xs : List α) (j : Nat) (x : α) (i : Nat) (v : Value) (hj : xs[j]? = some x) (hi : (E.vs x)[i]? = some v) : (xs.flatMap E.vs)[j * E.k + i]? = some v := by
  induction xs generalizing j with
  | nil => simp at hj
  | cons y ys ih =>
    have hik : i < E.k := by rw [← E.len x]; exact (List.getElem?_eq_some_iff.1 hi).1
    cases j with
    | zero =>
      simp at hj
      subst hj
      rw [List.flatMap_cons, Nat.zero_mul, Nat.zero_add, List.getElem?_append_left (by rw [E.len]; exact hik)]
      exact hi
    | succ j =>
      rw [List.flatMap_cons, List.getElem?_append_right (by rw [E.len, Nat.add_mul]; omega), E.len]
      have : (j + 1) * E.k + i - E.k = j * E.k + i := by rw [Nat.add_mul]; omega
      rw [this]
      exact ih j (by simpa using hj)

def eWin : Elem Win := ⟨Win.vs, 3, 209, fun _ => rfl, by decide, fun _ x => x.Fine, fun _ => [], fun h _ _ => h⟩
def eRgn : Elem Rgn := ⟨Rgn.vs, 4, 81, fun _ => rfl, by decide, fun _ x => x.Fine, fun _ => [], fun h _ _ => h⟩
def ePrt : Elem Prt := ⟨Prt.vs, 2, 162, fun _ => rfl, by decide, fun _ x => x.Fine, fun _ => [], fun h _ _ => h⟩
def eChn : Elem Chn := ⟨Chn.vs, 3, 110, fun _ => rfl, by decide, fun _ x => x.Fine, fun _ => [], fun h _ _ => h⟩
/-- The block of a list that has something. -/
def blk1 {β : Type} (a : Option Addr) (l : List β) : List Nat := match a with | some y => if l.isEmpty then [] else [y.block] | none => []
theorem blk1_mem {β : Type} {a : Option Addr} {l : List β} {k : Nat} : k ∈ blk1 a l ↔ l ≠ [] ∧ ∃ y, a = some y ∧ y.block = k := by
  unfold blk1
  cases a with
  | none => simp
  | some y =>
    cases l with
    | nil => simp
    | cons x l => simp; exact eq_comm
structure Core.Ok (w : World) (x : Core) : Prop where
  seg : SegA Win.vs 3 w x.a x.ws
  len : x.ws.length ≤ x.c ∧ x.c ≤ maxLen
  fine : ∀ y ∈ x.ws, y.Fine
structure Par.Ok (w : World) (x : Par) : Prop where
  rseg : SegA Rgn.vs 4 w x.ra x.rs
  rlen : x.rs.length ≤ x.rc ∧ x.rc ≤ maxLen
  rfine : ∀ y ∈ x.rs, y.Fine
  pseg : SegA Prt.vs 2 w x.pa x.ps
  plen : x.ps.length ≤ x.pc ∧ x.pc ≤ maxLen
  pfine : ∀ y ∈ x.ps, y.Fine
  ns : ∀ n ∈ x.ns, I64 n
  name : x.name.size ≤ 9223372036854775807
def Par.bl (x : Par) : List Nat := blk1 x.ra x.rs ++ blk1 x.pa x.ps
def eCore : Elem Core := ⟨Core.vs, 1, 69, fun _ => rfl, by decide, fun w x => x.Ok w, fun x => blk1 x.a x.ws, fun h hK hn => ⟨h.seg.kept hK fun h1 y hy => hn _ (blk1_mem.2 ⟨h1, y, hy, rfl⟩), h.len, h.fine⟩⟩
def ePar : Elem Par := ⟨Par.vs, 8, 53, fun _ => rfl, by decide, fun w x => x.Ok w, fun x => x.bl, fun h hK hn =>
  ⟨h.rseg.kept hK fun h1 y hy => hn _ (List.mem_append_left _ (blk1_mem.2 ⟨h1, y, hy, rfl⟩)), h.rlen, h.rfine, h.pseg.kept hK fun h1 y hy => hn _ (List.mem_append_right _ (blk1_mem.2 ⟨h1, y, hy, rfl⟩)), h.plen, h.pfine, h.ns, h.name⟩⟩
/-- A core lies there, below N. -/
structure Core.In (w : World) (N : Nat) (x : Core) : Prop where
  seg : SegA Win.vs 3 w x.a x.ws
  lo : x.ws ≠ [] → ∀ y, x.a = some y → y.block < N
  len : x.ws.length ≤ x.c ∧ x.c ≤ maxLen
  fine : ∀ y ∈ x.ws, y.Fine
structure Par.In (w : World) (N : Nat) (x : Par) : Prop where
  rseg : SegA Rgn.vs 4 w x.ra x.rs
  rlo : x.rs ≠ [] → ∀ y, x.ra = some y → y.block < N
  rlen : x.rs.length ≤ x.rc ∧ x.rc ≤ maxLen
  rfine : ∀ y ∈ x.rs, y.Fine
  pseg : SegA Prt.vs 2 w x.pa x.ps
  plo : x.ps ≠ [] → ∀ y, x.pa = some y → y.block < N
  plen : x.ps.length ≤ x.pc ∧ x.pc ≤ maxLen
  pfine : ∀ y ∈ x.ps, y.Fine
  ns : ∀ n ∈ x.ns, I64 n
  name : x.name.size ≤ 9223372036854775807
structure Cfg.In (w : World) (N : Nat) (x : Cfg) : Prop where
  cseg : SegA Core.vs 1 w x.ca x.cs
  clo : x.cs ≠ [] → ∀ y, x.ca = some y → y.block < N
  clen : x.cs.length ≤ x.cc ∧ x.cc ≤ maxLen
  cin : ∀ y ∈ x.cs, y.In w N
  pseg : SegA Par.vs 8 w x.pa x.ps
  plo : x.ps ≠ [] → ∀ y, x.pa = some y → y.block < N
  plen : x.ps.length ≤ x.pc ∧ x.pc ≤ maxLen
  pin : ∀ y ∈ x.ps, y.In w N
  hseg : SegA Chn.vs 3 w x.ha x.hs
  hlo : x.hs ≠ [] → ∀ y, x.ha = some y → y.block < N
  hlen : x.hs.length ≤ x.hc ∧ x.hc ≤ maxLen
  hfine : ∀ y ∈ x.hs, y.Fine
  ns : ∀ n ∈ x.ns, I64 n
theorem Core.In.below {w w' : World} {N : Nat} {x : Core} (h : x.In w N) (hK : Below N w w') : x.In w' N := ⟨h.seg.below hK h.lo, h.lo, h.len, h.fine⟩
theorem Par.In.below {w w' : World} {N : Nat} {x : Par} (h : x.In w N) (hK : Below N w w') : x.In w' N := ⟨h.rseg.below hK h.rlo, h.rlo, h.rlen, h.rfine, h.pseg.below hK h.plo, h.plo, h.plen, h.pfine, h.ns, h.name⟩
theorem Cfg.In.below {w w' : World} {N : Nat} {x : Cfg} (h : x.In w N) (hK : Below N w w') : x.In w' N :=
  ⟨h.cseg.below hK h.clo, h.clo, h.clen, fun y hy => (h.cin y hy).below hK, h.pseg.below hK h.plo, h.plo, h.plen, fun y hy => (h.pin y hy).below hK, h.hseg.below hK h.hlo, h.hlo, h.hlen, h.hfine, h.ns⟩
theorem segA_lt {α : Type} {cells : α → List Value} {k : Nat} {w : World} {a : Option Addr} {xs : List α} (h : SegA cells k w a xs) (hp : ∀ x, 0 < (cells x).length) (hn : xs ≠ []) (y : Addr) (hy : a = some y) : y.block < w.heap.size := by
  rcases h with h1 | ⟨g, o, h1, h2⟩
  · exact (hn h1).elim
  · rw [h1] at hy
    cases hy
    obtain ⟨x, hx⟩ : ∃ x, xs[0]? = some x := by cases xs with | nil => exact (hn rfl).elim | cons x l => exact ⟨x, rfl⟩
    obtain ⟨v, hv⟩ : ∃ v, (cells x)[0]? = some v := ⟨_, List.getElem?_eq_getElem (hp x)⟩
    exact World.block_lt_of_cell? w ⟨g, o + 0 * k + 0, none⟩ (h2 0 x hx 0 v hv)
theorem Core.Ok.in {x : Core} {w : World} (h : x.Ok w) : x.In w w.heap.size := ⟨h.seg, fun hn y hy => segA_lt h.seg (fun _ => by simp) hn y hy, h.len, h.fine⟩
theorem Par.Ok.in {x : Par} {w : World} (h : x.Ok w) : x.In w w.heap.size :=
  ⟨h.rseg, fun hn y hy => segA_lt h.rseg (fun _ => by simp) hn y hy, h.rlen, h.rfine, h.pseg, fun hn y hy => segA_lt h.pseg (fun _ => by simp) hn y hy, h.plen, h.pfine, h.ns, h.name⟩
theorem Cfg.In.fine {x : Cfg} {w : World} {N : Nat} (h : x.In w N) : ∀ c ∈ x.cs, ∀ y ∈ c.ws, y.Fine := fun c hc => (h.cin c hc).fine

end Go.Proofs.YtnkohgciecmecaaGreatDoor
