import Derived.Test.YtjadpbkhfclldaaGreatTy
import Derived.WalkKit
namespace Go.Proofs.YtjadpbkhfclldaaGreat
open Go.RowKit
set_option linter.unusedVariables false

theorem Keeps.of_grown {w w' : World} {row : Option Nat} (h : w.grownBy w' row) : Keeps (fun k => some k = row) w w' :=
  ⟨h.os, h.tape, h.output, h.size, fun k hk hn => h.block k hk hn⟩
theorem grown_of_keeps {S : Nat → Prop} {w w' : World} {row : Option Nat} (h : Keeps S w w') (hs : ∀ k, k < w.heap.size → S k → some k = row) : w.grownBy w' row :=
  ⟨h.os, h.tape, h.output, h.size, fun k hk hn => h.block k hk fun hS => hn (hs k hk hS)⟩

/-- An owned row is kept where its block is. -/
theorem owns_kept {S : Nat → Prop} {w w' : World} {e : TypeId} {size n : Nat} {v : Value} {vs : List Value} (h : w.ownsRow 0 e size v n vs) (hK : Keeps S w w') (hn : ∀ k, v.ownBlock = some k → ¬ S k) : w'.ownsRow 0 e size v n vs := by
  refine ⟨h.1, ?_⟩
  rcases h.2 with h2 | ⟨g, cap, cur, rfl, hb, hg, h3⟩
  · exact .inl h2
  · refine .inr ⟨g, cap, cur, rfl, hb, ?_, h3⟩
    rw [hK.block g (Array.getElem?_eq_some_iff.1 hg).1 (hn g rfl)]
    exact hg

/-! ### append to a row of one's own, and where the new row lies -/

theorem append_many {w : World} (t e : TypeId) (i : TypeInfo) (z : Value) (size bytes : Nat) (ht : Tryz.prog.underlying t = some (.slice e)) (hi : Tryz.prog.info? e = some i) (hz : i.zero = some z)
    (hs : i.size = size) (hb : i.bytes = bytes) (hzs : z.cells.size = size) (h0 : 0 < size) (v : Value) (n : Nat) (vs : List Value) (hown : w.ownsRow 0 e size v n vs)
    (a : Addr) (m c : Nat) (news : List Value) (hl : news.length = m * size) (hnews : ∀ j u, news[j]? = some u → w.cell? (a.add j) = some u) (h1 : ∀ u ∈ news, u.oneCell' = true)
    (hm : n + m ≤ maxLen) (hbytes : (n + m) * bytes ≤ 140737488355328) :
    ∃ v' W', (∀ ty, (Builtin.append_ #[t, t] ty #[v, .slice (some a) m c]).run Tryz.prog w = .ok v' W') ∧ W'.ownsRow 0 e size v' (n + m) (vs ++ news) ∧
      (v'.ownBlock = v.ownBlock ∨ ∃ k, v'.ownBlock = some k ∧ w.heap.size ≤ k) ∧ Keeps (fun k => some k = v.ownBlock) w W' := by
  obtain ⟨v', W', hr, ho, hg, hnil⟩ := run_append_own (P := Tryz.prog) w 0 t 0 e i z size bytes ht hi hz hs hb hzs h0 v n vs hown a m c news hl hnews h1 hm hbytes (Nat.zero_le _)
  refine ⟨v', W', fun ty => hr, ho, ?_, Keeps.of_grown hg⟩
  have hbig : n + m ≤ 9223372036854775807 := by unfold maxLen at hm; omega
  rcases hown.2 with ⟨rfl, rfl⟩ | ⟨g, cap, cur, rfl, _, hg1, hnc, hcm, hcs, htake⟩
  · by_cases hm0 : m = 0
    · left; rw [hnil.2 ⟨rfl, hm0⟩]
    · have h2 := run_append_nil (P := Tryz.prog) w t 0 e i z ht hi hz a m c news (by rw [hs]; exact hl) hnews (by omega) (by omega) (by
        rw [hb]
        rw [Nat.zero_add] at hbytes
        omega)
      rw [hr] at h2
      have e1 : v' = _ := (Result.ok.inj h2).1
      right
      rw [e1]
      exact ⟨_, rfl, by simp⟩
  · by_cases hroom : n + m ≤ cap
    · have h2 := run_append_room (P := Tryz.prog) w t 0 e i ht hi g n cap cur hg1 a m c news (by rw [hs]; exact hl) hnews h1 hroom (by
        rw [hs, hcs, hl, ← Nat.add_mul]; exact Nat.mul_le_mul_right _ hroom)
      rw [hr] at h2
      have e1 : v' = _ := (Result.ok.inj h2).1
      left
      rw [e1]
      rfl
    · have h2 := run_append_grow (P := Tryz.prog) w t 0 e i z ht hi hz ⟨g, 0, none⟩ n cap vs (by rw [hs]; exact hown.1) (hown.cells rfl) a m c news (by rw [hs]; exact hl) hnews (by omega) (by omega) (by
        rw [hb]; exact growslice_fits (by omega) hbytes)
      rw [hr] at h2
      have e1 : v' = _ := (Result.ok.inj h2).1
      right
      rw [e1]
      exact ⟨_, rfl, by simp⟩

/-- append of nothing, from nowhere. -/
theorem append_none {w : World} (t e : TypeId) (i : TypeInfo) (size : Nat) (ht : Tryz.prog.underlying t = some (.slice e)) (hi : Tryz.prog.info? e = some i)
    (hs : i.size = size) (h0 : 0 < size) (v : Value) (n c : Nat) (vs : List Value) (hown : w.ownsRow 0 e size v n vs) (ty : TypeId) :
    (Builtin.append_ #[t, t] ty #[v, .slice none 0 c]).run Tryz.prog w = .ok v w := by
  rcases hown.2 with ⟨rfl, rfl⟩ | ⟨g, cap, cur, rfl, _, hg1, hnc, hcm, hcs, htake⟩
  · simp [Builtin.append_, run_underlying ht, sizeOf, typeInfo, hi, Builtin.lenOf, run_firstCells_none]
  · simp [Builtin.append_, run_underlying ht, sizeOf, typeInfo, hi, Builtin.lenOf, hnc, run_firstCells_none, storeCells]

/-- append of a new block of one. -/
theorem append_new {w : World} (t e : TypeId) (i : TypeInfo) (z : Value) (size bytes : Nat) (ht : Tryz.prog.underlying t = some (.slice e)) (hi : Tryz.prog.info? e = some i) (hz : i.zero = some z)
    (hs : i.size = size) (hb : i.bytes = bytes) (hzs : z.cells.size = size) (h0 : 0 < size) (v : Value) (n : Nat) (vs : List Value) (hown : w.ownsRow 0 e size v n vs)
    (xs : Array Value) (hl : xs.size = size) (h1 : ∀ u ∈ xs.toList, u.oneCell' = true)
    (hm : n + 1 ≤ maxLen) (hbytes : (n + 1) * bytes ≤ 140737488355328) :
    ∃ v' W', (∀ ty, (Builtin.append_ #[t, t] ty #[v, .slice (some ⟨w.heap.size, 0, none⟩) 1 1]).run Tryz.prog (w.alloc (.cells xs e)) = .ok v' W') ∧ W'.ownsRow 0 e size v' (n + 1) (vs ++ xs.toList) ∧
      (v'.ownBlock = v.ownBlock ∨ ∃ k, v'.ownBlock = some k ∧ w.heap.size ≤ k) ∧ Keeps (fun k => some k = v.ownBlock) w W' := by
  have hW : Keeps (fun _ => False) w (w.alloc (.cells xs e)) := (Keeps.refl _ w).alloc _
  have hown1 : (w.alloc (.cells xs e)).ownsRow 0 e size v n vs := owns_kept hown hW (fun _ _ h => h)
  obtain ⟨v', W', hr, ho, hfr, hK⟩ := append_many t e i z size bytes ht hi hz hs hb hzs h0 v n vs hown1 ⟨w.heap.size, 0, none⟩ 1 1 xs.toList (by simpa using hl) (by
    intro j u hj
    have hB := Blk.new w xs e
    rw [addr_add]
    exact hB.cell (by rw [Nat.zero_add]; exact hj)) h1 hm hbytes
  refine ⟨v', W', hr, ho, ?_, (hW.mono fun _ _ h => h.elim).trans hK fun _ _ h => h⟩
  rcases hfr with h | ⟨k, h, h2⟩
  · exact .inl h
  · exact .inr ⟨k, h, by simp at h2; omega⟩

/-- A row that has grown: where it lies, and that nothing else was changed. -/
structure Grew (w : World) (v : Value) (w' : World) (v' : Value) : Prop where
  fresh : v'.ownBlock = v.ownBlock ∨ ∃ k, v'.ownBlock = some k ∧ w.heap.size ≤ k
  keeps : Keeps (fun k => some k = v.ownBlock) w w'

theorem Grew.refl (w : World) (v : Value) : Grew w v w v := ⟨.inl rfl, Keeps.refl _ _⟩
theorem Grew.trans {w w1 w2 : World} {v v1 v2 : Value} (h : Grew w v w1 v1) (k : Grew w1 v1 w2 v2) : Grew w v w2 v2 := by
  refine ⟨?_, h.keeps.trans k.keeps ?_⟩
  · rcases k.fresh with e | ⟨b, e, hb⟩
    · rw [e]; exact h.fresh
    · exact .inr ⟨b, e, Nat.le_trans h.keeps.size hb⟩
  · intro b hb e
    rcases h.fresh with f | ⟨c, f, hc⟩
    · rw [← f]; exact e
    · rw [f] at e; cases e; omega


theorem Grew.owns {w w' : World} {v v' : Value} (h : Grew w v w' v') (hv : v.ownBlock = none) : Keeps (fun _ => False) w w' :=
  h.keeps.mono fun b _ e => by rw [hv] at e; cases e

end Go.Proofs.YtjadpbkhfclldaaGreat
namespace Go.Proofs.YtjadpbkhfclldaaGreat
open Go.RowKit
set_option linter.unusedVariables false
set_option maxRecDepth 6000

/-- A kind of elements: how they lie, what besides must be there, and in which blocks. -/
structure Elem (α : Type) where
  vs : α → List Value
  k : Nat
  ety : TypeId
  len : ∀ x, (vs x).length = k
  pos : 0 < k
  Ok : World → α → Prop
  bl : α → List Nat
  kept : ∀ {S : Nat → Prop} {w w' : World} {x : α}, Ok w x → Keeps S w w' → (∀ k ∈ bl x, ¬ S k) → Ok w' x

variable {α : Type} {E : Elem α}

theorem flat_len (E : Elem α) (xs : List α) : (xs.flatMap E.vs).length = xs.length * E.k := by
  induction xs with
  | nil => simp
  | cons x xs ih => simp only [List.flatMap_cons, List.length_append, List.length_cons, E.len, ih, Nat.add_mul]; omega
theorem flat_get (E : Elem α) (xs : List α) (j : Nat) (x : α) (i : Nat) (v : Value) (hj : xs[j]? = some x) (hi : (E.vs x)[i]? = some v) : (xs.flatMap E.vs)[j * E.k + i]? = some v := by
  induction xs generalizing j with
  | nil => simp at hj
  | cons y ys ih =>
    have hik : i < E.k := by rw [← E.len x]; exact (List.getElem?_eq_some_iff.1 hi).1
    cases j with
    | zero =>
      simp at hj
      subst hj
      rw [List.flatMap_cons, Nat.zero_mul, Nat.zero_add, List.getElem?_append_left (by rw [E.len]; exact hik)]
      exact hi
    | succ j =>
      rw [List.flatMap_cons, List.getElem?_append_right (by rw [E.len, Nat.add_mul]; omega), E.len]
      have : (j + 1) * E.k + i - E.k = j * E.k + i := by rw [Nat.add_mul]; omega
      rw [this]
      exact ih j (by simpa using hj)

def eWin : Elem Win := ⟨Win.vs, 3, 51, fun _ => rfl, by decide, fun _ x => x.Fine, fun _ => [], fun h _ _ => h⟩
def eRgn : Elem Rgn := ⟨Rgn.vs, 4, 53, fun _ => rfl, by decide, fun _ x => x.Fine, fun _ => [], fun h _ _ => h⟩
def ePrt : Elem Prt := ⟨Prt.vs, 2, 55, fun _ => rfl, by decide, fun _ x => x.Fine, fun _ => [], fun h _ _ => h⟩
def eChn : Elem Chn := ⟨Chn.vs, 3, 57, fun _ => rfl, by decide, fun _ x => x.Fine, fun _ => [], fun h _ _ => h⟩
/-- The block of a list that has something. -/
def blk1 {β : Type} (a : Option Addr) (l : List β) : List Nat := match a with | some y => if l.isEmpty then [] else [y.block] | none => []
theorem blk1_mem {β : Type} {a : Option Addr} {l : List β} {k : Nat} : k ∈ blk1 a l ↔ l ≠ [] ∧ ∃ y, a = some y ∧ y.block = k := by
  unfold blk1
  cases a with
  | none => simp
  | some y =>
    cases l with
    | nil => simp
    | cons x l => simp; exact eq_comm
structure Core.Ok (w : World) (x : Core) : Prop where
  seg : SegA Win.vs 3 w x.a x.ws
  len : x.ws.length ≤ x.c ∧ x.c ≤ maxLen
  fine : ∀ y ∈ x.ws, y.Fine
structure Par.Ok (w : World) (x : Par) : Prop where
  rseg : SegA Rgn.vs 4 w x.ra x.rs
  rlen : x.rs.length ≤ x.rc ∧ x.rc ≤ maxLen
  rfine : ∀ y ∈ x.rs, y.Fine
  pseg : SegA Prt.vs 2 w x.pa x.ps
  plen : x.ps.length ≤ x.pc ∧ x.pc ≤ maxLen
  pfine : ∀ y ∈ x.ps, y.Fine
  ns : ∀ n ∈ x.ns, I64 n
  name : x.name.size ≤ 9223372036854775807
def Par.bl (x : Par) : List Nat := blk1 x.ra x.rs ++ blk1 x.pa x.ps
def eCore : Elem Core := ⟨Core.vs, 1, 43, fun _ => rfl, by decide, fun w x => x.Ok w, fun x => blk1 x.a x.ws, fun h hK hn => ⟨h.seg.kept hK fun h1 y hy => hn _ (blk1_mem.2 ⟨h1, y, hy, rfl⟩), h.len, h.fine⟩⟩
def ePar : Elem Par := ⟨Par.vs, 8, 47, fun _ => rfl, by decide, fun w x => x.Ok w, fun x => x.bl, fun h hK hn =>
  ⟨h.rseg.kept hK fun h1 y hy => hn _ (List.mem_append_left _ (blk1_mem.2 ⟨h1, y, hy, rfl⟩)), h.rlen, h.rfine, h.pseg.kept hK fun h1 y hy => hn _ (List.mem_append_right _ (blk1_mem.2 ⟨h1, y, hy, rfl⟩)), h.plen, h.pfine, h.ns, h.name⟩⟩
/-- A core lies there, below N. -/
structure Core.In (w : World) (N : Nat) (x : Core) : Prop where
  seg : SegA Win.vs 3 w x.a x.ws
  lo : x.ws ≠ [] → ∀ y, x.a = some y → y.block < N
  len : x.ws.length ≤ x.c ∧ x.c ≤ maxLen
  fine : ∀ y ∈ x.ws, y.Fine
structure Par.In (w : World) (N : Nat) (x : Par) : Prop where
  rseg : SegA Rgn.vs 4 w x.ra x.rs
  rlo : x.rs ≠ [] → ∀ y, x.ra = some y → y.block < N
  rlen : x.rs.length ≤ x.rc ∧ x.rc ≤ maxLen
  rfine : ∀ y ∈ x.rs, y.Fine
  pseg : SegA Prt.vs 2 w x.pa x.ps
  plo : x.ps ≠ [] → ∀ y, x.pa = some y → y.block < N
  plen : x.ps.length ≤ x.pc ∧ x.pc ≤ maxLen
  pfine : ∀ y ∈ x.ps, y.Fine
  ns : ∀ n ∈ x.ns, I64 n
  name : x.name.size ≤ 9223372036854775807
structure Cfg.In (w : World) (N : Nat) (x : Cfg) : Prop where
  cseg : SegA Core.vs 1 w x.ca x.cs
  clo : x.cs ≠ [] → ∀ y, x.ca = some y → y.block < N
  clen : x.cs.length ≤ x.cc ∧ x.cc ≤ maxLen
  cin : ∀ y ∈ x.cs, y.In w N
  pseg : SegA Par.vs 8 w x.pa x.ps
  plo : x.ps ≠ [] → ∀ y, x.pa = some y → y.block < N
  plen : x.ps.length ≤ x.pc ∧ x.pc ≤ maxLen
  pin : ∀ y ∈ x.ps, y.In w N
  hseg : SegA Chn.vs 3 w x.ha x.hs
  hlo : x.hs ≠ [] → ∀ y, x.ha = some y → y.block < N
  hlen : x.hs.length ≤ x.hc ∧ x.hc ≤ maxLen
  hfine : ∀ y ∈ x.hs, y.Fine
  ns : ∀ n ∈ x.ns, I64 n
theorem Core.In.below {w w' : World} {N : Nat} {x : Core} (h : x.In w N) (hK : Below N w w') : x.In w' N := ⟨h.seg.below hK h.lo, h.lo, h.len, h.fine⟩
theorem Par.In.below {w w' : World} {N : Nat} {x : Par} (h : x.In w N) (hK : Below N w w') : x.In w' N := ⟨h.rseg.below hK h.rlo, h.rlo, h.rlen, h.rfine, h.pseg.below hK h.plo, h.plo, h.plen, h.pfine, h.ns, h.name⟩
theorem Cfg.In.below {w w' : World} {N : Nat} {x : Cfg} (h : x.In w N) (hK : Below N w w') : x.In w' N :=
  ⟨h.cseg.below hK h.clo, h.clo, h.clen, fun y hy => (h.cin y hy).below hK, h.pseg.below hK h.plo, h.plo, h.plen, fun y hy => (h.pin y hy).below hK, h.hseg.below hK h.hlo, h.hlo, h.hlen, h.hfine, h.ns⟩
theorem segA_lt {α : Type} {cells : α → List Value} {k : Nat} {w : World} {a : Option Addr} {xs : List α} (h : SegA cells k w a xs) (hp : ∀ x, 0 < (cells x).length) (hn : xs ≠ []) (y : Addr) (hy : a = some y) : y.block < w.heap.size := by
  rcases h with h1 | ⟨g, o, h1, h2⟩
  · exact (hn h1).elim
  · rw [h1] at hy
    cases hy
    obtain ⟨x, hx⟩ : ∃ x, xs[0]? = some x := by cases xs with | nil => exact (hn rfl).elim | cons x l => exact ⟨x, rfl⟩
    obtain ⟨v, hv⟩ : ∃ v, (cells x)[0]? = some v := ⟨_, List.getElem?_eq_getElem (hp x)⟩
    exact World.block_lt_of_cell? w ⟨g, o + 0 * k + 0, none⟩ (h2 0 x hx 0 v hv)
theorem Core.Ok.in {x : Core} {w : World} (h : x.Ok w) : x.In w w.heap.size := ⟨h.seg, fun hn y hy => segA_lt h.seg (fun _ => by simp) hn y hy, h.len, h.fine⟩
theorem Par.Ok.in {x : Par} {w : World} (h : x.Ok w) : x.In w w.heap.size :=
  ⟨h.rseg, fun hn y hy => segA_lt h.rseg (fun _ => by simp) hn y hy, h.rlen, h.rfine, h.pseg, fun hn y hy => segA_lt h.pseg (fun _ => by simp) hn y hy, h.plen, h.pfine, h.ns, h.name⟩
theorem Cfg.In.fine {x : Cfg} {w : World} {N : Nat} (h : x.In w N) : ∀ c ∈ x.cs, ∀ y ∈ c.ws, y.Fine := fun c hc => (h.cin c hc).fine

end Go.Proofs.YtjadpbkhfclldaaGreat
namespace Go.Proofs.YtjadpbkhfclldaaGreat
open Go.RowKit
set_option linter.unusedVariables false
set_option maxRecDepth 6000
variable {α : Type} {E : Elem α}

/-- A row under way: it is one's own, from lo on. -/
structure Row (E : Elem α) (w : World) (lo : Nat) (u : Value) (xs : List α) : Prop where
  own : w.ownsRow 0 E.ety E.k u xs.length (xs.flatMap E.vs)
  low : ∀ k, u.ownBlock = some k → lo ≤ k
  ok : ∀ x ∈ xs, E.Ok w x
  bl : ∀ x ∈ xs, ∀ k ∈ E.bl x, lo ≤ k ∧ k < w.heap.size ∧ u.ownBlock ≠ some k

theorem Row.nil (w : World) (lo : Nat) : Row E w lo (.slice none 0 0) [] := ⟨⟨by simp, .inl ⟨rfl, rfl⟩⟩, fun k h => (by cases h), fun x h => (by simp at h), fun x h => (by simp at h)⟩
theorem Row.kept {S : Nat → Prop} {w w' : World} {lo : Nat} {u : Value} {xs : List α} (h : Row E w lo u xs) (hK : Keeps S w w') (hS : ∀ k, S k → k < lo) : Row E w' lo u xs :=
  ⟨owns_kept h.own hK fun k hk hs => by have := h.low k hk; have := hS k hs; omega, h.low, fun x hx => E.kept (h.ok x hx) hK fun k hk hs => by have := (h.bl x hx k hk).1; have := hS k hs; omega,
    fun x hx k hk => ⟨(h.bl x hx k hk).1, Nat.lt_of_lt_of_le (h.bl x hx k hk).2.1 hK.size, (h.bl x hx k hk).2.2⟩⟩
/-- One more: it was read, then laid into a block, then appended. -/
theorem Row.push {w W : World} {lo : Nat} {u v' : Value} {xs : List α} {x : α} (h : Row E w lo u xs) (hx : E.Ok w x) (hb : ∀ k ∈ E.bl x, lo ≤ k ∧ k < w.heap.size ∧ u.ownBlock ≠ some k) (hlo : lo ≤ w.heap.size)
    (hown : W.ownsRow 0 E.ety E.k v' (xs.length + 1) (xs.flatMap E.vs ++ E.vs x)) (hfr : v'.ownBlock = u.ownBlock ∨ ∃ k, v'.ownBlock = some k ∧ w.heap.size ≤ k) (hK : Keeps (fun k => some k = u.ownBlock) w W) : Row E W lo v' (xs ++ [x]) := by
  have hne : ∀ k, lo ≤ k ∧ k < w.heap.size ∧ u.ownBlock ≠ some k → lo ≤ k ∧ k < W.heap.size ∧ v'.ownBlock ≠ some k := by
    rintro k ⟨h1, h2, h3⟩
    refine ⟨h1, Nat.lt_of_lt_of_le h2 hK.size, ?_⟩
    rcases hfr with e | ⟨m, e, hm⟩
    · rw [e]; exact h3
    · rw [e]; intro e'; cases e'; omega
  have hall : ∀ y ∈ xs ++ [x], E.Ok w y ∧ ∀ k ∈ E.bl y, lo ≤ k ∧ k < w.heap.size ∧ u.ownBlock ≠ some k := by
    intro y hy
    rcases List.mem_append.1 hy with hy | hy
    · exact ⟨h.ok y hy, h.bl y hy⟩
    · have : y = x := by simpa using hy
      rw [this]; exact ⟨hx, hb⟩
  refine ⟨?_, ?_, fun y hy => E.kept (hall y hy).1 hK fun k hk e => ((hall y hy).2 k hk).2.2 e.symm, fun y hy k hk => hne k ((hall y hy).2 k hk)⟩
  · rw [List.length_append, List.flatMap_append]; simpa using hown
  · intro k hk
    rcases hfr with e | ⟨m, e, hm⟩
    · exact h.low k (e ▸ hk)
    · rw [e] at hk; cases hk; omega

/-- A list that was read. -/
structure Lst (E : Elem α) (w : World) (lo : Nat) (ad : Option Addr) (cp : Nat) (l : List α) : Prop where
  seg : SegA E.vs E.k w ad l
  len : l.length ≤ cp ∧ cp ≤ maxLen
  low : l ≠ [] → ∀ y, ad = some y → lo ≤ y.block
  ok : ∀ x ∈ l, E.Ok w x
  bl : ∀ x ∈ l, ∀ k ∈ E.bl x, lo ≤ k ∧ k < w.heap.size
theorem Row.lst {w : World} {lo : Nat} {u : Value} {xs : List α} (h : Row E w lo u xs) : ∃ ad cp, u = .slice ad xs.length cp ∧ Lst E w lo ad cp xs := by
  have hb := fun x hx k hk => (⟨(h.bl x hx k hk).1, (h.bl x hx k hk).2.1⟩ : lo ≤ k ∧ k < w.heap.size)
  rcases h.own.2 with ⟨rfl, h0⟩ | ⟨g, cap, cur, rfl, _, hg, h1, h2, h3, h4⟩
  · have : xs = [] := List.length_eq_zero_iff.1 h0
    subst this
    exact ⟨none, 0, rfl, .inl rfl, ⟨by simp, by unfold maxLen; omega⟩, fun e => (e rfl).elim, h.ok, hb⟩
  · refine ⟨some ⟨g, 0, none⟩, cap, rfl, .inr ⟨g, 0, rfl, fun j x hj i v hv => ?_⟩, ⟨h1, h2⟩, fun _ y hy => by cases hy; exact h.low g rfl, h.ok, hb⟩
    have hget := flat_get E xs j x i v hj hv
    have : cur.toList[j * E.k + i]? = some v := by
      have h5 : (cur.toList.take (xs.length * E.k))[j * E.k + i]? = some v := by rw [h4]; exact hget
      rw [List.getElem?_take] at h5
      split at h5
      · exact h5
      · cases h5
    rw [Nat.zero_add]
    have hB : Blk w g cur.toList E.ety := by unfold Blk; rw [Array.toArray_toList]; exact hg
    exact hB.cell this
theorem Lst.kept {S : Nat → Prop} {w w' : World} {lo cp : Nat} {ad : Option Addr} {l : List α} (h : Lst E w lo ad cp l) (hK : Keeps S w w') (hS : ∀ k, S k → k < lo) : Lst E w' lo ad cp l :=
  ⟨h.seg.kept hK fun hn y hy hs => by have := h.low hn y hy; have := hS _ hs; omega, h.len, h.low, fun x hx => E.kept (h.ok x hx) hK fun k hk hs => by have := (h.bl x hx k hk).1; have := hS k hs; omega,
    fun x hx k hk => ⟨(h.bl x hx k hk).1, Nat.lt_of_lt_of_le (h.bl x hx k hk).2 hK.size⟩⟩
theorem Lst.mono {w : World} {lo lo' cp : Nat} {ad : Option Addr} {l : List α} (h : Lst E w lo ad cp l) (hl : lo' ≤ lo) : Lst E w lo' ad cp l :=
  ⟨h.seg, h.len, fun hn y hy => Nat.le_trans hl (h.low hn y hy), h.ok, fun x hx k hk => ⟨Nat.le_trans hl (h.bl x hx k hk).1, (h.bl x hx k hk).2⟩⟩
theorem Lst.blk {w : World} {lo cp : Nat} {ad : Option Addr} {l : List α} (h : Lst E w lo ad cp l) (hn : l ≠ []) (y : Addr) (hy : ad = some y) : y.block < w.heap.size := by
  rcases h.seg with h1 | ⟨g, o, h1, h2⟩
  · exact (hn h1).elim
  · rw [h1] at hy
    cases hy
    obtain ⟨x, hx⟩ : ∃ x, l[0]? = some x := by cases l with | nil => exact (hn rfl).elim | cons x l => exact ⟨x, rfl⟩
    obtain ⟨v, hv⟩ : ∃ v, (E.vs x)[0]? = some v := ⟨_, List.getElem?_eq_getElem (by rw [E.len]; exact E.pos)⟩
    exact World.block_lt_of_cell? w ⟨g, o + 0 * E.k + 0, none⟩ (h2 0 x hx 0 v hv)

end Go.Proofs.YtjadpbkhfclldaaGreat
