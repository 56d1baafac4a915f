import Derived.Test.YtmkeccibminnhaaPv
import Derived.Test.YtmkeccibminnhaaRn
namespace Go.Proofs.Ytmkeccibminnhaa
open Go.RowKit
set_option linter.unusedVariables false

def Win.e2 (x : Win) : List UInt8 := nbs [x.p + 1, x.u, x.s]
def Win.d2 (x : Win) : Bool := wNs [x.p + 1, x.u, x.s]
def PPar.e (x : PPar) : List UInt8 := nameB x.name ++ (nbs [x.entry, x.action, x.restarts, x.inputs, x.outputs] ++ (listB Rgn.e x.rs ++ listB Prt.e x.ps))
def PPar.d (x : PPar) : Bool := nameW x.name || (wNs [x.entry, x.action, x.restarts, x.inputs, x.outputs] || (listW Rgn.d x.rs || listW Prt.d x.ps))
def PCfg.e (x : PCfg) : List UInt8 := nbs [x.frames, x.major, x.kernel, x.room] ++ (listB (listB Win.e2) x.cs ++ (listB PPar.e x.ps ++ listB Chn.e x.hs))
def PCfg.d (x : PCfg) : Bool := wNs [x.frames, x.major, x.kernel, x.room] || (listW (listW Win.d2) x.cs || (listW PPar.d x.ps || listW Chn.d x.hs))

theorem bind_bind {α β γ : Type} (x : Rs α) (f : α × Nat → Rs β) (g : β × Nat → Rs γ) : (x.bind f).bind g = x.bind fun a => (f a).bind g := by cases x <;> rfl
theorem ok_bind {α β : Type} (v : α × Nat) (f : α × Nat → Rs β) : (Except.ok v : Rs α).bind f = f v := rfl
theorem wN_bd {n : Int} (h : wN n = false) : 0 ≤ n ∧ n ≤ 4294967295 := by unfold wN at h; simp at h; omega

theorem gWin : Good rdWin Win.e2 Win.d2 := by
  refine ((gNum.seq (gNum.seq gNum)).iso (fun t => (⟨t.1 - 1, t.2.1, t.2.2⟩ : Win)) (fun x => (x.p + 1, x.u, x.s)) ?_ ?_).cong ?_ ?_ ?_
  · rintro ⟨a, b, c⟩ _; simp
  · rintro ⟨a, b, c⟩ _; simp
  · intro B p; simp only [rdWin, bind_bind, ok_bind]
  · intro x; simp [Win.e2, nbs]
  · intro x; simp [Win.d2, wNs]
theorem gRgn : Good rdRgn Rgn.e Rgn.d := by
  refine ((gNum.seq (gNum.seq (gNum.seq gNum))).iso (fun t => (⟨t.1, t.2.1, t.2.2.1, t.2.2.2⟩ : Rgn)) (fun x => (x.page, x.pages, x.frame, x.rights)) ?_ ?_).cong ?_ ?_ ?_
  · rintro ⟨a, b, c, d⟩ _; simp
  · rintro ⟨a, b, c, d⟩ _; simp
  · intro B p; simp only [rdRgn, bind_bind, ok_bind]
  · intro x; simp [Rgn.e, Rgn.ns, nbs]
  · intro x; simp [Rgn.d, Rgn.ns, wNs]
theorem gChn : Good rdChn Chn.e Chn.d := by
  refine ((gNum.seq (gNum.seq gNum)).iso (fun t => (⟨t.1, t.2.1, t.2.2⟩ : Chn)) (fun x => (x.kind, x.words, x.depth)) ?_ ?_).cong ?_ ?_ ?_
  · rintro ⟨a, b, c⟩ _; simp
  · rintro ⟨a, b, c⟩ _; simp
  · intro B p; simp only [rdChn, bind_bind, ok_bind]
  · intro x; simp [Chn.e, Chn.ns, nbs]
  · intro x; simp [Chn.d, Chn.ns, wNs]
theorem gPrt : Good rdPrt Prt.e Prt.d := by
  refine ((gNum.seq gSrc).iso (fun t => (⟨t.1, t.2⟩ : Prt)) (fun x => (x.ch, x.src)) ?_ ?_).cong ?_ ?_ ?_
  · rintro ⟨a, b⟩ _; simp
  · rintro ⟨a, b⟩ _; simp
  · intro B p; simp only [rdPrt, bind_bind, ok_bind]
  · intro x; simp [Prt.e, nbs]
  · intro x; simp [Prt.d, wNs]
theorem gCore : Good rdCore (listB Win.e2) (listW Win.d2) := gWin.list
theorem gPar : Good rdPar PPar.e PPar.d := by
  refine ((gText.seq (gNum.seq (gNum.seq (gNum.seq (gNum.seq (gNum.seq (gRgn.list.seq gPrt.list))))))).iso (fun t => (⟨t.1, t.2.1, t.2.2.1, t.2.2.2.1, t.2.2.2.2.1, t.2.2.2.2.2.1, t.2.2.2.2.2.2.1, t.2.2.2.2.2.2.2⟩ : PPar))
    (fun x => (x.name, x.entry, x.action, x.restarts, x.inputs, x.outputs, x.rs, x.ps)) ?_ ?_).cong ?_ ?_ ?_
  · rintro ⟨s, a, b, c, d, e, r, q⟩ _; simp
  · rintro ⟨s, a, b, c, d, e, r, q⟩ _; simp
  · intro B p; simp only [rdPar, bind_bind, ok_bind]
  · intro x; simp [PPar.e, nbs]
  · intro x; simp [PPar.d, wNs, Bool.or_assoc]
theorem gCfg : Good rdCfg PCfg.e PCfg.d := by
  refine ((gNum.seq (gNum.seq (gNum.seq (gNum.seq (gCore.list.seq (gPar.list.seq gChn.list)))))).iso (fun t => (⟨t.1, t.2.1, t.2.2.1, t.2.2.2.1, t.2.2.2.2.1, t.2.2.2.2.2.1, t.2.2.2.2.2.2⟩ : PCfg))
    (fun x => (x.frames, x.major, x.kernel, x.room, x.cs, x.ps, x.hs)) ?_ ?_).cong ?_ ?_ ?_
  · rintro ⟨a, b, c, d, e, r, q⟩ _; simp
  · rintro ⟨a, b, c, d, e, r, q⟩ _; simp
  · intro B p; simp only [rdCfg, bind_bind, ok_bind]
  · intro x; simp [PCfg.e, nbs]
  · intro x; simp [PCfg.d, wNs, Bool.or_assoc]
theorem gMark : Good rdMark (fun _ => lowB 4 826493762) (fun _ => false) := by
  have hnb : nb 826493762 = lowB 4 826493762 := rfl
  refine ⟨?_, ?_, ?_⟩
  · intro B p u _ hs
    unfold rdMark
    rw [gNum.fwd (x := 826493762) (by decide) (by rw [hnb]; exact hs)]
    rfl
  · intro B p q u hp hr
    obtain ⟨⟨n, q1⟩, r1, hr⟩ := bind_eq_ok hr
    obtain ⟨k1, k2, rfl⟩ := gNum.bwd hp r1
    simp only at hr
    split at hr
    · rename_i hn
      cases hr
      have hn' : n = 826493762 := hn
      subst hn'
      exact ⟨rfl, k2, rfl⟩
    · cases hr
  · intro B p q hp hr
    rcases bind_eq_err hr with r1 | ⟨⟨n, q1⟩, r1, hr⟩
    · exact gNum.err hp r1
    · simp only at hr
      split at hr
      · cases hr
      · cases hr; exact hp
end Go.Proofs.Ytmkeccibminnhaa
namespace Go.Proofs.Ytmkeccibminnhaa
open Go.RowKit
set_option linter.unusedVariables false
set_option maxRecDepth 6000

/-- A kind of elements: how they lie, what besides must be there, and in which blocks. -/
structure Elem (α : Type) where
  vs : α → List Value
  k : Nat
  ety : TypeId
  len : ∀ x, (vs x).length = k
  pos : 0 < k
  Ok : World → α → Prop
  bl : α → List Nat
  kept : ∀ {S : Nat → Prop} {w w' : World} {x : α}, Ok w x → Keeps S w w' → (∀ k ∈ bl x, ¬ S k) → Ok w' x

variable {α : Type} {E : Elem α}

theorem flat_len (E : Elem α) (xs : List α) : (xs.flatMap E.vs).length = xs.length * E.k := by
  induction xs with
  | nil => simp
  | cons x xs ih => simp only [List.flatMap_cons, List.length_append, List.length_cons, E.len, ih, Nat.add_mul]; omega
theorem flat_get (E : Elem α) (xs : List α) (j : Nat) (x : α) (i : Nat) (v : Value) (hj : xs[j]? = some x) (hi : (E.vs x)[i]? = some v) : (xs.flatMap E.vs)[j * E.k + i]? = some v := by
  induction xs generalizing j with
  | nil => simp at hj
  | cons y ys ih =>
    have hik : i < E.k := by rw [← E.len x]; exact (List.getElem?_eq_some_iff.1 hi).1
    cases j with
    | zero =>
      simp at hj
      subst hj
      rw [List.flatMap_cons, Nat.zero_mul, Nat.zero_add, List.getElem?_append_left (by rw [E.len]; exact hik)]
      exact hi
    | succ j =>
      rw [List.flatMap_cons, List.getElem?_append_right (by rw [E.len, Nat.add_mul]; omega), E.len]
      have : (j + 1) * E.k + i - E.k = j * E.k + i := by rw [Nat.add_mul]; omega
      rw [this]
      exact ih j (by simpa using hj)

/-- A row under way: it is one's own, from lo on. -/
structure Row (E : Elem α) (w : World) (lo : Nat) (u : Value) (xs : List α) : Prop where
  own : w.ownsRow 0 E.ety E.k u xs.length (xs.flatMap E.vs)
  low : ∀ k, u.ownBlock = some k → lo ≤ k
  ok : ∀ x ∈ xs, E.Ok w x
  bl : ∀ x ∈ xs, ∀ k ∈ E.bl x, lo ≤ k ∧ k < w.heap.size ∧ u.ownBlock ≠ some k

theorem Row.nil (w : World) (lo : Nat) : Row E w lo (.slice none 0 0) [] := ⟨⟨by simp, .inl ⟨rfl, rfl⟩⟩, fun k h => (by cases h), fun x h => (by simp at h), fun x h => (by simp at h)⟩
theorem Row.kept {S : Nat → Prop} {w w' : World} {lo : Nat} {u : Value} {xs : List α} (h : Row E w lo u xs) (hK : Keeps S w w') (hS : ∀ k, S k → k < lo) : Row E w' lo u xs :=
  ⟨owns_kept h.own hK fun k hk hs => by have := h.low k hk; have := hS k hs; omega, h.low, fun x hx => E.kept (h.ok x hx) hK fun k hk hs => by have := (h.bl x hx k hk).1; have := hS k hs; omega,
    fun x hx k hk => ⟨(h.bl x hx k hk).1, Nat.lt_of_lt_of_le (h.bl x hx k hk).2.1 hK.size, (h.bl x hx k hk).2.2⟩⟩
/-- One more: it was read, then laid into a block, then appended. -/
theorem Row.push {w W : World} {lo : Nat} {u v' : Value} {xs : List α} {x : α} (h : Row E w lo u xs) (hx : E.Ok w x) (hb : ∀ k ∈ E.bl x, lo ≤ k ∧ k < w.heap.size ∧ u.ownBlock ≠ some k) (hlo : lo ≤ w.heap.size)
    (hown : W.ownsRow 0 E.ety E.k v' (xs.length + 1) (xs.flatMap E.vs ++ E.vs x)) (hfr : v'.ownBlock = u.ownBlock ∨ ∃ k, v'.ownBlock = some k ∧ w.heap.size ≤ k) (hK : Keeps (fun k => some k = u.ownBlock) w W) : Row E W lo v' (xs ++ [x]) := by
  have hne : ∀ k, lo ≤ k ∧ k < w.heap.size ∧ u.ownBlock ≠ some k → lo ≤ k ∧ k < W.heap.size ∧ v'.ownBlock ≠ some k := by
    rintro k ⟨h1, h2, h3⟩
    refine ⟨h1, Nat.lt_of_lt_of_le h2 hK.size, ?_⟩
    rcases hfr with e | ⟨m, e, hm⟩
    · rw [e]; exact h3
    · rw [e]; intro e'; cases e'; omega
  have hall : ∀ y ∈ xs ++ [x], E.Ok w y ∧ ∀ k ∈ E.bl y, lo ≤ k ∧ k < w.heap.size ∧ u.ownBlock ≠ some k := by
    intro y hy
    rcases List.mem_append.1 hy with hy | hy
    · exact ⟨h.ok y hy, h.bl y hy⟩
    · have : y = x := by simpa using hy
      rw [this]; exact ⟨hx, hb⟩
  refine ⟨?_, ?_, fun y hy => E.kept (hall y hy).1 hK fun k hk e => ((hall y hy).2 k hk).2.2 e.symm, fun y hy k hk => hne k ((hall y hy).2 k hk)⟩
  · rw [List.length_append, List.flatMap_append]; simpa using hown
  · intro k hk
    rcases hfr with e | ⟨m, e, hm⟩
    · exact h.low k (e ▸ hk)
    · rw [e] at hk; cases hk; omega

/-- A list that was read. -/
structure Lst (E : Elem α) (w : World) (lo : Nat) (ad : Option Addr) (cp : Nat) (l : List α) : Prop where
  seg : SegA E.vs E.k w ad l
  len : l.length ≤ cp ∧ cp ≤ maxLen
  low : l ≠ [] → ∀ y, ad = some y → lo ≤ y.block
  ok : ∀ x ∈ l, E.Ok w x
  bl : ∀ x ∈ l, ∀ k ∈ E.bl x, lo ≤ k ∧ k < w.heap.size
theorem Row.lst {w : World} {lo : Nat} {u : Value} {xs : List α} (h : Row E w lo u xs) : ∃ ad cp, u = .slice ad xs.length cp ∧ Lst E w lo ad cp xs := by
  have hb := fun x hx k hk => (⟨(h.bl x hx k hk).1, (h.bl x hx k hk).2.1⟩ : lo ≤ k ∧ k < w.heap.size)
  rcases h.own.2 with ⟨rfl, h0⟩ | ⟨g, cap, cur, rfl, _, hg, h1, h2, h3, h4⟩
  · have : xs = [] := List.length_eq_zero_iff.1 h0
    subst this
    exact ⟨none, 0, rfl, .inl rfl, ⟨by simp, by unfold maxLen; omega⟩, fun e => (e rfl).elim, h.ok, hb⟩
  · refine ⟨some ⟨g, 0, none⟩, cap, rfl, .inr ⟨g, 0, rfl, fun j x hj i v hv => ?_⟩, ⟨h1, h2⟩, fun _ y hy => by cases hy; exact h.low g rfl, h.ok, hb⟩
    have hget := flat_get E xs j x i v hj hv
    have : cur.toList[j * E.k + i]? = some v := by
      have h5 : (cur.toList.take (xs.length * E.k))[j * E.k + i]? = some v := by rw [h4]; exact hget
      rw [List.getElem?_take] at h5
      split at h5
      · exact h5
      · cases h5
    rw [Nat.zero_add]
    have hB : Blk w g cur.toList E.ety := by unfold Blk; rw [Array.toArray_toList]; exact hg
    exact hB.cell this
theorem Lst.kept {S : Nat → Prop} {w w' : World} {lo cp : Nat} {ad : Option Addr} {l : List α} (h : Lst E w lo ad cp l) (hK : Keeps S w w') (hS : ∀ k, S k → k < lo) : Lst E w' lo ad cp l :=
  ⟨h.seg.kept hK fun hn y hy hs => by have := h.low hn y hy; have := hS _ hs; omega, h.len, h.low, fun x hx => E.kept (h.ok x hx) hK fun k hk hs => by have := (h.bl x hx k hk).1; have := hS k hs; omega,
    fun x hx k hk => ⟨(h.bl x hx k hk).1, Nat.lt_of_lt_of_le (h.bl x hx k hk).2 hK.size⟩⟩
theorem Lst.mono {w : World} {lo lo' cp : Nat} {ad : Option Addr} {l : List α} (h : Lst E w lo ad cp l) (hl : lo' ≤ lo) : Lst E w lo' ad cp l :=
  ⟨h.seg, h.len, fun hn y hy => Nat.le_trans hl (h.low hn y hy), h.ok, fun x hx k hk => ⟨Nat.le_trans hl (h.bl x hx k hk).1, (h.bl x hx k hk).2⟩⟩
theorem Lst.blk {w : World} {lo cp : Nat} {ad : Option Addr} {l : List α} (h : Lst E w lo ad cp l) (hn : l ≠ []) (y : Addr) (hy : ad = some y) : y.block < w.heap.size := by
  rcases h.seg with h1 | ⟨g, o, h1, h2⟩
  · exact (hn h1).elim
  · rw [h1] at hy
    cases hy
    obtain ⟨x, hx⟩ : ∃ x, l[0]? = some x := by cases l with | nil => exact (hn rfl).elim | cons x l => exact ⟨x, rfl⟩
    obtain ⟨v, hv⟩ : ∃ v, (E.vs x)[0]? = some v := ⟨_, List.getElem?_eq_getElem (by rw [E.len]; exact E.pos)⟩
    exact World.block_lt_of_cell? w ⟨g, o + 0 * E.k + 0, none⟩ (h2 0 x hx 0 v hv)

def eWin : Elem Win := ⟨Win.vs, 3, 94, fun _ => rfl, by decide, fun _ x => x.Fine, fun _ => [], fun h _ _ => h⟩
def eRgn : Elem Rgn := ⟨Rgn.vs, 4, 105, fun _ => rfl, by decide, fun _ x => x.Fine, fun _ => [], fun h _ _ => h⟩
def ePrt : Elem Prt := ⟨Prt.vs, 2, 107, fun _ => rfl, by decide, fun _ x => x.Fine, fun _ => [], fun h _ _ => h⟩
def eChn : Elem Chn := ⟨Chn.vs, 3, 71, fun _ => rfl, by decide, fun _ x => x.Fine, fun _ => [], fun h _ _ => h⟩
/-- The block of a list that has something. -/
def blk1 {β : Type} (a : Option Addr) (l : List β) : List Nat := match a with | some y => if l.isEmpty then [] else [y.block] | none => []
theorem blk1_mem {β : Type} {a : Option Addr} {l : List β} {k : Nat} : k ∈ blk1 a l ↔ l ≠ [] ∧ ∃ y, a = some y ∧ y.block = k := by
  unfold blk1
  cases a with
  | none => simp
  | some y =>
    cases l with
    | nil => simp
    | cons x l => simp; exact eq_comm
structure Core.Ok (w : World) (x : Core) : Prop where
  seg : SegA Win.vs 3 w x.a x.ws
  len : x.ws.length ≤ x.c ∧ x.c ≤ maxLen
  fine : ∀ y ∈ x.ws, y.Fine
structure Par.Ok (w : World) (x : Par) : Prop where
  rseg : SegA Rgn.vs 4 w x.ra x.rs
  rlen : x.rs.length ≤ x.rc ∧ x.rc ≤ maxLen
  rfine : ∀ y ∈ x.rs, y.Fine
  pseg : SegA Prt.vs 2 w x.pa x.ps
  plen : x.ps.length ≤ x.pc ∧ x.pc ≤ maxLen
  pfine : ∀ y ∈ x.ps, y.Fine
  ns : ∀ n ∈ x.ns, I64 n
  name : x.name.size ≤ 9223372036854775807
def Par.bl (x : Par) : List Nat := blk1 x.ra x.rs ++ blk1 x.pa x.ps
def eCore : Elem Core := ⟨Core.vs, 1, 64, fun _ => rfl, by decide, fun w x => x.Ok w, fun x => blk1 x.a x.ws, fun h hK hn => ⟨h.seg.kept hK fun h1 y hy => hn _ (blk1_mem.2 ⟨h1, y, hy, rfl⟩), h.len, h.fine⟩⟩
def ePar : Elem Par := ⟨Par.vs, 8, 69, fun _ => rfl, by decide, fun w x => x.Ok w, fun x => x.bl, fun h hK hn =>
  ⟨h.rseg.kept hK fun h1 y hy => hn _ (List.mem_append_left _ (blk1_mem.2 ⟨h1, y, hy, rfl⟩)), h.rlen, h.rfine, h.pseg.kept hK fun h1 y hy => hn _ (List.mem_append_right _ (blk1_mem.2 ⟨h1, y, hy, rfl⟩)), h.plen, h.pfine, h.ns, h.name⟩⟩
end Go.Proofs.Ytmkeccibminnhaa
