import Derived.Test.YthaoopaafdgioabApp
import Derived.Test.YthaoopaafdgioabCf
namespace Go.Proofs.Ythaoopaafdgioab
open Go.RowKit
set_option linter.unusedVariables false
set_option maxRecDepth 6000
variable {α : Type} {E : Elem α}

/-- A row under way: it is one's own, from lo on. -/
structure Row (E : Elem α) (w : World) (lo : Nat) (u : Value) (xs : List α) : Prop where
  own : w.ownsRow 0 E.ety E.k u xs.length (xs.flatMap E.vs)
  low : ∀ k, u.ownBlock = some k → lo ≤ k
  ok : ∀ x ∈ xs, E.Ok w x
  bl : ∀ x ∈ xs, ∀ k ∈ E.bl x, lo ≤ k ∧ k < w.heap.size ∧ u.ownBlock ≠ some k

theorem Row.nil (w : World) (lo : Nat) : Row E w lo (.slice none 0 0) [] := ⟨⟨by simp, .inl ⟨rfl, rfl⟩⟩, fun k h => (by cases h), fun x h => (by simp at h), fun x h => (by simp at h)⟩
theorem Row.kept {S : Nat → Prop} {w w' : World} {lo : Nat} {u : Value} {xs : List α} (h : Row E w lo u xs) (hK : Keeps S w w') (hS : ∀ k, S k → k < lo) : Row E w' lo u xs :=
  ⟨owns_kept h.own hK fun k hk hs => by have := h.low k hk; have := hS k hs; omega, h.low, fun x hx => E.kept (h.ok x hx) hK fun k hk hs => by have := (h.bl x hx k hk).1; have := hS k hs; omega,
    fun x hx k hk => ⟨(h.bl x hx k hk).1, Nat.lt_of_lt_of_le (h.bl x hx k hk).2.1 hK.size, (h.bl x hx k hk).2.2⟩⟩
/-- One more: it was read, then laid into a block, then appended. -/
theorem Row.push {w W : World} {lo : Nat} {u v' : Value} {xs : List α} {x : α} (h : Row E w lo u xs) (hx : E.Ok w x) (hb : ∀ k ∈ E.bl x, lo ≤ k ∧ k < w.heap.size ∧ u.ownBlock ≠ some k) (hlo : lo ≤ w.heap.size)
    (hown : W.ownsRow 0 E.ety E.k v' (xs.length + 1) (xs.flatMap E.vs ++ E.vs x)) (hfr : v'.ownBlock = u.ownBlock ∨ ∃ k, v'.ownBlock = some k ∧ w.heap.size ≤ k) (hK : Keeps (fun k => some k = u.ownBlock) w W) : Row E W lo v' (xs ++ [x]) := by
  have hne : ∀ k, lo ≤ k ∧ k < w.heap.size ∧ u.ownBlock ≠ some k → lo ≤ k ∧ k < W.heap.size ∧ v'.ownBlock ≠ some k := by
    rintro k ⟨h1, h2, h3⟩
    refine ⟨h1, Nat.lt_of_lt_of_le h2 hK.size, ?_⟩
    rcases hfr with e | ⟨m, e, hm⟩
    · rw [e]; exact h3
    · rw [e]; intro e'; cases e'; omega
  have hall : ∀ y ∈ xs ++ [x], E.Ok w y ∧ ∀ k ∈ E.bl y, lo ≤ k ∧ k < w.heap.size ∧ u.ownBlock ≠ some k := by
    intro y hy
    rcases List.mem_append.1 hy with hy | hy
    · exact ⟨h.ok y hy, h.bl y hy⟩
    · have : y = x := by simpa using hy
      rw [this]; exact ⟨hx, hb⟩
  refine ⟨?_, ?_, fun y hy => E.kept (hall y hy).1 hK fun k hk e => ((hall y hy).2 k hk).2.2 e.symm, fun y hy k hk => hne k ((hall y hy).2 k hk)⟩
  · rw [List.length_append, List.flatMap_append]; simpa using hown
  · intro k hk
    rcases hfr with e | ⟨m, e, hm⟩
    · exact h.low k (e ▸ hk)
    · rw [e] at hk; cases hk; omega

/-- A list that was read. -/
structure Lst (E : Elem α) (w : World) (lo : Nat) (ad : Option Addr) (cp : Nat) (l : List α) : Prop where
  seg : SegA E.vs E.k w ad l
  len : l.length ≤ cp ∧ cp ≤ maxLen
  low : l ≠ [] → ∀ y, ad = some y → lo ≤ y.block
  ok : ∀ x ∈ l, E.Ok w x
  bl : ∀ x ∈ l, ∀ k ∈ E.bl x, lo ≤ k ∧ k < w.heap.size
theorem Row.lst {w : World} {lo : Nat} {u : Value} {xs : List α} (h : Row E w lo u xs) : ∃ ad cp, u = .slice ad xs.length cp ∧ Lst E w lo ad cp xs := by
  have hb := fun x hx k hk => (⟨(h.bl x hx k hk).1, (h.bl x hx k hk).2.1⟩ : lo ≤ k ∧ k < w.heap.size)
  rcases h.own.2 with ⟨rfl, h0⟩ | ⟨g, cap, cur, rfl, _, hg, h1, h2, h3, h4⟩
  · have : xs = [] := List.length_eq_zero_iff.1 h0
    subst this
    exact ⟨none, 0, rfl, .inl rfl, ⟨by simp, by unfold maxLen; omega⟩, fun e => (e rfl).elim, h.ok, hb⟩
  · refine ⟨some ⟨g, 0, none⟩, cap, rfl, .inr ⟨g, 0, rfl, fun j x hj i v hv => ?_⟩, ⟨h1, h2⟩, fun _ y hy => by cases hy; exact h.low g rfl, h.ok, hb⟩
    have hget := flat_get E xs j x i v hj hv
    have : cur.toList[j * E.k + i]? = some v := by
      have h5 : (cur.toList.take (xs.length * E.k))[j * E.k + i]? = some v := by rw [h4]; exact hget
      rw [List.getElem?_take] at h5
      split at h5
      · exact h5
      · cases h5
    rw [Nat.zero_add]
    have hB : Blk w g cur.toList E.ety := by unfold Blk; rw [Array.toArray_toList]; exact hg
    exact hB.cell this
theorem Lst.kept {S : Nat → Prop} {w w' : World} {lo cp : Nat} {ad : Option Addr} {l : List α} (h : Lst E w lo ad cp l) (hK : Keeps S w w') (hS : ∀ k, S k → k < lo) : Lst E w' lo ad cp l :=
  ⟨h.seg.kept hK fun hn y hy hs => by have := h.low hn y hy; have := hS _ hs; omega, h.len, h.low, fun x hx => E.kept (h.ok x hx) hK fun k hk hs => by have := (h.bl x hx k hk).1; have := hS k hs; omega,
    fun x hx k hk => ⟨(h.bl x hx k hk).1, Nat.lt_of_lt_of_le (h.bl x hx k hk).2 hK.size⟩⟩
theorem Lst.mono {w : World} {lo lo' cp : Nat} {ad : Option Addr} {l : List α} (h : Lst E w lo ad cp l) (hl : lo' ≤ lo) : Lst E w lo' ad cp l :=
  ⟨h.seg, h.len, fun hn y hy => Nat.le_trans hl (h.low hn y hy), h.ok, fun x hx k hk => ⟨Nat.le_trans hl (h.bl x hx k hk).1, (h.bl x hx k hk).2⟩⟩
theorem Lst.blk {w : World} {lo cp : Nat} {ad : Option Addr} {l : List α} (h : Lst E w lo ad cp l) (hn : l ≠ []) (y : Addr) (hy : ad = some y) : y.block < w.heap.size := by
  rcases h.seg with h1 | ⟨g, o, h1, h2⟩
  · exact (hn h1).elim
  · rw [h1] at hy
    cases hy
    obtain ⟨x, hx⟩ : ∃ x, l[0]? = some x := by cases l with | nil => exact (hn rfl).elim | cons x l => exact ⟨x, rfl⟩
    obtain ⟨v, hv⟩ : ∃ v, (E.vs x)[0]? = some v := ⟨_, List.getElem?_eq_getElem (by rw [E.len]; exact E.pos)⟩
    exact World.block_lt_of_cell? w ⟨g, o + 0 * E.k + 0, none⟩ (h2 0 x hx 0 v hv)

end Go.Proofs.Ythaoopaafdgioab
