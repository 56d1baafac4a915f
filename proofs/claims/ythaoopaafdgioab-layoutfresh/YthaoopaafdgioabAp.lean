import Derived.Test.YthaoopaafdgioabRo
namespace Go.Proofs.Ythaoopaafdgioab
open Go.RowKit
set_option linter.unusedVariables false
set_option maxRecDepth 6000
theorem Row.lt {α : Type} {E : Elem α} {w : World} {lo : Nat} {u : Value} {xs : List α} (h : Row E w lo u xs) (k : Nat) (e : u.ownBlock = some k) : k < w.heap.size := by
  rcases h.own.2 with ⟨h2, _⟩ | ⟨gg, cap, cur, h2, _, h3, _⟩
  · rw [h2] at e; cases e
  · rw [h2] at e; cases e; exact (Array.getElem?_eq_some_iff.1 h3).1

theorem row_app {α : Type} {E : Elem α} {w : World} {lo : Nat} {u : Value} {l : List α} {x : α} (t : TypeId) (i : TypeInfo) (z : Value) (bytes : Nat) (ht : Try.prog.underlying t = some (.slice E.ety)) (hi : Try.prog.info? E.ety = some i) (hz : i.zero = some z)
    (hs : i.size = E.k) (hb : i.bytes = bytes) (hzs : z.cells.size = E.k) (hby : bytes ≤ 1000) (hRow : Row E w lo u l) (hok : E.Ok w x) (hbl : ∀ k ∈ E.bl x, lo ≤ k ∧ k < w.heap.size ∧ u.ownBlock ≠ some k) (hlo : lo ≤ w.heap.size) (h1 : ∀ v ∈ E.vs x, v.oneCell' = true) (hl : l.length < 256) :
    ∃ v' W', (∀ ty, (Builtin.append_ #[t, t] ty #[u, .slice (some ⟨w.heap.size, 0, none⟩) 1 1]).run Try.prog (w.alloc (.cells (E.vs x).toArray E.ety)) = .ok v' W') ∧ Row E W' lo v' (l ++ [x]) ∧ Keeps (fun k => some k = u.ownBlock) w W' ∧ (v'.ownBlock = u.ownBlock ∨ ∃ k, v'.ownBlock = some k ∧ w.heap.size ≤ k) := by
  have hmul : (l.length + 1) * bytes ≤ 256 * 1000 := Nat.mul_le_mul (by omega) hby
  obtain ⟨v', W', happ, hown', hfr', hKa⟩ := append_new t E.ety i z E.k bytes ht hi hz hs hb hzs E.pos u l.length (l.flatMap E.vs) hRow.own (E.vs x).toArray (by simp [E.len]) (by simpa using h1) (by unfold maxLen; omega) (by omega)
  exact ⟨v', W', happ, hRow.push hok hbl hlo hown' hfr' hKa, hKa, hfr'⟩

theorem info_parts {t : TypeId} {z : Value} {n b : Nat} (h : (Try.prog.info? t).map (fun i => (i.zero, i.size, i.bytes)) = some (some z, n, b)) : ∃ i, Try.prog.info? t = some i ∧ i.zero = some z ∧ i.size = n ∧ i.bytes = b := by
  obtain ⟨i, hi, he⟩ := Option.map_eq_some_iff.1 h
  simp only [Prod.mk.injEq] at he
  exact ⟨i, hi, he.1, he.2.1, he.2.2⟩
theorem Try.info3 : (Try.prog.info? 3).map (fun i => (i.zero, i.size, i.bytes)) = some (some (.int .i64 0), 1, 8) := by kernel_rfl
theorem Try.info72 : (Try.prog.info? 72).map (fun i => (i.zero, i.size, i.bytes)) = some (some (.agg #[.int .i64 0, .int .i64 0, .int .i64 0]), 3, 24) := by kernel_rfl
theorem Try.info70 : (Try.prog.info? 70).map (fun i => (i.zero, i.size, i.bytes)) = some (some (.agg #[.int .i64 0, .int .i64 0, .int .i64 0, .int .i64 0, .slice none 0 0]), 5, 56) := by kernel_rfl
theorem Try.info63 : (Try.prog.info? 63).map (fun i => (i.zero, i.size, i.bytes)) = some (some (.agg #[.int .i64 0, .int .i64 0, .int .i64 0, .int .i64 0, .slice none 0 0]), 5, 56) := by kernel_rfl

def eInt : Elem Int := ⟨fun n => [.int .i64 n], 1, 3, fun _ => rfl, by decide, fun _ _ => True, fun _ => [], fun h _ _ => h⟩
theorem int_app {w : World} {lo : Nat} {u : Value} {l : List Int} (n : Int) (hRow : Row eInt w lo u l) (hlo : lo ≤ w.heap.size) (hl : l.length < 256) :
    ∃ v' W', (∀ ty, (Builtin.append_ #[68, 68] ty #[u, .slice (some ⟨w.heap.size, 0, none⟩) 1 1]).run Try.prog (w.alloc (.cells #[.int .i64 n] 3)) = .ok v' W') ∧ Row eInt W' lo v' (l ++ [n]) ∧ Keeps (fun k => some k = u.ownBlock) w W' ∧ (v'.ownBlock = u.ownBlock ∨ ∃ k, v'.ownBlock = some k ∧ w.heap.size ≤ k) := by
  obtain ⟨i0, hi, hz0, hz1, hz2⟩ := info_parts Try.info3
  exact row_app (E := eInt) (x := n) 68 i0 _ 8 Try.underlying68 hi hz0 hz1 hz2 rfl (by omega) hRow trivial (fun k hk => by cases hk) hlo (fun v hv => by simp only [eInt, List.mem_cons, List.not_mem_nil, or_false] at hv; subst hv; rfl) hl

/-- A destination: whose, which port, where. -/
structure Dst where
  p : Int
  q : Int
  pos : Int
deriving DecidableEq
abbrev Dst.vs (x : Dst) : List Value := [.int .i64 x.p, .int .i64 x.q, .int .i64 x.pos]
abbrev Dst.v (x : Dst) : Value := .agg #[.int .i64 x.p, .int .i64 x.q, .int .i64 x.pos]
def eDst : Elem Dst := ⟨Dst.vs, 3, 72, fun _ => rfl, by decide, fun _ _ => True, fun _ => [], fun h _ _ => h⟩
theorem dst_app {w : World} {lo : Nat} {u : Value} {l : List Dst} (n : Dst) (hRow : Row eDst w lo u l) (hlo : lo ≤ w.heap.size) (hl : l.length < 256) :
    ∃ v' W', (∀ ty, (Builtin.append_ #[61, 61] ty #[u, .slice (some ⟨w.heap.size, 0, none⟩) 1 1]).run Try.prog (w.alloc (.cells n.vs.toArray 72)) = .ok v' W') ∧ Row eDst W' lo v' (l ++ [n]) ∧ Keeps (fun k => some k = u.ownBlock) w W' ∧ (v'.ownBlock = u.ownBlock ∨ ∃ k, v'.ownBlock = some k ∧ w.heap.size ≤ k) := by
  obtain ⟨i0, hi, hz0, hz1, hz2⟩ := info_parts Try.info72
  exact row_app (E := eDst) (x := n) 61 i0 _ 24 Try.underlying61 hi hz0 hz1 hz2 rfl (by omega) hRow trivial (fun k hk => by cases hk) hlo (fun v hv => by simp only [eDst, List.mem_cons, List.not_mem_nil, or_false] at hv; rcases hv with rfl | rfl | rfl <;> rfl) hl
/-- A row of plain things is kept where its own block is. -/
theorem Row.own_kept {α : Type} {E : Elem α} {S : Nat → Prop} {w w' : World} {lo : Nat} {u : Value} {xs : List α} (h : Row E w lo u xs) (hb : ∀ x, E.bl x = []) (hK : Keeps S w w') (hS : ∀ k, u.ownBlock = some k → ¬ S k) : Row E w' lo u xs :=
  ⟨owns_kept h.own hK hS, h.low, fun x hx => E.kept (h.ok x hx) hK fun k hk => (by rw [hb] at hk; cases hk), fun x hx k hk => (by rw [hb] at hk; cases hk)⟩
theorem Row.lower' {α : Type} {E : Elem α} {w : World} {lo lo' : Nat} {u : Value} {xs : List α} (h : Row E w lo u xs) (hl : lo' ≤ lo) : Row E w lo' u xs :=
  ⟨h.own, fun k hk => Nat.le_trans hl (h.low k hk), h.ok, fun x hx k hk => ⟨Nat.le_trans hl (h.bl x hx k hk).1, (h.bl x hx k hk).2⟩⟩
theorem eInt_bl (x : Int) : eInt.bl x = [] := rfl
theorem eDst_bl (x : Dst) : eDst.bl x = [] := rfl

/-- Two rows that grow side by side. -/
structure Two (w : World) (lo : Nat) (u v : Value) (a b : List Dst) : Prop where
  ra : Row eDst w lo u a
  rb : Row eDst w lo v b
  dif : ∀ k, u.ownBlock = some k → v.ownBlock ≠ some k
theorem Two.nil (w : World) (lo : Nat) : Two w lo (.slice none 0 0) (.slice none 0 0) [] [] := ⟨Row.nil _ _, Row.nil _ _, fun k h => by cases h⟩
theorem Two.kept {S : Nat → Prop} {w w' : World} {lo : Nat} {u v : Value} {a b : List Dst} (h : Two w lo u v a b) (hK : Keeps S w w') (hS : ∀ k, S k → k < lo) : Two w' lo u v a b := ⟨h.ra.kept hK hS, h.rb.kept hK hS, h.dif⟩
theorem Two.grow {w w' : World} {lo : Nat} {u v : Value} {a b : List Dst} (h : Two w lo u v a b) (hK : Keeps (fun _ => False) w w') : Two w' lo u v a b := h.kept hK fun _ h => h.elim
theorem Two.swap {w : World} {lo : Nat} {u v : Value} {a b : List Dst} (h : Two w lo u v a b) : Two w lo v u b a := ⟨h.rb, h.ra, fun k h1 h2 => h.dif k h2 h1⟩
theorem Two.push {w : World} {lo : Nat} {u v : Value} {a b : List Dst} (n : Dst) (h : Two w lo u v a b) (hlo : lo ≤ w.heap.size) (hl : a.length < 256) :
    ∃ v' W', (∀ ty, (Builtin.append_ #[61, 61] ty #[u, .slice (some ⟨w.heap.size, 0, none⟩) 1 1]).run Try.prog (w.alloc (.cells n.vs.toArray 72)) = .ok v' W') ∧ Two W' lo v' v (a ++ [n]) b ∧ Keeps (fun k => lo ≤ k) w W' := by
  obtain ⟨v', W', h1, h2, h3, h4⟩ := dst_app n h.ra hlo hl
  refine ⟨v', W', h1, ⟨h2, h.rb.own_kept eDst_bl h3 fun k hk e => h.dif k e.symm hk, fun k hk e => ?_⟩, h3.mono fun k _ e => h.ra.low k e.symm⟩
  rcases h4 with h4 | ⟨m, h4, h5⟩
  · exact h.dif k (h4 ▸ hk) e
  · rw [h4] at hk; cases hk; have := h.rb.lt k e; omega
end Go.Proofs.Ythaoopaafdgioab
