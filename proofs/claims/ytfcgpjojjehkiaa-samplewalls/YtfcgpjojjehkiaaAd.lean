import Derived.Test.YtfcgpjojjehkiaaAc
namespace Go.Proofs.Ytfcgpjojjehkiaa
open Go.RowKit
set_option linter.unusedVariables false

def ivs (ks : List Int) : List Value := ks.map fun k => .int .i64 k
theorem append_int {w : World} (x : Int) (v : Value) (n : Nat) (vs : List Value) (hown : w.ownsRow 0 3 1 v n vs) (hn : n ≤ 1000) :
    ∃ v' W', (∀ ty, (Builtin.append_ #[33, 33] ty #[v, .slice (some ⟨w.heap.size, 0, none⟩) 1 1]).run Try.prog (w.alloc (.cells #[.int .i64 x] 3)) = .ok v' W') ∧ W'.ownsRow 0 3 1 v' (n + 1) (vs ++ [.int .i64 x]) ∧
      (v'.ownBlock = v.ownBlock ∨ ∃ k, v'.ownBlock = some k ∧ w.heap.size ≤ k) ∧ Keeps (fun k => some k = v.ownBlock) w W' := by
  obtain ⟨i0, hi, hz0, hz1, hz2⟩ := info_parts Try.info3
  exact append_new 33 3 i0 _ 1 8 Try.underlying33 hi hz0 hz1 hz2 rfl (by omega) v n vs hown #[.int .i64 x] rfl (by intro u hu; simp at hu; rw [hu]; rfl) (by unfold maxLen; omega) (by omega)

/-- A row of numbers of one's own. -/
structure Own (w wr : World) (v : Value) (ks : List Int) : Prop where
  own : wr.ownsRow 0 3 1 v ks.length (ivs ks)
  new : ∀ k, v.ownBlock = some k → w.heap.size ≤ k
  k : Keeps (fun _ => False) w wr

theorem Own.step {w wr : World} {v : Value} {ks : List Int} (h : Own w wr v ks) (hl : ks.length ≤ 1000) (x : Int) :
    ∃ v' W', (∀ ty, (Builtin.append_ #[33, 33] ty #[v, .slice (some ⟨wr.heap.size, 0, none⟩) 1 1]).run Try.prog (wr.alloc (.cells #[.int .i64 x] 3)) = .ok v' W') ∧ Own w W' v' (ks ++ [x]) := by
  obtain ⟨v', W', hr, hown, hf, hK⟩ := append_int x v ks.length _ h.own hl
  refine ⟨v', W', hr, ?_, ?_, ?_⟩
  · rw [List.length_append]; show W'.ownsRow 0 3 1 v' (ks.length + 1) (ivs (ks ++ [x])); unfold ivs at *; rw [List.map_append]; exact hown
  · intro k hk
    rcases hf with e | ⟨q, e, hq⟩
    · exact h.new k (by rw [← e]; exact hk)
    · rw [e] at hk; cases hk; have := h.k.size; omega
  · exact h.k.trans hK fun b hb e => by have := h.new b e.symm; omega
theorem Own.form {w wr : World} {v : Value} {ks : List Int} (h : Own w wr v ks) : ∃ a c, v = .slice a ks.length c ∧ SegI wr a ks ∧ ∀ x, a = some x → w.heap.size ≤ x.block := by
  have hcl := fun g hg => h.own.cells (g := g) hg
  have hn := h.new
  rcases h.own.2 with ⟨rfl, h0⟩ | ⟨g, cap, cur, rfl, _⟩
  · exact ⟨none, 0, by rw [h0], .inl (List.eq_nil_of_length_eq_zero h0), fun x e => by cases e⟩
  · refine ⟨_, cap, rfl, .inr ⟨g, 0, rfl, fun j hj => ?_⟩, fun x e => by cases e; exact hn g rfl⟩
    have := hcl g rfl j (.int .i64 ks[j]) (by unfold ivs; rw [List.getElem?_map, List.getElem?_eq_getElem hj]; rfl)
    rw [addr_add] at this
    exact this

theorem ptL_snoc (n j : Nat) : ptL n (j + 1) = ptL n j ++ [(ptAt n j : Int)] := by unfold ptL; rw [List.range_succ, List.map_append]; rfl

end Go.Proofs.Ytfcgpjojjehkiaa
