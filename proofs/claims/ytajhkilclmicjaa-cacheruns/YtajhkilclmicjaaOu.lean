import Derived.Test.YtajhkilclmicjaaTr
import Derived.Test.YtajhkilclmicjaaHo
namespace Go.Proofs.Ytajhkilclmicjaa
open Go.RowKit Go.Shelf
set_option linter.unusedVariables false

theorem Try.info3 : (Try.prog.info? 3).map (fun i => (i.zero, i.size, i.bytes)) = some (some (.int .i64 0), 1, 8) := by kernel_rfl
theorem append_int {w : World} (x : Int) (v : Value) (n : Nat) (vs : List Value) (hown : w.ownsRow 0 3 1 v n vs) (hn : n ≤ 4294967296) :
    ∃ v' W', (∀ ty, (Builtin.append_ #[59, 59] ty #[v, .slice (some ⟨w.heap.size, 0, none⟩) 1 1]).run Try.prog (w.alloc (.cells #[.int .i64 x] 3)) = .ok v' W') ∧ W'.ownsRow 0 3 1 v' (n + 1) (vs ++ [.int .i64 x]) ∧ Grew w v W' v' := by
  obtain ⟨i0, hi, hz0, hz1, hz2⟩ := info_parts Try.info3
  obtain ⟨v', W', h1, h2, h3, h4⟩ := append_new 59 3 i0 (.int .i64 0) 1 8 Try.underlying59 hi hz0 hz1 hz2 rfl (by omega) v n vs hown #[.int .i64 x] rfl (by
    intro y hy
    simp at hy
    rw [hy]; rfl) (by unfold maxLen; omega) (by omega)
  exact ⟨v', W', h1, h2, h3, h4⟩

def four (vs : Nat → Value) : List Value := [vs 0, vs 1, vs 2, vs 3]
theorem four_get (vs : Nat → Value) {i : Nat} (h : i < 4) : (four vs)[i]? = some (vs i) := by
  have : i = 0 ∨ i = 1 ∨ i = 2 ∨ i = 3 := by omega
  rcases this with rfl | rfl | rfl | rfl <;> rfl
theorem four_set (vs : Nat → Value) {k : Nat} (h : k < 4) (v : Value) : (four vs).set k v = four (fun i => if i = k then v else vs i) := by
  have : k = 0 ∨ k = 1 ∨ k = 2 ∨ k = 3 := by omega
  rcases this with rfl | rfl | rfl | rfl <;> rfl

/-- Four lists of numbers in rows of their own; G holds the rows; all the rows' blocks are among D. -/
structure Four (W : World) (G : Nat) (vs : Nat → Value) (cur : Nat → List Int) (D : Nat → Prop) : Prop where
  blk : Blk W G (four vs) 59
  row : ∀ i, i < 4 → W.ownsRow 0 3 1 (vs i) (cur i).length (flat (cur i))
  own : ∀ i, i < 4 → ∀ g, (vs i).ownBlock = some g → g ≠ G ∧ D g ∧ g < W.heap.size
  apart : ∀ i, i < 4 → ∀ j, j < 4 → i ≠ j → ∀ g, (vs i).ownBlock = some g → (vs j).ownBlock ≠ some g

theorem owns_lt {w : World} {e : TypeId} {size n g : Nat} {v : Value} {vs : List Value} (h : w.ownsRow 0 e size v n vs) (hg : v.ownBlock = some g) : g < w.heap.size := by
  rcases h.2 with ⟨rfl, _⟩ | ⟨g', cap, cur, rfl, _, hgg, _⟩
  · simp [Value.ownBlock] at hg
  · simp [Value.ownBlock] at hg
    subst hg
    exact (Array.getElem?_eq_some_iff.1 hgg).1

section
variable {W W' : World} {G : Nat} {vs : Nat → Value} {cur : Nat → List Int} {D D' : Nat → Prop}
theorem Four.kept {S : Nat → Prop} (h : Four W G vs cur D) (hK : Keeps S W W') (hG : ¬ S G) (hD : ∀ b, D b → ¬ S b) : Four W' G vs cur D :=
  ⟨h.blk.kept hK hG, fun i hi => owns_kept (h.row i hi) hK fun g hg => hD g (h.own i hi g hg).2.1, fun i hi g hg => ⟨(h.own i hi g hg).1, (h.own i hi g hg).2.1, Nat.lt_of_lt_of_le (h.own i hi g hg).2.2 hK.size⟩, h.apart⟩
theorem Four.same {cur' : Nat → List Int} (h : Four W G vs cur D) (e : ∀ i, i < 4 → cur' i = cur i) : Four W G vs cur' D :=
  ⟨h.blk, fun i hi => by rw [e i hi]; exact h.row i hi, h.own, h.apart⟩
theorem Four.mono (h : Four W G vs cur D) (hD : ∀ b, D b → b < W.heap.size → D' b) : Four W G vs cur D' :=
  ⟨h.blk, h.row, fun i hi g hg => ⟨(h.own i hi g hg).1, hD g (h.own i hi g hg).2.1 (h.own i hi g hg).2.2, (h.own i hi g hg).2.2⟩, h.apart⟩
/-- One list is longer by one. -/
theorem Four.more (h : Four W G vs cur D) {k : Nat} (hk : k < 4) {x : Int} {v' : Value} (ho : W'.ownsRow 0 3 1 v' ((cur k).length + 1) (flat (cur k) ++ [.int .i64 x])) (hG : Grew W (vs k) W' v') (hD : ∀ b, D b → D' b) (hnew : ∀ b, W.heap.size ≤ b → D' b) :
    Four (W'.setCell ⟨G, k, none⟩ v') G (fun i => if i = k then v' else vs i) (fun i => if i = k then cur i ++ [x] else cur i) D' := by
  have hlt := h.blk.lt
  have hGk : ∀ b, some b = (vs k).ownBlock → b ≠ G := fun b hb => (h.own k hk b hb.symm).1
  have hbW : Blk W' G (four vs) 59 := h.blk.kept hG.keeps fun he => hGk G he rfl
  have hKs : Keeps (· = G) W' (W'.setCell ⟨G, k, none⟩ v') := (Keeps.refl _ W').setCell _ _ fun _ => rfl
  have hv'G : ∀ g, v'.ownBlock = some g → g ≠ G ∧ D' g ∧ g < W'.heap.size ∧ ((vs k).ownBlock = some g ∨ W.heap.size ≤ g) := by
    intro g hg
    have h2 := owns_lt ho hg
    rcases hG.fresh with e | ⟨b, e, hb⟩
    · rw [e] at hg
      exact ⟨(h.own k hk g hg).1, hD _ (h.own k hk g hg).2.1, h2, .inl hg⟩
    · rw [e] at hg
      cases hg
      exact ⟨by omega, hnew _ hb, h2, .inr hb⟩
  have hsz : (W'.setCell ⟨G, k, none⟩ v').heap.size = W'.heap.size := by simp
  refine ⟨?_, ?_, ?_, ?_⟩
  · have := hbW.setCell k v'
    rw [four_set vs hk v'] at this
    exact this
  · intro i hi
    by_cases e : i = k
    · subst e
      simp only [if_pos]
      rw [List.length_append, flat_append]
      exact owns_kept ho hKs fun g hg he => (hv'G g hg).1 he
    · simp only [if_neg e]
      refine owns_kept (owns_kept (h.row i hi) hG.keeps fun g hg he => ?_) hKs fun g hg he => (h.own i hi g hg).1 he
      exact h.apart i hi k hk e g hg he.symm
  · intro i hi g hg
    by_cases e : i = k
    · simp only [if_pos e] at hg
      obtain ⟨a1, a2, a3, _⟩ := hv'G g hg
      exact ⟨a1, a2, by rw [hsz]; exact a3⟩
    · simp only [if_neg e] at hg
      obtain ⟨a1, a2, a3⟩ := h.own i hi g hg
      exact ⟨a1, hD _ a2, by rw [hsz]; exact Nat.lt_of_lt_of_le a3 hG.keeps.size⟩
  · intro i hi j hj hij g hg hg2
    by_cases e : i = k
    · have e2 : j ≠ k := fun e2 => hij (e.trans e2.symm)
      simp only [if_pos e] at hg
      simp only [if_neg e2] at hg2
      rcases (hv'G g hg).2.2.2 with h' | h'
      · exact h.apart k hk j hj (fun e3 => e2 e3.symm) g h' hg2
      · have := (h.own j hj g hg2).2.2; omega
    · simp only [if_neg e] at hg
      by_cases e2 : j = k
      · simp only [if_pos e2] at hg2
        rcases (hv'G g hg2).2.2.2 with h' | h'
        · exact h.apart i hi k hk e g hg h'
        · have := (h.own i hi g hg).2.2; omega
      · simp only [if_neg e2] at hg2
        exact h.apart i hi j hj hij g hg hg2
end

end Go.Proofs.Ytajhkilclmicjaa
