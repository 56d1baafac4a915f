import Derived.Test.YtffhkapegmnklabGL
namespace Go.Proofs.Ytffhkapegmnklab.L
open Go.RowKit Go.Shelf
set_option linter.unusedVariables false

theorem Now.keeps {w w' : World} {s room : Nat} {kvs : List (Int × Value)} {F : Nat → Prop} (h : Now w w' s room kvs F) : Keeps F w w' := h.2

/-- A step on a shelf whose blocks are all new since w. -/
theorem Now.step {w0 w w' : World} {s room : Nat} {kvs : List (Int × Value)} {F : Nat → Prop} (h : Now w w' s room kvs F) (hK : Keeps (fun _ => False) w0 w) (hF : ∀ b, F b → w0.heap.size ≤ b) :
    ∃ F', Sf w' s room kvs F' ∧ (∀ b, F' b → w0.heap.size ≤ b) ∧ Keeps (fun _ => False) w0 w' := by
  obtain ⟨⟨F', hS, hF'⟩, hK2⟩ := h
  refine ⟨F', hS, fun b hb => ?_, hK.trans hK2 fun b hb hf => by have := hF b hf; omega⟩
  rcases hF' b hb with h | h
  · exact hF b h
  · have := hK.size; omega

end Go.Proofs.Ytffhkapegmnklab.L
