import Derived.Test.YtfbapgcopidbpaaGreatGd
namespace Go.Proofs.YtfbapgcopidbpaaGreat
open Go.RowKit
set_option linter.unusedVariables false
set_option linter.unusedSimpArgs false
set_option maxRecDepth 8000

theorem seg_blk {α : Type} (E : Elem α) {w : World} {b : Nat} {xs : List α} {t : TypeId} (h : Blk w b (xs.flatMap E.vs) t) : SegA E.vs E.k w (some ⟨b, 0, none⟩) xs :=
  .inr ⟨b, 0, rfl, fun j x hj i v hv => by rw [Nat.zero_add]; exact h.cell (flat_get E xs j x i v hj hv)⟩
end Go.Proofs.YtfbapgcopidbpaaGreat
