import Derived.Test.YtlddioedednojaaE
namespace Go.Proofs.Ytlddioedednojaa
open Go.RowKit Go.Shelf
set_option linter.unusedVariables false
set_option linter.unusedSimpArgs false
set_option maxRecDepth 6000

theorem neq_vd (s : Bool) (a b c : Int) (w : World) : (binOp .neq 24 (vd s a b c) (vd s a b c)).run Try.prog w = .ok (.bool false) w := by
  rw [run_neq_struct]
  cases s <;> simp [go_sem, Result.andThen]
theorem eql_vd (s : Bool) (a b c : Int) (w : World) : (binOp .eql 24 (vd s a b c) (vd s a b c)).run Try.prog w = .ok (.bool true) w := by
  rw [run_eql_struct]
  cases s <;> simp [go_sem, Result.andThen]
end Go.Proofs.Ytlddioedednojaa
