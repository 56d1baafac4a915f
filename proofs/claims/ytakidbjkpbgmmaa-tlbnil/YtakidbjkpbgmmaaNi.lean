import Derived.Test.YtakidbjkpbgmmaaLi
namespace Go.Proofs.Ytakidbjkpbgmmaa
open Go.RowKit Go.Shelf
set_option linter.unusedVariables false

theorem find_nilT (p : Int) (w : World) : Calls Try.prog 13 #[.pointer none, .int .i64 p] w fun r w' => r = .returned (.tuple #[Lf.none.v, .bool false]) ∧ Keeps (fun _ => False) w w' := by
  go_enter Try.func13, Try.ntmps13
  go_wp2
  refine bodyPost_ret (results_cell_tmp rfl _ _ _ Lf.none.v rfl (load_leaf (Blk.new w _ 38))) rfl ?_
  exact ⟨rfl, (Keeps.refl _ w).alloc _⟩
theorem put_nilT (l : Lf) (w : World) : Calls Try.prog 12 #[.pointer none, l.v] w fun r w' => r = .returned (.int .i64 3) ∧ Keeps (fun _ => False) w w' := by
  go_enter Try.func12, Try.ntmps12
  go_wp2
  go_ret
  exact ⟨rfl, (Keeps.refl _ w).alloc _⟩
theorem flush_nilT (w : World) : Calls Try.prog 15 #[.pointer none] w fun r w' => r = .returned (.tuple #[]) ∧ w' = w := by
  go_enter Try.func15, Try.ntmps15
  go_wp2
  (try simp only [Exit.inBlock, Exit.then])
  refine bodyPost_ret (results_none rfl _ _ _) rfl ?_
  exact ⟨rfl, rfl⟩
theorem leaves_nilT (w : World) : Calls Try.prog 10 #[.pointer none] w fun r w' => r = .returned (.slice none 0 0) ∧ w' = w := by
  go_enter Try.func10, Try.ntmps10
  go_wp2
  go_ret
  exact ⟨rfl, rfl⟩
theorem restore_nilT (a : Option Addr) (n c : Nat) (w : World) : Calls Try.prog 14 #[.pointer none, .slice a n c] w fun r w' => r = .returned (.int .i64 3) ∧ w' = w := by
  go_enter Try.func14, Try.ntmps14
  go_wp2
  go_ret
  exact ⟨rfl, rfl⟩

end Go.Proofs.Ytakidbjkpbgmmaa
