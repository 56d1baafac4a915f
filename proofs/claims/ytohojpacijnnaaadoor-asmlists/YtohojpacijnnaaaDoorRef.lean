import Derived.Test.YtohojpacijnnaaaDoorDec
namespace Go.Proofs.YtohojpacijnnaaaDoor.Is
open Go.RowKit
set_option linter.unusedVariables false

set_option maxHeartbeats 400000 in
theorem name_any (n : Int) (w : World) (h : Tabs w) : Calls Tryd.prog 22 #[.int .i64 n] w fun e w' => e = .returned (.string (nameOf n)) ∧ w' = w := by
  have hc := h.name (rowOf n) (rowOf_lt n)
  have hlt := rowOf_lt n
  unfold nameOf
  revert hc hlt
  have hr := row_any n w
  revert hr
  generalize rowOf n = r
  intro hr hc hlt
  have HR : Hid (Calls _ _ _ _ _) := hr
  clear hr h
  go_enter Tryd.func22, Tryd.ntmps22
  go_wp2_with (go_at_call 36; refine HR.out.mono ?_; rintro e w' ⟨rfl, rfl⟩)
  go_ret
  exact ⟨rfl, rfl⟩

/-- The document's table, as a list of cells. -/
def tabL : List Value := (List.range 30).flatMap fun i => rowAt (i + 1)

set_option maxRecDepth 100000 in
set_option maxHeartbeats 1000000 in
theorem table_any (w : World) : Calls Tryd.prog 42 #[] w fun e w' => e = .returned (.slice (some ⟨w.heap.size, 0, none⟩) 30 30) ∧ Blk w' w.heap.size tabL 63 ∧ Below w.heap.size w w' := by
  go_enter Tryd.func42, Tryd.ntmps42
  go_wp2
  go_ret
  exact ⟨rfl, Blk.new w tabL 63, below_new w _⟩
end Go.Proofs.YtohojpacijnnaaaDoor.Is
