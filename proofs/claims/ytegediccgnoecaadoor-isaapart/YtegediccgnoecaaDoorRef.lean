import Derived.Test.YtegediccgnoecaaDoorAwake
namespace Go.Proofs.YtegediccgnoecaaDoor
open Go.RowKit
set_option linter.unusedVariables false

set_option maxHeartbeats 400000 in
theorem name_any (n : Int) (w : World) (h : Tabs w) : Calls Tryd.prog 9 #[.int .i64 n] w fun e w' => e = .returned (.string (nameOf n)) ∧ w' = w := by
  have hc := h.name (rowOf n) (rowOf_lt n)
  have hlt := rowOf_lt n
  unfold nameOf
  revert hc hlt
  have hr := row_any n w
  revert hr
  generalize rowOf n = r
  intro hr hc hlt
  have HR : Hid (Calls _ _ _ _ _) := hr
  clear hr h
  go_enter Tryd.func9, Tryd.ntmps9
  go_wp2_with (go_at_call 22; refine HR.out.mono ?_; rintro e w' ⟨rfl, rfl⟩)
  go_ret
  exact ⟨rfl, rfl⟩

set_option maxHeartbeats 400000 in
theorem cost_any (n : Int) (w : World) (h : Tabs w) : Calls Tryd.prog 13 #[.int .i64 n] w fun e w' => e = .returned (.int .i64 (costOf n)) ∧ w' = w := by
  have hc := h.cost (rowOf n) (rowOf_lt n)
  have hlt := rowOf_lt n
  unfold costOf
  revert hc hlt
  have hr := row_any n w
  revert hr
  generalize rowOf n = r
  intro hr hc hlt
  have HR : Hid (Calls _ _ _ _ _) := hr
  clear hr h
  go_enter Tryd.func13, Tryd.ntmps13
  go_wp2_with (go_at_call 22; refine HR.out.mono ?_; rintro e w' ⟨rfl, rfl⟩)
  go_ret
  exact ⟨rfl, rfl⟩

/-- The document's table, as a list of cells. -/
def tabL : List Value := (List.range 30).flatMap fun i => rowAt (i + 1)

set_option maxRecDepth 100000 in
set_option maxHeartbeats 1000000 in
theorem table_any (w : World) : Calls Tryd.prog 24 #[] w fun e w' => e = .returned (.slice (some ⟨w.heap.size, 0, none⟩) 30 30) ∧ Blk w' w.heap.size tabL 45 ∧ Below w.heap.size w w' := by
  go_enter Tryd.func24, Tryd.ntmps24
  go_wp2
  go_ret
  exact ⟨rfl, Blk.new w tabL 45, below_new w _⟩
end Go.Proofs.YtegediccgnoecaaDoor
