import Derived.Test.YtonjmknjjdnjkaaDoorLaws
namespace Go.Proofs.YtonjmknjjdnjkaaDoor
open Go.RowKit
set_option linter.unusedVariables false

theorem below_all {w w1 w2 : World} (h1 : Below w.heap.size w w1) (h2 : Below w1.heap.size w1 w2) : Below w.heap.size w w2 := h1.trans (h2.mono h1.size)

set_option maxRecDepth 100000 in
set_option maxHeartbeats 1000000 in
theorem kinds_any (w : World) : Calls Tryd.prog 4 #[] w fun e w' => e = .returned (.bool true) ∧ Below w.heap.size w w' := by
  have hS := Below.refl w.heap.size w
  go_enter Tryd.func4, Tryd.ntmps4
  go_wp2_with (first
    | (refine wpList_alloc_row rfl 26 rfl 17 (by kernel_rfl) ?_; intro W zs hz hB hK; have hg := hS.size; replace hS := below_all hS hK; clear hK)
    | (refine wpList_store_row rfl rfl 26 (.tmp 1) (.tmp 5) rfl _ rfl _ rfl zs 26 hB (by kernel_rfl) hz (by kernel_rfl) w.heap.size hg ?_; intro W2 hB2 hK2 hs2; replace hS := hS.trans hK2; clear hB hz hK2 hs2 hg)
    | (refine wpList_store_row rfl rfl 26 (.tmp 2) (.tmp 9) rfl _ rfl _ rfl zs 26 hB (by kernel_rfl) hz (by kernel_rfl) w.heap.size hg ?_; intro W2 hB2 hK2 hs2; replace hS := hS.trans hK2; clear hB hz hK2 hs2 hg)
    | (refine wpList_store_row rfl rfl 26 (.tmp 3) (.tmp 13) rfl _ rfl _ rfl zs 26 hB (by kernel_rfl) hz (by kernel_rfl) w.heap.size hg ?_; intro W2 hB2 hK2 hs2; replace hS := hS.trans hK2; clear hB hz hK2 hs2 hg)
    | (refine wpList_store_row rfl rfl 26 (.tmp 4) (.tmp 17) rfl _ rfl _ rfl zs 26 hB (by kernel_rfl) hz (by kernel_rfl) w.heap.size hg ?_; intro W2 hB2 hK2 hs2; replace hS := hS.trans hK2; clear hB hz hK2 hs2 hg)
    | (refine wpList_load_row rfl 26 (.tmp 1) rfl _ rfl 26 _ (0, 0) _ hB2 Tryd.underlying26 rfl (by kernel_rfl) ?_; clear hB2)
    | (refine wpList_load_row rfl 26 (.tmp 2) rfl _ rfl 26 _ (0, 0) _ hB2 Tryd.underlying26 rfl (by kernel_rfl) ?_; clear hB2)
    | (refine wpList_load_row rfl 26 (.tmp 3) rfl _ rfl 26 _ (0, 0) _ hB2 Tryd.underlying26 rfl (by kernel_rfl) ?_; clear hB2)
    | (refine wpList_load_row rfl 26 (.tmp 4) rfl _ rfl 26 _ (0, 0) _ hB2 Tryd.underlying26 rfl (by kernel_rfl) ?_; clear hB2)
    | (refine wpList_neq_row rfl .neq 26 26 (.tmp 6) (.tmp 7) rfl _ _ rfl rfl false (fun w => by kernel_rfl) ?_)
    | (refine wpList_neq_row rfl .neq 26 26 (.tmp 10) (.tmp 11) rfl _ _ rfl rfl false (fun w => by kernel_rfl) ?_)
    | (refine wpList_neq_row rfl .neq 26 26 (.tmp 14) (.tmp 15) rfl _ _ rfl rfl false (fun w => by kernel_rfl) ?_)
    | (refine wpList_neq_row rfl .eql 26 26 (.tmp 18) (.tmp 19) rfl _ _ rfl rfl true (fun w => by kernel_rfl) ?_))
  go_ret
  exact ⟨rfl, hS⟩
end Go.Proofs.YtonjmknjjdnjkaaDoor
