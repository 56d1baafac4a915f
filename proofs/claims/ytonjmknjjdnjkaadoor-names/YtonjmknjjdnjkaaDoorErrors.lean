import Derived.Test.YtonjmknjjdnjkaaDoorWalk
namespace Go.Proofs.YtonjmknjjdnjkaaDoor
open Go.RowKit
set_option linter.unusedVariables false

theorem seq_at (d : Int) (n j : Nat) (h : j < n) : ((List.range n).map fun i : Nat => Value.int .i64 (d + (i : Int)))[j]? = some (.int .i64 (d + (j : Int))) := by simp [h]

set_option maxRecDepth 100000 in
set_option maxHeartbeats 1000000 in
theorem error17 (w : World) : Calls Tryd.prog 6 #[.int .i64 17] w fun e w' => e = .returned (.string ⟨#[101, 114, 114, 111, 114, 32, 49, 55]⟩) ∧ w' = w := by
  go_enter Tryd.func6, Tryd.ntmps6
  go_wp2
  go_ret
  refine ⟨?_, rfl⟩
  kernel_rfl

set_option maxRecDepth 100000 in
set_option maxHeartbeats 2000000 in
theorem errors_any (w : World) : Calls Tryd.prog 5 #[] w fun e w' => e = .returned (.bool true) ∧ Below w.heap.size w w' := by
  have hS := Below.refl w.heap.size w
  go_enter Tryd.func5, Tryd.ntmps5
  go_wp2_with (first
    | (refine wpList_alloc_row rfl 28 rfl 26 (by kernel_rfl) ?_; intro W zs hz hB hK; have hg := hS.size; replace hS := below_all hS hK; clear hK)
    | (refine wpList_store_row rfl rfl 28 (.tmp 1) (.tmp 6) rfl _ rfl _ rfl zs 28 hB (by kernel_rfl) hz (by kernel_rfl) w.heap.size hg ?_; intro W2 hB2 hK2 hs2; replace hS := hS.trans hK2; clear hB hz hK2 hs2 hg)
    | (refine wpList_load_row rfl 28 (.tmp 1) rfl _ rfl 28 _ (0, 0) _ hB2 Tryd.underlying28 rfl (by kernel_rfl) ?_; clear hB2)
    | (refine wpList_neq_row rfl .neq 28 28 (.tmp 7) (.tmp 8) rfl _ _ rfl rfl false (fun w => by kernel_rfl) ?_)
    | (refine wpList_alloc_row rfl 29 rfl 21 (by kernel_rfl) ?_; intro W zs hz hB hK; have hg := hS.size; replace hS := below_all hS hK; clear hK)
    | (refine wpList_store_row rfl rfl 29 (.tmp 2) (.tmp 10) rfl _ rfl _ rfl zs 29 hB (by kernel_rfl) hz (by kernel_rfl) w.heap.size hg ?_; intro W2 hB2 hK2 hs2; replace hS := hS.trans hK2; clear hB hz hK2 hs2 hg)
    | (refine wpList_load_row rfl 29 (.tmp 2) rfl _ rfl 29 _ (0, 0) _ hB2 Tryd.underlying29 rfl (by kernel_rfl) ?_; clear hB2)
    | (refine wpList_neq_row rfl .neq 29 29 (.tmp 11) (.tmp 12) rfl _ _ rfl rfl false (fun w => by kernel_rfl) ?_)
    | (refine wpList_alloc_row rfl 30 rfl 31 (by kernel_rfl) ?_; intro W zs hz hB hK; have hg := hS.size; replace hS := below_all hS hK; clear hK)
    | (refine wpList_store_row rfl rfl 30 (.tmp 3) (.tmp 14) rfl _ rfl _ rfl zs 30 hB (by kernel_rfl) hz (by kernel_rfl) w.heap.size hg ?_; intro W2c hB2 hK2 hs2; replace hS := hS.trans hK2; clear hB hz hK2 hs2 hg)
    | (refine wpList_load_row rfl 30 (.tmp 3) rfl _ rfl 30 _ (0, 0) _ hB2 Tryd.underlying30 rfl (by kernel_rfl) ?_; clear hB2)
    | (refine wpList_neq_row rfl .neq 30 30 (.tmp 15) (.tmp 16) rfl _ _ rfl rfl false (fun w => by kernel_rfl) ?_)
    | (refine wpList_alloc_row rfl 31 rfl 25 (by kernel_rfl) ?_; intro W zs hz hB hK; have hg := hS.size; replace hS := below_all hS hK; clear hK)
    | (refine wpList_store_row rfl rfl 31 (.tmp 4) (.tmp 18) rfl _ rfl _ rfl zs 31 hB (by kernel_rfl) hz (by kernel_rfl) w.heap.size hg ?_; intro W2 hB2 hK2 hs2; replace hS := hS.trans hK2; clear hB hz hK2 hs2 hg; refine Hid.out ?_))
  unfold Hid
  obtain ⟨b, hb⟩ : ∃ b, b = W2c.heap.size := ⟨_, rfl⟩
  rw [← hb] at hB2 ⊢
  have hq : Blk W2 b ((List.range 25).map fun i : Nat => Value.int .i64 (400 + (i : Int))) 31 := hB2
  have HQ : Hid (Blk _ _ _ _) := hq
  have HS : Hid (Below w.heap.size w W2) := hS
  clear hq hB2 hS hb
  go_wp2
  go_loop [5] (fun i => ∃ j : Nat, j ≤ 25 ∧ i = .int .i64 j) (fun i => 25 - (intOf i).toNat)
  case atStart => exact ⟨0, by omega, rfl⟩
  case round =>
    obtain ⟨j, hj, rfl⟩ := hrel
    by_cases hlt : (j : Int) < 25
    · have hc := HQ.out.cell (seq_at 400 25 j (by omega))
      go_wp2
      go_round
      case rel => exact ⟨j + 1, by omega, by go_num⟩
      case measure => simp [intOf]; omega
    · go_wp2_with (go_at_call 6; refine (error17 _).mono ?_; rintro e w' ⟨rfl, hw'⟩; obtain rfl := hw'.symm)
      go_ret
      exact ⟨rfl, HS.out⟩
end Go.Proofs.YtonjmknjjdnjkaaDoor
