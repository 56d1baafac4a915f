import Derived.Test.YtonjmknjjdnjkaaDoorErrors
namespace Go.Proofs.YtonjmknjjdnjkaaDoor
open Go.RowKit
set_option linter.unusedVariables false

theorem Blk.below_at {w w' : World} {B g : Nat} {l : List Value} {t : TypeId} (h : Blk w g l t) (hb : Below B w w') (hg : g < B) : Blk w' g l t := by
  unfold Blk at *
  rw [hb.block g hg]; exact h

set_option maxRecDepth 100000 in
set_option maxHeartbeats 4000000 in
theorem names_any (w : World) : Calls Tryd.prog 3 #[] w fun e w' => e = .returned (.bool true) ∧ Below w.heap.size w w' := by
  have tok1 : True := trivial
  have hS := Below.refl w.heap.size w
  go_enter Tryd.func3, Tryd.ntmps3
  go_wp2_with (refine wpList_alloc_row rfl 22 rfl 31 (by kernel_rfl) ?_; intro W1 zs hz hB hK; refine Hid.out ?_)
  unfold Hid
  obtain ⟨b1, hb1⟩ : ∃ b, b = w.heap.size := ⟨_, rfl⟩
  rw [← hb1] at hB ⊢
  refine wpList_store_row rfl rfl 22 (.tmp 1) (.tmp 8) rfl b1 rfl _ rfl zs 22 hB (by kernel_rfl) hz (by kernel_rfl) w.heap.size (by omega) ?_
  intro W2 hB1 hK2 hs2
  have hS2 := hK.trans hK2
  clear hK hK2 hs2 hB hz hS hb1
  go_wp2_with (refine wpList_alloc_row rfl 22 rfl 31 (by kernel_rfl) ?_; intro W3 zs2 hz hB hK; refine Hid.out ?_)
  unfold Hid
  obtain ⟨b2, hb2⟩ : ∃ b, b = W2.heap.size := ⟨_, rfl⟩
  have hlt1 : b1 < b2 := by rw [hb2]; exact hB1.lt
  rw [← hb2] at hB ⊢
  refine wpList_store_row rfl rfl 22 (.tmp 2) (.tmp 9) rfl b2 rfl _ rfl zs2 22 hB (by kernel_rfl) hz (by kernel_rfl) b2 (Nat.le_refl _) ?_
  intro W4 hB2 hK4 hs4
  have hB1' := (hB1.below hK).below_at hK4 hlt1
  have hS4 := (below_all hS2 hK).trans (hK4.mono (by have := hS2.size; omega))
  clear hK hK4 hs4 hB hz hS2 hB1 hlt1 hb2
  go_wp2_with (first
    | (refine wpList_load_row rfl 22 (.tmp 1) rfl b1 rfl 22 _ (0, 0) _ hB1' Tryd.underlying22 rfl (by kernel_rfl) ?_; clear hB1')
    | (refine wpList_load_row rfl 22 (.tmp 2) rfl b2 rfl 22 _ (0, 0) _ hB2 Tryd.underlying22 rfl (by kernel_rfl) ?_; clear hB2)
    | (refine wpList_neq_row rfl .neq 22 22 (.tmp 10) (.tmp 11) rfl _ _ rfl rfl false (fun w => by kernel_rfl) ?_)
    | (refine wpList_alloc_row rfl 23 rfl 8 (by kernel_rfl) ?_; intro W5 zs hz hB hK; refine Hid.out ?_))
  unfold Hid
  obtain ⟨b3, hb3⟩ : ∃ b, b = W4.heap.size := ⟨_, rfl⟩
  rw [← hb3] at hB ⊢
  refine wpList_store_row rfl rfl 23 (.tmp 3) (.tmp 13) rfl b3 rfl _ rfl zs 23 hB (by kernel_rfl) hz (by kernel_rfl) w.heap.size (by have := hS4.size; omega) ?_
  intro W6 hB6 hK6 hs6
  have hS6 := (below_all hS4 hK).trans hK6
  clear hK hK6 hs6 hB hz hS4 hb3
  go_wp2_with (first
    | (refine wpList_load_row rfl 23 (.tmp 3) rfl b3 rfl 23 _ (0, 0) _ hB6 Tryd.underlying23 rfl (by kernel_rfl) ?_; clear hB6)
    | (refine wpList_neq_row rfl .neq 23 23 (.tmp 14) (.tmp 15) rfl _ _ rfl rfl false (fun w => by kernel_rfl) ?_)
    | (refine wpList_alloc_row rfl 22 rfl 31 (by kernel_rfl) ?_; intro W7 zs hz hB hK; refine Hid.out ?_))
  unfold Hid
  obtain ⟨b4, hb4⟩ : ∃ b, b = W6.heap.size := ⟨_, rfl⟩
  rw [← hb4] at hB ⊢
  refine wpList_store_row rfl rfl 22 (.tmp 4) (.tmp 17) rfl b4 rfl _ rfl zs 22 hB (by kernel_rfl) hz (by kernel_rfl) w.heap.size (by have := hS6.size; omega) ?_
  intro W8 hB8 hK8 hs8
  have hS8 := (below_all hS6 hK).trans hK8
  have hq : Blk W8 b4 ((List.range 31).map fun i : Nat => Value.int .i64 (1 + (i : Int))) 22 := hB8
  have HQ : Hid (Blk _ _ _ _) := hq
  have HS : Hid (Below w.heap.size w W8) := hS8
  clear hK hK8 hs8 hB hz hS6 hb4 hq hB8 hS8
  go_wp2
  go_loop [5] (fun i => ∃ j : Nat, j ≤ 31 ∧ i = .int .i64 j) (fun i => 31 - (intOf i).toNat)
  case atStart => exact ⟨0, by omega, rfl⟩
  case round =>
    obtain ⟨j, hj, rfl⟩ := hrel
    by_cases hlt : (j : Int) < 31
    · have hc := HQ.out.cell (seq_at 1 31 j (by omega))
      have e1 : (1 : Int) + (j : Int) = (j : Int) + 1 := by omega
      rw [e1] at hc
      clear e1
      go_wp2
      go_round
      case rel => exact ⟨j + 1, by omega, by go_num⟩
      case measure => simp [intOf]; omega
    · go_wp2_with (refine wpList_alloc_row rfl 24 rfl 9 (by kernel_rfl) ?_; intro W9 zs hz hB hK; refine Hid.out ?_)
      unfold Hid
      obtain ⟨b5, hb5⟩ : ∃ b, b = W8.heap.size := ⟨_, rfl⟩
      rw [← hb5] at hB ⊢
      refine wpList_store_row rfl rfl 24 (.tmp 6) (.tmp 28) rfl b5 rfl _ rfl zs 24 hB (by kernel_rfl) hz (by kernel_rfl) w.heap.size (by have := HS.out.size; omega) ?_
      intro W10 hB10 hK10 hs10
      have hS10 := (below_all HS.out hK).trans hK10
      have hq : Blk W10 b5 ((List.range 9).map fun i : Nat => Value.int .i64 (0 + (i : Int))) 24 := hB10
      have HQ2 : Hid (Blk _ _ _ _) := hq
      have HS2 : Hid (Below w.heap.size w W10) := hS10
      clear hK hK10 hs10 hB hz hb5 hq hB10 hS10
      go_wp2
      go_loop [7] (fun i => ∃ m : Nat, m ≤ 9 ∧ i = .int .i64 m) (fun i => 9 - (intOf i).toNat)
      case atStart => exact ⟨0, by omega, rfl⟩
      case round =>
        obtain ⟨m, hm, rfl⟩ := hrel
        by_cases hlt2 : (m : Int) < 9
        · have hc := HQ2.out.cell (seq_at 0 9 m (by omega))
          have e1 : (0 : Int) + (m : Int) = (m : Int) := by omega
          rw [e1] at hc
          clear e1
          go_wp2
          go_round
          case rel => exact ⟨m + 1, by omega, by go_num⟩
          case measure => simp [intOf]; omega
        · go_wp2_with fail
          refine (kinds_any _).mono ?_
          rintro e w11 ⟨rfl, hk⟩
          go_wp2_with fail
          refine (errors_any _).mono ?_
          rintro e w12 ⟨rfl, he⟩
          have hfin := below_all (below_all HS2.out hk) he
          clear hk he
          go_wp2
          go_ret
          exact ⟨rfl, hfin⟩
end Go.Proofs.YtonjmknjjdnjkaaDoor
