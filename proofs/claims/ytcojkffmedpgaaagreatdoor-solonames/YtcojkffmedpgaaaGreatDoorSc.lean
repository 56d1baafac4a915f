import Derived.Test.YtcojkffmedpgaaaGreatDoorSb
namespace Go.Proofs.YtcojkffmedpgaaaGreatDoor
open Go.RowKit
set_option linter.unusedVariables false
set_option linter.unusedSimpArgs false
set_option maxRecDepth 6000

theorem in_z (w : World) : Calls Tryz.prog 34 #[.int .i64 0, .int .i64 1, .int .i64 1024] w fun e w' => e = .returned (.bool false) ∧ w' = w := by
  go_enter Tryz.func34, Tryz.ntmps34
  go_wp2
  go_ret
  exact ⟨rfl, rfl⟩

set_option maxHeartbeats 4000000 in
theorem whole_z (w : World) : Calls Tryz.prog 13 #[x0.v] w fun e w' => e = .returned (.int .i64 400) ∧ Keeps (fun _ => False) w w' := by
  have hO1 := one_z w
  obtain ⟨W, hW⟩ : ∃ W, W = x0.laid w := ⟨_, rfl⟩
  obtain ⟨C, hC⟩ : ∃ C, C = w.heap.size := ⟨_, rfl⟩
  have HO : Hid (One w x0 C C W) := by rw [hW, hC]; exact hO1
  have HC := Hid.mkq (in_z W)
  obtain ⟨q0, q1, q2, q3, q4, q5, q6⟩ := HO.out.cells
  have e0 : x0.frames = 0 := rfl
  rw [e0] at q0
  unfold Cfg.laid at hW
  clear hO1 e0
  go_enter Tryz.func13, Tryz.ntmps13
  go_upto_region 1 with fail
  rw [← hW, ← hC]
  clear hW hC
  go_wp2_with fail
  refine HC.out.mono ?_
  rintro e w1 ⟨rfl, hw1⟩
  obtain rfl := hw1.symm
  go_wp2
  go_ret
  exact ⟨rfl, HO.out.keeps⟩

set_option maxHeartbeats 4000000 in
theorem none_z (w : World) : Calls Tryz.prog 14 #[] w fun e w' => e = .returned (.agg #[.int .i64 (-1), .int .i64 (-1)]) ∧ Keeps (fun _ => False) w w' := by
  obtain ⟨W, hW⟩ : ∃ W, W = w.alloc (.cells #[.int .i64 0, .int .i64 0] 37) := ⟨_, rfl⟩
  obtain ⟨R, hR⟩ : ∃ R, R = w.heap.size := ⟨_, rfl⟩
  have HO : Hid (Blk W R [.int .i64 0, .int .i64 0] 37 ∧ Keeps (fun _ => False) w W ∧ R = w.heap.size) := by rw [hW, hR]; exact ⟨Blk.new _ _ _, (Keeps.refl _ _).alloc _, rfl⟩
  go_enter Tryz.func14, Tryz.ntmps14
  go_upto_region 1 with fail
  rw [← hW, ← hR]
  clear hW hR
  have c0 := HO.out.1.cell (i := 0) rfl
  have c1 := HO.out.1.cell (i := 1) rfl
  have f0 := HO.out.1.frozen 0
  have f1 := HO.out.1.frozen 1
  go_wp2
  refine bodyPost_ret (results_cell_row rfl _ _ R 37 _ (0, 0) _ rfl (set2 HO.out.1 _ _).1 Tryz.underlying37 rfl (by kernel_rfl)) rfl ?_
  exact ⟨rfl, by
    have := HO.out.2.2
    exact HO.out.2.1.trans (set2 HO.out.1 _ _).2 fun k hk e => by omega⟩

set_option maxHeartbeats 4000000 in
theorem rCheck_z (w : World) : Calls Tryz.prog 6 #[x0.v] w fun e w' => e = .returned (.tuple #[.int .i64 400, .agg #[.int .i64 (-1), .int .i64 (-1)]]) ∧ Keeps (fun _ => False) w w' := by
  obtain ⟨W, hW⟩ : ∃ W, W = (x0.laid w).alloc (.cells #[.int .i64 0, .int .i64 0] 37) := ⟨_, rfl⟩
  obtain ⟨C, hC⟩ : ∃ C, C = w.heap.size := ⟨_, rfl⟩
  obtain ⟨R, hR⟩ : ∃ R, R = w.heap.size + 1 := ⟨_, rfl⟩
  have hR0 : R = (x0.laid w).heap.size := by rw [hR]; simp [Cfg.laid]
  have HO : Hid (One w x0 C C W ∧ Blk W R [.int .i64 0, .int .i64 0] 37 ∧ w.heap.size ≤ R) := by
    rw [hW, hC]; exact ⟨(one_z w).kept ((Keeps.refl _ _).alloc _), by rw [hR0]; exact Blk.new _ _ _, by omega⟩
  have HC := Hid.mkq (whole_z W)
  obtain ⟨q0, q1, q2, q3, q4, q5, q6⟩ := HO.out.1.cells
  unfold Cfg.laid at hW
  clear hR0
  go_enter Tryz.func6, Tryz.ntmps6
  go_upto_region 1 with fail
  rw [← hW, ← hR, ← hC]
  clear hW hC hR
  go_wp2_with fail
  refine HC.out.mono ?_
  rintro e w1 ⟨rfl, hK1⟩
  have HO1 : Hid (Keeps (fun _ => False) w w1 ∧ Blk w1 R [.int .i64 0, .int .i64 0] 37 ∧ w.heap.size ≤ R) := ⟨HO.out.1.keeps.trans hK1 fun _ _ h => h, HO.out.2.1.kept hK1 fun h => h, HO.out.2.2⟩
  have HC1 := Hid.mkq (none_z w1)
  clear hK1 HC HO q0 q1 q2 q3 q4 q5 q6
  go_wp2_with fail
  refine HC1.out.mono ?_
  rintro e w2 ⟨rfl, hK2⟩
  have HO2 : Hid (Keeps (fun _ => False) w w2 ∧ Blk w2 R [.int .i64 0, .int .i64 0] 37 ∧ w.heap.size ≤ R) := ⟨HO1.out.1.trans hK2 fun _ _ h => h, HO1.out.2.1.kept hK2 fun h => h, HO1.out.2.2⟩
  clear hK2 HC1 HO1
  have c0 := HO2.out.2.1.cell (i := 0) rfl
  have c1 := HO2.out.2.1.cell (i := 1) rfl
  have f0 := HO2.out.2.1.frozen 0
  have f1 := HO2.out.2.1.frozen 1
  go_wp2
  refine bodyPost_ret (results_two_cell rfl _ _ R 37 _ (0, 0) _ rfl (set2 HO2.out.2.1 _ _).1 Tryz.underlying37 rfl (by kernel_rfl)) rfl ?_
  exact ⟨rfl, HO2.out.1.trans (set2 HO2.out.2.1 _ _).2 fun k hk e => by have := HO2.out.2.2; omega⟩

set_option maxHeartbeats 4000000 in
theorem rBoot_z (w : World) : Calls Tryz.prog 4 #[x0.v, .slice none 0 0] w fun e w' => e = .returned (.tuple #[.slice none 0 0, .int .i64 240, .int .i64 (-1)]) ∧ Keeps (fun _ => False) w w' := by
  have hO1 := one_z w
  obtain ⟨W, hW⟩ : ∃ W, W = x0.laid w := ⟨_, rfl⟩
  obtain ⟨C, hC⟩ : ∃ C, C = w.heap.size := ⟨_, rfl⟩
  have HO : Hid (One w x0 C C W) := by rw [hW, hC]; exact hO1
  have HC := Hid.mkq (rCheck_z W)
  obtain ⟨q0, q1, q2, q3, q4, q5, q6⟩ := HO.out.cells
  unfold Cfg.laid at hW
  clear hO1
  go_enter Tryz.func4, Tryz.ntmps4
  go_upto_region 1 with fail
  rw [← hW, ← hC]
  clear hW hC
  go_wp2_with fail
  refine HC.out.mono ?_
  rintro e w1 ⟨rfl, hK1⟩
  have HK : Hid (Keeps (fun _ => False) w w1) := HO.out.keeps.trans hK1 fun _ _ h => h
  clear hK1 HC HO q0 q1 q2 q3 q4 q5 q6
  go_wp2
  go_ret3
  exact ⟨rfl, by have := HK.out; first | exact (this.alloc _).drew | exact this.alloc _ | exact this⟩

set_option maxHeartbeats 4000000 in
theorem soloNames_any (w : World) : Calls Tryz.prog 3 #[] w fun e w' => e = .returned (.bool true) ∧ Keeps (fun _ => False) w w' := by
  have hO1 := one_z w
  obtain ⟨W, hW⟩ : ∃ W, W = x0.laid w := ⟨_, rfl⟩
  obtain ⟨C, hC⟩ : ∃ C, C = w.heap.size := ⟨_, rfl⟩
  have HO : Hid (One w x0 C C W) := by rw [hW, hC]; exact hO1
  have HC : Hid (Calls Tryz.prog 4 #[.agg #[.int .i64 0, .int .i64 0, .int .i64 0, .int .i64 0, .slice none 0 0, .slice none 0 0, .slice none 0 0], .slice none 0 0] W fun e w' => e = .returned (.tuple #[.slice none 0 0, .int .i64 240, .int .i64 (-1)]) ∧ Keeps (fun _ => False) W w') := rBoot_z W
  have hc : W.cell? ⟨C, 0, none⟩ = some (.int .i64 0) ∧ W.cell? ⟨C, 1, none⟩ = some (.int .i64 0) ∧ W.cell? ⟨C, 2, none⟩ = some (.int .i64 0) ∧ W.cell? ⟨C, 3, none⟩ = some (.int .i64 0) ∧ W.cell? ⟨C, 4, none⟩ = some (.slice none 0 0) ∧ W.cell? ⟨C, 5, none⟩ = some (.slice none 0 0) ∧ W.cell? ⟨C, 6, none⟩ = some (.slice none 0 0) := HO.out.cells
  obtain ⟨q0, q1, q2, q3, q4, q5, q6⟩ := hc
  have hW2 : W = w.alloc (.cells #[.int .i64 0, .int .i64 0, .int .i64 0, .int .i64 0, .slice none 0 0, .slice none 0 0, .slice none 0 0] 26) := hW
  clear hO1 hW
  go_enter Tryz.func3, Tryz.ntmps3
  go_upto_region 2 with fail
  rw [← hW2, ← hC]
  clear hW2 hC
  go_wp2_with fail
  refine HC.out.mono ?_
  rintro e w1 ⟨rfl, hK1⟩
  have HO1 : Hid (One w x0 C C w1) := HO.out.kept hK1
  have HC1 : Hid (Calls Tryz.prog 5 #[.agg #[.int .i64 0, .int .i64 0, .int .i64 0, .int .i64 0, .slice none 0 0, .slice none 0 0, .slice none 0 0], .slice none 0 0, .slice none 0 0, .int .i64 1] w1 fun e w' => e = .returned (.tuple #[.slice none 0 0, .int .i64 270]) ∧ Keeps (fun _ => False) w1 w') := run_zero w1
  clear hK1 HC q0 q1 q2 q3 q4 q5 q6
  have hc : w1.cell? ⟨C, 0, none⟩ = some (.int .i64 0) ∧ w1.cell? ⟨C, 1, none⟩ = some (.int .i64 0) ∧ w1.cell? ⟨C, 2, none⟩ = some (.int .i64 0) ∧ w1.cell? ⟨C, 3, none⟩ = some (.int .i64 0) ∧ w1.cell? ⟨C, 4, none⟩ = some (.slice none 0 0) ∧ w1.cell? ⟨C, 5, none⟩ = some (.slice none 0 0) ∧ w1.cell? ⟨C, 6, none⟩ = some (.slice none 0 0) := HO1.out.cells
  obtain ⟨q0, q1, q2, q3, q4, q5, q6⟩ := hc
  go_wp2_with fail
  refine HC1.out.mono ?_
  rintro e w2 ⟨rfl, hK2⟩
  have HK : Hid (Keeps (fun _ => False) w w2) := HO1.out.keeps.trans hK2 fun _ _ h => h
  clear hK2 HC1 HO HO1 q0 q1 q2 q3 q4 q5 q6
  go_wp2
  go_ret
  exact ⟨rfl, HK.out⟩
end Go.Proofs.YtcojkffmedpgaaaGreatDoor
