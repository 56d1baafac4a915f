import Derived.Test.YtnkohgciecmecaaGreatDoorNc
namespace Go.Proofs.YtnkohgciecmecaaGreatDoor
open Go.RowKit
set_option linter.unusedVariables false
set_option linter.unusedSimpArgs false
set_option maxRecDepth 6000

set_option maxHeartbeats 4000000 in
theorem alike_zero (w : World) : Calls Tryz.prog 4 #[x0.v, .int .i64 0, pl0, pl0] w fun e w' => e = .returned (.tuple #[.bool false, .int .i64 310]) ∧ Keeps (fun _ => False) w w' := by
  have hO1 := one_z w
  obtain ⟨C, hC⟩ : ∃ C, C = w.heap.size := ⟨_, rfl⟩
  obtain ⟨W0, hW0⟩ : ∃ W, W = x0.laid w := ⟨_, rfl⟩
  obtain ⟨W1, hW1⟩ : ∃ W, W = W0.alloc (.cells #[.slice none 0 0, .slice none 0 0, .slice none 0 0] 34) := ⟨_, rfl⟩
  obtain ⟨W, hW⟩ : ∃ W, W = W1.alloc (.cells #[.slice none 0 0, .slice none 0 0, .slice none 0 0] 34) := ⟨_, rfl⟩
  have hz0 : W0.heap.size = C + 1 := by rw [hW0, hC]; simp [Cfg.laid]
  have hz1 : W1.heap.size = C + 1 + 1 := by rw [hW1]; simp [hz0]
  have k1 : Keeps (fun _ => False) W0 W1 := by rw [hW1]; exact (Keeps.refl _ _).alloc _
  have k2 : Keeps (fun _ => False) W1 W := by rw [hW]; exact (Keeps.refl _ _).alloc _
  have HO : Hid (One w x0 C C W ∧ Blk W (C + 1) [.slice none 0 0, .slice none 0 0, .slice none 0 0] 34 ∧ Blk W (C + 1 + 1) [.slice none 0 0, .slice none 0 0, .slice none 0 0] 34) := by
    refine ⟨?_, ?_, ?_⟩
    · have : One w x0 C C W0 := by rw [hW0, hC]; exact hO1
      exact (this.kept k1).kept k2
    · have : Blk W1 (C + 1) [.slice none 0 0, .slice none 0 0, .slice none 0 0] 34 := by rw [hW1, ← hz0]; exact Blk.new _ _ _
      exact this.kept k2 fun h => h
    · rw [hW, ← hz1]; exact Blk.new _ _ _
  have HC := Hid.mkq (duelOf_zero W)
  obtain ⟨q0, q1, q2, q3, q4, q5, q6⟩ := HO.out.1.cells
  have p0 := HO.out.2.1.cell (i := 0) rfl
  have p1 := HO.out.2.1.cell (i := 1) rfl
  have p2 := HO.out.2.1.cell (i := 2) rfl
  have r0 := HO.out.2.2.cell (i := 0) rfl
  have r1 := HO.out.2.2.cell (i := 1) rfl
  have r2 := HO.out.2.2.cell (i := 2) rfl
  unfold Cfg.laid at hW0
  have HW : Hid (W = W1.alloc (.cells #[.slice none 0 0, .slice none 0 0, .slice none 0 0] 34) ∧ W1 = W0.alloc (.cells #[.slice none 0 0, .slice none 0 0, .slice none 0 0] 34) ∧ W0 = w.alloc (.cells #[.int .i64 x0.frames, .int .i64 x0.major, .int .i64 x0.kernel, .int .i64 x0.room, .slice x0.ca x0.cs.length x0.cc, .slice x0.pa x0.ps.length x0.pc, .slice x0.ha x0.hs.length x0.hc] 29) ∧ C = w.heap.size) := ⟨hW, hW1, hW0, hC⟩
  clear hO1 hW hW1 hW0 hz0 hz1 k1 k2 hC
  go_enter Tryz.func4, Tryz.ntmps4
  go_upto_region 1 with fail
  rw [← HW.out.2.2.1, ← HW.out.2.1, ← HW.out.1, ← HW.out.2.2.2]
  clear HW
  go_wp2_with fail
  refine HC.out.mono ?_
  rintro e w1 ⟨rfl, hK1⟩
  have HK : Hid (Keeps (fun _ => False) w w1) := HO.out.1.keeps.trans hK1 fun _ _ h => h
  clear hK1 HC HO q0 q1 q2 q3 q4 q5 q6 p0 p1 p2 r0 r1 r2
  go_wp2
  go_ret2
  exact ⟨rfl, HK.out⟩

abbrev vd0 : Value := .agg #[.bool false, .int .i64 0, .int .i64 0, .int .i64 0]

set_option maxHeartbeats 4000000 in
theorem try_long (w : World) (a : Option Addr) : Calls Tryz.prog 5 #[x0.v, .int .i64 0, .agg #[.slice none 0 0, .slice none 0 0, .slice a 65537 65537], pl0] w fun e w' => e = .returned (.tuple #[vd0, .int .i64 2]) ∧ Keeps (fun _ => False) w w' := by
  have hO1 := one_z w
  obtain ⟨C, hC⟩ : ∃ C, C = w.heap.size := ⟨_, rfl⟩
  obtain ⟨W0, hW0⟩ : ∃ W, W = x0.laid w := ⟨_, rfl⟩
  obtain ⟨W1, hW1⟩ : ∃ W, W = W0.alloc (.cells #[.slice none 0 0, .slice none 0 0, .slice a 65537 65537] 34) := ⟨_, rfl⟩
  obtain ⟨W2, hW2⟩ : ∃ W, W = W1.alloc (.cells #[.slice none 0 0, .slice none 0 0, .slice none 0 0] 34) := ⟨_, rfl⟩
  obtain ⟨W, hW⟩ : ∃ W, W = W2.alloc (.cells #[.bool false, .int .i64 0, .int .i64 0, .int .i64 0] 36) := ⟨_, rfl⟩
  have hz0 : W0.heap.size = C + 1 := by rw [hW0, hC]; simp [Cfg.laid]
  have hz1 : W1.heap.size = C + 1 + 1 := by rw [hW1]; simp [hz0]
  have hz2 : W2.heap.size = C + 1 + 1 + 1 := by rw [hW2]; simp [hz1]
  have k1 : Keeps (fun _ => False) W0 W1 := by rw [hW1]; exact (Keeps.refl _ _).alloc _
  have k2 : Keeps (fun _ => False) W1 W2 := by rw [hW2]; exact (Keeps.refl _ _).alloc _
  have k3 : Keeps (fun _ => False) W2 W := by rw [hW]; exact (Keeps.refl _ _).alloc _
  have HO : Hid (One w x0 C C W ∧ Blk W (C + 1) [.slice none 0 0, .slice none 0 0, .slice a 65537 65537] 34 ∧ Blk W (C + 1 + 1) [.slice none 0 0, .slice none 0 0, .slice none 0 0] 34 ∧ Blk W (C + 1 + 1 + 1) [.bool false, .int .i64 0, .int .i64 0, .int .i64 0] 36 ∧ C = w.heap.size) := by
    refine ⟨?_, ?_, ?_, ?_, hC⟩
    · have : One w x0 C C W0 := by rw [hW0, hC]; exact hO1
      exact ((this.kept k1).kept k2).kept k3
    · have : Blk W1 (C + 1) [.slice none 0 0, .slice none 0 0, .slice a 65537 65537] 34 := by rw [hW1, ← hz0]; exact Blk.new _ _ _
      exact (this.kept k2 fun h => h).kept k3 fun h => h
    · have : Blk W2 (C + 1 + 1) [.slice none 0 0, .slice none 0 0, .slice none 0 0] 34 := by rw [hW2, ← hz1]; exact Blk.new _ _ _
      exact this.kept k3 fun h => h
    · rw [hW, ← hz2]; exact Blk.new _ _ _
  have HC := Hid.mkq (duelOf_long W a)
  obtain ⟨q0, q1, q2, q3, q4, q5, q6⟩ := HO.out.1.cells
  have p0 := HO.out.2.1.cell (i := 0) rfl
  have p1 := HO.out.2.1.cell (i := 1) rfl
  have p2 := HO.out.2.1.cell (i := 2) rfl
  have r0 := HO.out.2.2.1.cell (i := 0) rfl
  have r1 := HO.out.2.2.1.cell (i := 1) rfl
  have r2 := HO.out.2.2.1.cell (i := 2) rfl
  unfold Cfg.laid at hW0
  have HW : Hid (W = W2.alloc (.cells #[.bool false, .int .i64 0, .int .i64 0, .int .i64 0] 36) ∧ W2 = W1.alloc (.cells #[.slice none 0 0, .slice none 0 0, .slice none 0 0] 34) ∧ W1 = W0.alloc (.cells #[.slice none 0 0, .slice none 0 0, .slice a 65537 65537] 34) ∧ W0 = w.alloc (.cells #[.int .i64 x0.frames, .int .i64 x0.major, .int .i64 x0.kernel, .int .i64 x0.room, .slice x0.ca x0.cs.length x0.cc, .slice x0.pa x0.ps.length x0.pc, .slice x0.ha x0.hs.length x0.hc] 29) ∧ C = w.heap.size) := ⟨hW, hW2, hW1, hW0, hC⟩
  clear hO1 hW hW1 hW2 hW0 hz0 hz1 hz2 k1 k2 k3 hC
  go_enter Tryz.func5, Tryz.ntmps5
  go_upto_region 1 with fail
  rw [← HW.out.2.2.2.1, ← HW.out.2.2.1, ← HW.out.2.1, ← HW.out.1, ← HW.out.2.2.2.2]
  clear HW
  go_wp2_with fail
  refine HC.out.mono ?_
  rintro e w1 ⟨rfl, hK1⟩
  have hB1 := HO.out.2.2.2.1.kept hK1 fun h => h
  have c0 := hB1.cell (i := 0) rfl
  have c1 := hB1.cell (i := 1) rfl
  have c2 := hB1.cell (i := 2) rfl
  have c3 := hB1.cell (i := 3) rfl
  have f0 := hB1.frozen 0
  have f1 := hB1.frozen 1
  have f2 := hB1.frozen 2
  have f3 := hB1.frozen 3
  have HK : Hid (Keeps (fun _ => False) w w1 ∧ Blk w1 (C + 1 + 1 + 1) [.bool false, .int .i64 0, .int .i64 0, .int .i64 0] 36 ∧ C = w.heap.size) := ⟨HO.out.1.keeps.trans hK1 fun _ _ h => h, hB1, HO.out.2.2.2.2⟩
  clear hK1 HC HO q0 q1 q2 q3 q4 q5 q6 p0 p1 p2 r0 r1 r2 hB1
  go_wp2
  have hB := (((HK.out.2.1.setCell 0 (.bool false)).setCell 1 (.int .i64 0)).setCell 2 (.int .i64 0)).setCell 3 (.int .i64 0)
  refine bodyPost_ret (results_cell_one rfl _ _ (C + 1 + 1 + 1) 36 _ (0, 0) _ rfl hB Tryz.underlying36 rfl (by kernel_rfl)) rfl ?_
  have hg : C + 1 + 1 + 1 < w.heap.size → False := fun h => by have := HK.out.2.2; omega
  exact ⟨rfl, (((HK.out.1.setCell ⟨C + 1 + 1 + 1, 0, none⟩ _ hg).setCell ⟨C + 1 + 1 + 1, 1, none⟩ _ hg).setCell ⟨C + 1 + 1 + 1, 2, none⟩ _ hg).setCell ⟨C + 1 + 1 + 1, 3, none⟩ _ hg⟩
end Go.Proofs.YtnkohgciecmecaaGreatDoor
