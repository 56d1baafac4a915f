import Derived.Test.YtnkohgciecmecaaGreatDoorSb
import Derived.Handy
namespace Go.Proofs.YtnkohgciecmecaaGreatDoor
open Go.RowKit
set_option linter.unusedVariables false
set_option linter.unusedSimpArgs false
set_option maxRecDepth 6000

set_option maxHeartbeats 4000000 in
theorem made_zero (w : World) : Calls Tryz.prog 48 #[x0.v, .slice none 0 0, .slice none 0 0] w fun e w' => e = .returned (.tuple #[.pointer none, .int .i64 261]) ∧ Keeps (fun _ => False) w w' := by
  have hO1 := one_z w
  obtain ⟨W, hW⟩ : ∃ W, W = x0.laid w := ⟨_, rfl⟩
  obtain ⟨C, hC⟩ : ∃ C, C = w.heap.size := ⟨_, rfl⟩
  have HO : Hid (One w x0 C C W) := by rw [hW, hC]; exact hO1
  have HC := Hid.mkq (boot_zero W)
  obtain ⟨q0, q1, q2, q3, q4, q5, q6⟩ := HO.out.cells
  unfold Cfg.laid at hW
  clear hO1
  go_enter Tryz.func48, Tryz.ntmps48
  go_upto_region 1 with fail
  rw [← hW, ← hC]
  clear hW hC
  go_wp2_with fail
  refine HC.out.mono ?_
  rintro e w1 ⟨rfl, hK1⟩
  have HK : Hid (Keeps (fun _ => False) w w1) := HO.out.keeps.trans hK1 fun _ _ h => h
  clear hK1 HC HO q0 q1 q2 q3 q4 q5 q6
  go_wp2
  go_ret2
  exact ⟨rfl, HK.out⟩

set_option maxHeartbeats 4000000 in
theorem new_zero (w : World) : Calls Tryz.prog 19 #[x0.v, .slice none 0 0, .slice none 0 0] w fun e w' => e = .returned (.tuple #[.pointer none, .int .i64 261]) ∧ Keeps (fun _ => False) w w' := by
  have hO1 := one_z w
  obtain ⟨W, hW⟩ : ∃ W, W = x0.laid w := ⟨_, rfl⟩
  obtain ⟨C, hC⟩ : ∃ C, C = w.heap.size := ⟨_, rfl⟩
  have HO : Hid (One w x0 C C W) := by rw [hW, hC]; exact hO1
  have HC := Hid.mkq (made_zero W)
  obtain ⟨q0, q1, q2, q3, q4, q5, q6⟩ := HO.out.cells
  unfold Cfg.laid at hW
  clear hO1
  go_enter Tryz.func19, Tryz.ntmps19
  go_upto_region 1 with fail
  rw [← hW, ← hC]
  clear hW hC
  go_wp2_with fail
  refine HC.out.mono ?_
  rintro e w1 ⟨rfl, hK1⟩
  have HK : Hid (Keeps (fun _ => False) w w1) := HO.out.keeps.trans hK1 fun _ _ h => h
  clear hK1 HC HO q0 q1 q2 q3 q4 q5 q6
  go_wp2
  go_ret2
  exact ⟨rfl, HK.out⟩
end Go.Proofs.YtnkohgciecmecaaGreatDoor
