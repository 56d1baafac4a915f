import Derived.Test.YtnkohgciecmecaaGreatDoorNd
namespace Go.Proofs.YtnkohgciecmecaaGreatDoor
open Go.RowKit
set_option linter.unusedVariables false
set_option linter.unusedSimpArgs false
set_option maxRecDepth 6000

theorem info_parts {t : TypeId} {z : Value} {n b : Nat} (h : (Tryz.prog.info? t).map (fun i => (i.zero, i.size, i.bytes)) = some (some z, n, b)) : ∃ i, Tryz.prog.info? t = some i ∧ i.zero = some z ∧ i.size = n ∧ i.bytes = b := by
  obtain ⟨i, hi, he⟩ := Option.map_eq_some_iff.1 h
  simp only [Prod.mk.injEq] at he
  exact ⟨i, hi, he.1, he.2.1, he.2.2⟩
theorem make_long (w : World) : ∃ W, (Instr.makeSlice 32 (.int .i64 65537) (.int .i64 65537)).run Tryz.prog w = .ok (.slice (some ⟨w.heap.size, 0, none⟩) 65537 65537) W ∧ Keeps (fun _ => False) w W := by
  obtain ⟨i0, hi, hz0, hz1, hz2⟩ := info_parts (show (Tryz.prog.info? 3).map (fun i => (i.zero, i.size, i.bytes)) = some (some (.int .i64 0), 1, 8) by kernel_rfl)
  have h := run_make (P := Tryz.prog) w 32 3 i0 _ Tryz.underlying32 hi hz0 .i64 .i64 65537 65537 (by omega) (by omega) (by rw [hz2]; decide) (by omega)
  exact ⟨_, h, (Keeps.refl _ w).alloc _⟩

set_option maxHeartbeats 4000000 in
theorem trialNames_any (w : World) : Calls Tryz.prog 3 #[] w fun e w' => e = .returned (.bool true) ∧ Keeps (fun _ => False) w w' := by
  have HC : Hid (Calls Tryz.prog 4 #[.agg #[.int .i64 0, .int .i64 0, .int .i64 0, .int .i64 0, .slice none 0 0, .slice none 0 0, .slice none 0 0], .int .i64 0, pl0, pl0] w fun e w' => e = .returned (.tuple #[.bool false, .int .i64 310]) ∧ Keeps (fun _ => False) w w') := alike_zero w
  go_enter Tryz.func3, Tryz.ntmps3
  go_wp2_with fail
  refine HC.out.mono ?_
  rintro e w1 ⟨rfl, hK1⟩
  have HK : Hid (Keeps (fun _ => False) w w1) := hK1
  obtain ⟨W, hm, hKW⟩ := make_long w1
  have HM : Hid _ := hm
  have HW : Hid (Keeps (fun _ => False) w W) := hK1.trans hKW fun _ _ h => h
  have HT : Hid (Calls Tryz.prog 5 #[.agg #[.int .i64 0, .int .i64 0, .int .i64 0, .int .i64 0, .slice none 0 0, .slice none 0 0, .slice none 0 0], .int .i64 0, .agg #[.slice none 0 0, .slice none 0 0, .slice (some ⟨w1.heap.size, 0, none⟩) 65537 65537], pl0] W fun e w' => e = .returned (.tuple #[vd0, .int .i64 2]) ∧ Keeps (fun _ => False) W w') := try_long W _
  clear hK1 hm hKW HC
  go_wp2_with (at_make; refine wpList_make_run rfl _ _ 32 rfl _ _ _ _ rfl rfl HM.out ?_; refine Hid.out ?_)
  unfold Hid
  clear HM
  go_wp2_with fail
  refine HT.out.mono ?_
  rintro e w2 ⟨rfl, hK2⟩
  have HZ : Hid (Keeps (fun _ => False) w (w2.alloc (.cells #[.bool false, .int .i64 0, .int .i64 0, .int .i64 0] 36))) := (HW.out.trans hK2 fun _ _ h => h).alloc _
  have q : ∀ w' : World, (binOp .eql 36 vd0 vd0).run Tryz.prog w' = .ok (.bool true) w' := fun w' => by
    rw [run_eql_struct]
    simp [go_sem, Result.andThen]
  clear HT HW HK hK2
  go_wp2
  go_ret
  exact ⟨rfl, HZ.out⟩
end Go.Proofs.YtnkohgciecmecaaGreatDoor
