import Derived.Test.YtipejahmjdamjaaGreatDoorDf
namespace Go.Proofs.YtipejahmjdamjaaGreatDoor
open Go.RowKit Go.Shelf
set_option linter.unusedVariables false
set_option maxRecDepth 6000

theorem small_any (w : World) : Calls Tryz.prog 42 #[] w fun e w' => e = .returned (.slice (some ⟨w.heap.size, 0, none⟩) 64 64) ∧ Blk w' w.heap.size (wvs smallL) 37 ∧ Keeps (fun _ => False) w w' := by
  obtain ⟨W1, hW1⟩ : ∃ W1, W1 = w.alloc (.cells (wvs (List.replicate 64 0)).toArray 37) := ⟨_, rfl⟩
  have HM : Hid ((Instr.makeSlice 22 (.int .i64 64) (.int .i64 64)).run Tryz.prog w = .ok (.slice (some ⟨w.heap.size, 0, none⟩) 64 64) W1) := by rw [hW1]; exact run_make_words 64 (by omega)
  have hB : Blk W1 w.heap.size (wvs (List.replicate 64 0)) 37 := by rw [hW1]; exact Blk.new w _ 37
  have hK : Keeps (fun _ => False) w W1 := by rw [hW1]; exact (Keeps.refl _ w).alloc _
  obtain ⟨g, eg⟩ : ∃ g, g = w.heap.size := ⟨_, rfl⟩
  rw [← eg] at HM hB ⊢
  have hB2 := ((((((((hB.setCell 0 (.int .u32 2147483656)).setCell 16 (.int .u32 2147483671)).setCell 17 (.int .u32 2147483673)).setCell 32 (.int .u32 205520901)).setCell 33 (.int .u32 1283457040)).setCell 34 (.int .u32 1346371600)).setCell 35 (.int .u32 2013265926)).setCell 48 (.int .u32 77))
  have hK2 : Keeps (· = g) W1 ((((((((W1.setCell ⟨g, 0, none⟩ (.int .u32 2147483656)).setCell ⟨g, 16, none⟩ (.int .u32 2147483671)).setCell ⟨g, 17, none⟩ (.int .u32 2147483673)).setCell ⟨g, 32, none⟩ (.int .u32 205520901)).setCell ⟨g, 33, none⟩ (.int .u32 1283457040)).setCell ⟨g, 34, none⟩ (.int .u32 1346371600)).setCell ⟨g, 35, none⟩ (.int .u32 2013265926)).setCell ⟨g, 48, none⟩ (.int .u32 77)) := (((((((((Keeps.refl (· = g) W1).setCell _ _ fun _ => rfl).setCell _ _ fun _ => rfl).setCell _ _ fun _ => rfl).setCell _ _ fun _ => rfl).setCell _ _ fun _ => rfl).setCell _ _ fun _ => rfl).setCell _ _ fun _ => rfl).setCell _ _ fun _ => rfl)
  have HE : Hid (Blk ((((((((W1.setCell ⟨g, 0, none⟩ (.int .u32 2147483656)).setCell ⟨g, 16, none⟩ (.int .u32 2147483671)).setCell ⟨g, 17, none⟩ (.int .u32 2147483673)).setCell ⟨g, 32, none⟩ (.int .u32 205520901)).setCell ⟨g, 33, none⟩ (.int .u32 1283457040)).setCell ⟨g, 34, none⟩ (.int .u32 1346371600)).setCell ⟨g, 35, none⟩ (.int .u32 2013265926)).setCell ⟨g, 48, none⟩ (.int .u32 77)) g (wvs smallL) 37 ∧ Keeps (fun _ => False) w ((((((((W1.setCell ⟨g, 0, none⟩ (.int .u32 2147483656)).setCell ⟨g, 16, none⟩ (.int .u32 2147483671)).setCell ⟨g, 17, none⟩ (.int .u32 2147483673)).setCell ⟨g, 32, none⟩ (.int .u32 205520901)).setCell ⟨g, 33, none⟩ (.int .u32 1283457040)).setCell ⟨g, 34, none⟩ (.int .u32 1346371600)).setCell ⟨g, 35, none⟩ (.int .u32 2013265926)).setCell ⟨g, 48, none⟩ (.int .u32 77))) := ⟨hB2, hK.trans hK2 fun k hk e => by omega⟩
  have c0 : W1.cell? ⟨g, 0, none⟩ = some (.int .u32 0) := hB.cell rfl
  have f0 := hB.frozen 0
  have c1 : W1.cell? ⟨g, 16, none⟩ = some (.int .u32 0) := hB.cell rfl
  have f1 := hB.frozen 16
  have c2 : W1.cell? ⟨g, 17, none⟩ = some (.int .u32 0) := hB.cell rfl
  have f2 := hB.frozen 17
  have c3 : W1.cell? ⟨g, 32, none⟩ = some (.int .u32 0) := hB.cell rfl
  have f3 := hB.frozen 32
  have c4 : W1.cell? ⟨g, 33, none⟩ = some (.int .u32 0) := hB.cell rfl
  have f4 := hB.frozen 33
  have c5 : W1.cell? ⟨g, 34, none⟩ = some (.int .u32 0) := hB.cell rfl
  have f5 := hB.frozen 34
  have c6 : W1.cell? ⟨g, 35, none⟩ = some (.int .u32 0) := hB.cell rfl
  have f6 := hB.frozen 35
  have c7 : W1.cell? ⟨g, 48, none⟩ = some (.int .u32 0) := hB.cell rfl
  have f7 := hB.frozen 48
  clear hW1 hB hK eg hB2 hK2
  go_enter Tryz.func42, Tryz.ntmps42
  go_wp2_with (at_make; refine wpList_make_run rfl (.const (.int .i64 64)) (.const (.int .i64 64)) 22 rfl (.int .i64 64) (.int .i64 64) (.slice (some ⟨g, 0, none⟩) 64 64) W1 rfl rfl HM.out ?_; refine Hid.out ?_)
  unfold Hid
  go_wp2
  go_ret
  exact ⟨rfl, HE.out⟩

end Go.Proofs.YtipejahmjdamjaaGreatDoor
