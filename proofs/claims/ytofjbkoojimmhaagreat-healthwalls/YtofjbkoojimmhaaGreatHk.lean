import Derived.Test.YtofjbkoojimmhaaGreatHf
namespace Go.Proofs.YtofjbkoojimmhaaGreat
open Go.RowKit Go.Shelf
open Mq
set_option linter.unusedVariables false
set_option maxRecDepth 6000
set_option linter.unusedSimpArgs false
def ent (en : UInt32) : List UInt32 := List.replicate 16 0 ++ [en]
set_option maxHeartbeats 1000000 in
theorem care_c (en : UInt32) (a : Nat) (act : Int) (w : World) (hb : Blk w a [.int .i64 act] 3) : Calls Tryz.prog 95 #[.int .u32 (en.toNat : Int), .pointer (some ⟨a, 0, none⟩)] w fun e w' => e = .returned (.tuple #[cxv (ent en), .int .i64 act]) ∧ Keeps (fun _ => False) w w' := by
 obtain ⟨D, hD⟩ : ∃ D, D = w.heap.size := ⟨_, rfl⟩
 obtain ⟨W, hW⟩ : ∃ W, W = w.alloc (.cells #[.int .u32 0, .int .u32 0, .int .u32 0, .int .u32 0, .int .u32 0, .int .u32 0, .int .u32 0, .int .u32 0, .int .u32 0, .int .u32 0, .int .u32 0, .int .u32 0, .int .u32 0, .int .u32 0, .int .u32 0, .int .u32 0, .int .u32 0] 41) := ⟨_, rfl⟩
 have hK0 : Keeps (fun _ => False) w W := by rw [hW]; exact (Keeps.refl _ w).alloc _
 have hZ : Blk W D (wvs z17) 41 := by rw [hW, hD]; exact Blk.new w _ 41
 have hA : Blk W a [.int .i64 act] 3 := hb.kept hK0 fun h => h
 have hne : a ≠ D := by have := hb.lt; omega
 obtain ⟨W1, hW1⟩ : ∃ W1, W1 = W.drew.setRow D (wvs (ent en)).toArray := ⟨_, rfl⟩
 have HB : Hid (Blk W.drew D (wvs z17) 41 ∧ Blk W1 D (wvs (ent en)) 41 ∧ Keeps (fun _ => False) w W1 ∧ W.drew.cell? ⟨a, 0, none⟩ = some (.int .i64 act) ∧ W1.cell? ⟨a, 0, none⟩ = some (.int .i64 act)) := by
  refine ⟨hZ.drew, by rw [hW1]; exact hZ.drew.setRow _, ?_, hA.drew.cell (i := 0) rfl, ?_⟩
  ·
   rw [hW1]; exact hK0.drew.setRow _ _ fun h => by omega
  ·
   rw [hW1]; exact (hA.drew.setRow_ne hne _).cell (i := 0) rfl
 clear hK0 hZ hA hne hb
 go_enter Tryz.func95, Tryz.ntmps95
 go_upto_region 1 with fail
 rw [← hW, ← hD]
 clear hW hD
 refine wp_region_held_drew (S := fun w' => w'.cell? ⟨a, 0, none⟩ = some (.int .i64 act)) Tryz.mixh HB.out.2.2.2.1 (fun hHeld => ?_)
 simp only [t1, t2, List.length_nil, Nat.reduceAdd, t4, Array.replicate_zero, t6, List.nil_append, t8]
 refine hk 0 (.int .u32 (en.toNat : Int)) hHeld ?_
 refine hk 1 (.agg #[.int .u32 0, .int .u32 0, .int .u32 0, .int .u32 0, .int .u32 0, .int .u32 0, .int .u32 0, .int .u32 0, .int .u32 0, .int .u32 0, .int .u32 0, .int .u32 0, .int .u32 0, .int .u32 0, .int .u32 0, .int .u32 0, .int .u32 (en.toNat : Int)]) hHeld ?_
 refine hk 2 (.int .i64 act) hHeld ?_
 simp only [Act.put, s1, s2, s3]
 refine rd 3 fun Kq hK => ?_
 refine wp_store_row 41 (.tmp 3) (.tmp 6) rfl D (wvs (ent en)).toArray (by rfl) (by rfl) 41 _ HB.out.1 Tryz.size41 rfl (wvs_all _) ?_
 rw [← hW1]
 refine hK _ _ HB.out.2.2.2.2 (fun hHeld => ?_)
 simp only [Act.put, s1, s2, s3]
 refine hk 4 (.int .i64 act) hHeld ?_
 simp only [Act.put, s1, s2, s3]
 refine wpAnyH_done (by kernel_rfl) ?_ _
 clear hHeld hW1
 go_wp2
 refine bodyPost_ret (results_row_tmp rfl _ _ D 41 (wvs (ent en)).toArray (0, 0) _ rfl HB.out.2.1 Tryz.underlying41 rfl Tryz.size41) rfl ?_
 exact ⟨rfl, HB.out.2.2.1⟩
end Go.Proofs.YtofjbkoojimmhaaGreat
