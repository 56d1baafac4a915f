import Derived.Test.YtlnmlbkeemahcaaGreatOw
import Derived.Handy
import Derived.Deep.RegionHeld3
import Derived.Deep.RegionHeld2
import Derived.Deep.CutBlock
import Derived.Deep.CutRange
namespace Go.Proofs.YtlnmlbkeemahcaaGreat
open Go.RowKit
set_option linter.unusedVariables false
set_option linter.unusedSimpArgs false
set_option maxRecDepth 8000
theorem opAppend_run {P : Program} {w : World} {o : Oper} {a : Act} {K : Act → World → Prop} {Q : Exit → Act → World → Prop} (s x : Operand) (t k : TypeId)
  (ho : o.op = .call { callee := .builtin .append, args := #[s, x], argTypes := #[t, k] }) (vs vx v' : Value) (w' : World) (hs : a.eval s = vs) (hx : a.eval x = vx)
  (hr : (Builtin.append_ #[t, k] o.type #[vs, vx]).run P w = .ok v' w') (h : K (a.put o.dst v') w') : o.wp P a w K Q := by
 unfold Oper.wp execOp
 simp only [ho, resolve, invoke, builtin, Sem.run_bind, Sem.run_pure, Result.andThen_ok, List.map_toArray, List.map_cons, List.map_nil, hs, hx, hr]
 exact h
theorem LX.one {w w' : World} {x : Cfg} {C N b1 b2 b5 : Nat} {SP SQ : Nat → Int} {s : Z9} {F : Nat → PP} {G : Nat → CP} (h : LX w x C N b1 b2 b5 SP SQ s F G w') : One w x C N w' := by
 have h1 := h.li.cw
 have h2 := h.li.n
 exact ⟨h.li.cfg, h.li.kp, h.li.cin, by omega, by omega⟩
def srcD (x : Cfg) (i : Nat) : Dst := (endsL true i x.ps x.ps.length).headD ⟨0, 0, 0⟩
set_option maxHeartbeats 8000000 in
theorem rOf_any (x : Cfg) (w : World) (N : Nat) (hi : x.In w N) (hN : N ≤ w.heap.size) : Calls Tryz.prog 56 #[x.v] w (OfP x w) := by
 obtain ⟨W, hW⟩ : ∃ W, W = (x.laid w).alloc (.cells #[.int .i64 0, .slice none 0 0, .slice none 0 0, .int .i64 0] 92) := ⟨_, rfl⟩
 obtain ⟨C, hC⟩ : ∃ C, C = w.heap.size := ⟨_, rfl⟩
 have HO : Hid (One w x C N W ∧ Blk W (C + 1) [.int .i64 0, .slice none 0 0, .slice none 0 0, .int .i64 0] 92 ∧ C = w.heap.size) := by
  rw [hW, hC]
  refine ⟨(One.mk' hi hN).kept ((Keeps.refl _ _).alloc _), ?_, rfl⟩
  have := Blk.new (x.laid w) #[.int .i64 0, .slice none 0 0, .slice none 0 0, .int .i64 0] 92
  simpa [Cfg.laid] using this
 have hhc : (x.hs.length : Int) ≤ x.hc ∧ (x.hc : Int) ≤ 9223372036854775807 := by have := hi.hlen; unfold maxLen at this; omega
 clear hi hN
 unfold Cfg.laid at hW
 go_enter Tryz.func56, Tryz.ntmps56
 go_upto_region 1 with fail
 rw [← hW, ← hC]
 clear hW hC
 obtain ⟨q0, q1, q2, q3, q4, q5, q6⟩ := HO.out.1.cells
 have HC : Hid (Calls Tryz.prog 87 #[x.v] W fun e w' => e = .returned (.bool x.mayB) ∧ KF W w') := rmay_any x W N HO.out.1.cin HO.out.1.nn
 go_wp2_with fail
 refine HC.out.mono ?_
 rintro e w1 ⟨rfl, hK⟩
 have HO1 : Hid (One w x C N w1 ∧ Blk w1 (C + 1) [.int .i64 0, .slice none 0 0, .slice none 0 0, .int .i64 0] 92) := ⟨HO.out.1.kept hK, HO.out.2.1.kept hK fun h => h⟩
 clear hK HC q0 q1 q2 q3 q4 q5 q6
 obtain ⟨b, hb⟩ : ∃ b, x.mayB = b := ⟨_, rfl⟩
 rw [hb]
 have HB : Hid (x.mayB = b) := hb
 clear hb
 cases b with
 | false =>
  have r0 := HO1.out.2.cell (i := 0) rfl
  have r1 := HO1.out.2.cell (i := 1) rfl
  have r2 := HO1.out.2.cell (i := 2) rfl
  have r3 := HO1.out.2.cell (i := 3) rfl
  have f0 := HO1.out.2.frozen 0
  have f1 := HO1.out.2.frozen 1
  have f2 := HO1.out.2.frozen 2
  have f3 := HO1.out.2.frozen 3
  go_wp2
  obtain ⟨hB, hK4⟩ := set4 HO1.out.2 (.int .i64 0) (.slice none 0 0) (.slice none 0 0) (.int .i64 0)
  obtain ⟨Wb, hWb⟩ : ∃ Wb, Wb = ((((w1.setCell ⟨C + 1, 0, none⟩ (.int .i64 0)).setCell ⟨C + 1, 1, none⟩ (.slice none 0 0)).setCell ⟨C + 1, 2, none⟩ (.slice none 0 0)).setCell ⟨C + 1, 3, none⟩ (.int .i64 0)) := ⟨_, rfl⟩
  rw [← hWb] at hB hK4 ⊢
  (try simp only [Exit.inBlock, Exit.then])
  refine bodyPost_ret (results_cell_two rfl _ _ (C + 1) 92 _ (0, 0) _ rfl hB Tryz.underlying92 rfl (by kernel_rfl)) rfl ?_
  have hcw := HO.out.2.2
  exact ⟨HO1.out.1.keeps.trans hK4 fun k hk e => by omega, .inl ⟨HB.out, rfl⟩⟩
 | true =>
  have hk := Cfg.mayB_iff.1 HB.out
  have hk1 := hk.1
  have hk2 := hk.2.1
  have hL8 := hk.2.2.1
  have hH16 := hk.2.2.2.1
  clear hk
  have hc5 : w1.drew.cell? ⟨C, 5, none⟩ = some (.slice x.pa x.ps.length x.pc) := (HO1.out.1.kept (Keeps.refl _ _).drew).cfg.cell rfl
  have hc6 : w1.drew.cell? ⟨C, 6, none⟩ = some (.slice x.ha x.hs.length x.hc) := (HO1.out.1.kept (Keeps.refl _ _).drew).cfg.cell rfl
  have HM0 : Hid (∀ b1 b2 b5, MS w x C N false false false b1 b2 b5 w1.drew) := fun b1 b2 b5 => by
   have hd : KF w1 w1.drew := (Keeps.refl _ _).drew
   have hl := (HO1.out.2.kept hd fun h => h)
   exact ⟨HO1.out.1.kept hd, hl, HO.out.2.2, by have := hl.lt; omega, (fun e => by cases e), (fun e => by cases e), (fun e => by cases e), (fun e => by cases e), (fun e => by cases e), (fun e => by cases e)⟩
  have MK1 : Hid (∀ w, (Instr.makeSlice 89 (.int .i64 x.ps.length) (.int .i64 x.ps.length)).run Tryz.prog w = _) := fun w => run_make55 w x.ps.length (by omega)
  have MK2 : Hid (∀ w, (Instr.makeSlice 90 (.int .i64 x.hs.length) (.int .i64 x.hs.length)).run Tryz.prog w = _) := fun w => run_make59 w x.hs.length (by omega)
  go_upto_region 3 with fail
  go_cut [4] from 18 to 190 (fun t wx => ∃ b1 b2 b5, t = .pointer (some ⟨b5, 0, none⟩) ∧ LX w x C N b1 b2 b5 (fun _ => 0) (fun _ => 0) (z9 (16 * x.kernel)) (fun _ => PP.z) (fun _ => CP.z) wx)
  case first =>
   refine wp_region_held_drew (S := (fun w' => w'.cell? ⟨C, 5, none⟩ = some (.slice x.pa x.ps.length x.pc) ∧ w'.cell? ⟨C, 6, none⟩ = some (.slice x.ha x.hs.length x.hc))) Tryz.mixed ⟨hc5, hc6⟩ (fun hHeld => ?_)
   simp only [t1, t2, List.length_nil, Nat.reduceAdd, t4, Array.replicate_zero, t6, List.append_toArray, List.nil_append, t8]
   refine tk 0 (.pointer (some ⟨C, 5, none⟩)) hHeld ?_
   refine tk 1 (.slice x.pa x.ps.length x.pc) hHeld ?_
   refine tk 2 (.int .i64 x.ps.length) hHeld ?_
   refine tk 4 (.pointer (some ⟨C, 6, none⟩)) hHeld ?_
   refine tk 5 (.slice x.ha x.hs.length x.hc) hHeld ?_
   refine tk 6 (.int .i64 x.hs.length) hHeld ?_
   simp only [Act.put, s1, s2, s3]
   obtain ⟨w0, hw0⟩ : ∃ w0, w0 = w1.drew := ⟨_, rfl⟩
   have h0s := HM0.out
   rw [← hw0] at h0s ⊢
   clear hw0 hc5 hc6
   obtain ⟨b1, hb1⟩ : ∃ b : Nat, b = 0 := ⟨_, rfl⟩
   obtain ⟨b2, hb2⟩ : ∃ b : Nat, b = 0 := ⟨_, rfl⟩
   obtain ⟨b5, hb5⟩ : ∃ b : Nat, b = 0 := ⟨_, rfl⟩
   have h0 := h0s b1 b2 b5
   clear hb1 hb2 hb5 h0s
   refine wpAnyH_ready (rs := [3, 7, 9]) (by kernel_rfl) (by simp) ?_
   refine AllReadyH.cons (o := ⟨some 21, .makeSlice 89 (.tmp 20) (.tmp 20), 89, "ref.go:187", #[⟨2, .data⟩, ⟨2, .data⟩], none⟩) rfl (fun K hK => ?_) (AllReadyH.cons (o := ⟨some 25, .makeSlice 90 (.tmp 24) (.tmp 24), 90, "ref.go:187", #[⟨6, .data⟩, ⟨6, .data⟩], none⟩) rfl (fun K hK => ?_) (AllReadyH.cons (o := ⟨some 4, .alloc 92, 0, "ref.go:187", #[], none⟩) rfl (fun K hK => ?_) AllReadyH.nil))
   ·
    refine step_make rfl (.tmp 20) (.tmp 20) 89 rfl _ _ _ _ rfl rfl (MK1.out _) ?_
    have h1 := h0.make1
    obtain ⟨w1, hw⟩ : ∃ w1, w1 = w0.alloc (.cells ((List.replicate x.ps.length z5).flatten).toArray 116) := ⟨_, rfl⟩
    rw [← hw] at h1 ⊢
    clear hw h0 b1
    obtain ⟨b1, hb⟩ : ∃ b1, b1 = w0.heap.size := ⟨_, rfl⟩
    rw [← hb] at h1 ⊢
    clear hb
    refine hK.out _ _ h1.cells (fun hHeld => ?_)
    simp only [Act.put, s1, s2, s3]
    refine wpAnyH_ready (rs := [7, 9]) (by kernel_rfl) (by simp) ?_
    refine AllReadyH.cons (o := ⟨some 25, .makeSlice 90 (.tmp 24) (.tmp 24), 90, "ref.go:187", #[⟨6, .data⟩, ⟨6, .data⟩], none⟩) rfl (fun K hK => ?_) (AllReadyH.cons (o := ⟨some 4, .alloc 92, 0, "ref.go:187", #[], none⟩) rfl (fun K hK => ?_) AllReadyH.nil)
    ·
     refine step_make rfl (.tmp 24) (.tmp 24) 90 rfl _ _ _ _ rfl rfl (MK2.out _) ?_
     have h2 := h1.make2
     obtain ⟨w2, hw⟩ : ∃ w2, w2 = w1.alloc (.cells ((List.replicate x.hs.length z5).flatten).toArray 107) := ⟨_, rfl⟩
     rw [← hw] at h2 ⊢
     clear hw h1 b2
     obtain ⟨b2, hb⟩ : ∃ b2, b2 = w1.heap.size := ⟨_, rfl⟩
     rw [← hb] at h2 ⊢
     clear hb
     refine hK.out _ _ h2.cells (fun hHeld => ?_)
     simp only [Act.put, s1, s2, s3]
     refine tk 8 (.agg #[.int .i64 0, .slice (some ⟨b1, 0, none⟩) x.ps.length x.ps.length, .slice (some ⟨b2, 0, none⟩) x.hs.length x.hs.length, .int .i64 0]) hHeld ?_
     simp only [Act.put, s1, s2, s3]
     refine rd 9 fun K hK => ?_
     ·
      go_simp
      have h3 := h2.alloc5
      obtain ⟨w3, hw⟩ : ∃ w3, w3 = w2.alloc (.cells #[.int .i64 0, .slice none 0 0, .slice none 0 0, .int .i64 0] 92) := ⟨_, rfl⟩
      rw [← hw] at h3 ⊢
      clear hw h2 b5
      obtain ⟨b5, hb⟩ : ∃ b5, b5 = w2.heap.size := ⟨_, rfl⟩
      rw [← hb] at h3 ⊢
      clear hb
      refine hK.out _ _ h3.cells (fun hHeld => ?_)
      simp only [Act.put, s1, s2, s3]
      refine rd 10 fun K hK => ?_
      refine wp_store_row 92 _ _ rfl b5 #[.int .i64 0, .slice (some ⟨b1, 0, none⟩) x.ps.length x.ps.length, .slice (some ⟨b2, 0, none⟩) x.hs.length x.hs.length, .int .i64 0] (by rfl) (by rfl) 92 _ (h3.m5 rfl).1 Tryz.size92 rfl (all30 ..) ?_
      have hl := h3.stored (16 * x.kernel)
      refine hK.out _ _ ⟨hl.li.cfg.cell rfl, hl.li.cfg.cell rfl⟩ (fun hHeld => ?_)
      simp only [Act.put, s1, s2, s3]
      refine wpAnyH_done (by kernel_rfl) ?_ _
      go_wp2_with fail
      go_meet
      exact ⟨b1, b2, b5, rfl, hl⟩
    ·
     go_simp
     have h2 := h1.alloc5
     obtain ⟨w2, hw⟩ : ∃ w2, w2 = w1.alloc (.cells #[.int .i64 0, .slice none 0 0, .slice none 0 0, .int .i64 0] 92) := ⟨_, rfl⟩
     rw [← hw] at h2 ⊢
     clear hw h1 b5
     obtain ⟨b5, hb⟩ : ∃ b5, b5 = w1.heap.size := ⟨_, rfl⟩
     rw [← hb] at h2 ⊢
     clear hb
     refine hK.out _ _ h2.cells (fun hHeld => ?_)
     simp only [Act.put, s1, s2, s3]
     refine rd 7 fun K hK => ?_
     ·
      refine step_make rfl (.tmp 24) (.tmp 24) 90 rfl _ _ _ _ rfl rfl (MK2.out _) ?_
      have h3 := h2.make2
      obtain ⟨w3, hw⟩ : ∃ w3, w3 = w2.alloc (.cells ((List.replicate x.hs.length z5).flatten).toArray 107) := ⟨_, rfl⟩
      rw [← hw] at h3 ⊢
      clear hw h2 b2
      obtain ⟨b2, hb⟩ : ∃ b2, b2 = w2.heap.size := ⟨_, rfl⟩
      rw [← hb] at h3 ⊢
      clear hb
      refine hK.out _ _ h3.cells (fun hHeld => ?_)
      simp only [Act.put, s1, s2, s3]
      refine tk 8 (.agg #[.int .i64 0, .slice (some ⟨b1, 0, none⟩) x.ps.length x.ps.length, .slice (some ⟨b2, 0, none⟩) x.hs.length x.hs.length, .int .i64 0]) hHeld ?_
      simp only [Act.put, s1, s2, s3]
      refine rd 10 fun K hK => ?_
      refine wp_store_row 92 _ _ rfl b5 #[.int .i64 0, .slice (some ⟨b1, 0, none⟩) x.ps.length x.ps.length, .slice (some ⟨b2, 0, none⟩) x.hs.length x.hs.length, .int .i64 0] (by rfl) (by rfl) 92 _ (h3.m5 rfl).1 Tryz.size92 rfl (all30 ..) ?_
      have hl := h3.stored (16 * x.kernel)
      refine hK.out _ _ ⟨hl.li.cfg.cell rfl, hl.li.cfg.cell rfl⟩ (fun hHeld => ?_)
      simp only [Act.put, s1, s2, s3]
      refine wpAnyH_done (by kernel_rfl) ?_ _
      go_wp2_with fail
      go_meet
      exact ⟨b1, b2, b5, rfl, hl⟩
   ·
    refine step_make rfl (.tmp 24) (.tmp 24) 90 rfl _ _ _ _ rfl rfl (MK2.out _) ?_
    have h1 := h0.make2
    obtain ⟨w1, hw⟩ : ∃ w1, w1 = w0.alloc (.cells ((List.replicate x.hs.length z5).flatten).toArray 107) := ⟨_, rfl⟩
    rw [← hw] at h1 ⊢
    clear hw h0 b2
    obtain ⟨b2, hb⟩ : ∃ b2, b2 = w0.heap.size := ⟨_, rfl⟩
    rw [← hb] at h1 ⊢
    clear hb
    refine hK.out _ _ h1.cells (fun hHeld => ?_)
    simp only [Act.put, s1, s2, s3]
    refine wpAnyH_ready (rs := [3, 9]) (by kernel_rfl) (by simp) ?_
    refine AllReadyH.cons (o := ⟨some 21, .makeSlice 89 (.tmp 20) (.tmp 20), 89, "ref.go:187", #[⟨2, .data⟩, ⟨2, .data⟩], none⟩) rfl (fun K hK => ?_) (AllReadyH.cons (o := ⟨some 4, .alloc 92, 0, "ref.go:187", #[], none⟩) rfl (fun K hK => ?_) AllReadyH.nil)
    ·
     refine step_make rfl (.tmp 20) (.tmp 20) 89 rfl _ _ _ _ rfl rfl (MK1.out _) ?_
     have h2 := h1.make1
     obtain ⟨w2, hw⟩ : ∃ w2, w2 = w1.alloc (.cells ((List.replicate x.ps.length z5).flatten).toArray 116) := ⟨_, rfl⟩
     rw [← hw] at h2 ⊢
     clear hw h1 b1
     obtain ⟨b1, hb⟩ : ∃ b1, b1 = w1.heap.size := ⟨_, rfl⟩
     rw [← hb] at h2 ⊢
     clear hb
     refine hK.out _ _ h2.cells (fun hHeld => ?_)
     simp only [Act.put, s1, s2, s3]
     refine tk 8 (.agg #[.int .i64 0, .slice (some ⟨b1, 0, none⟩) x.ps.length x.ps.length, .slice (some ⟨b2, 0, none⟩) x.hs.length x.hs.length, .int .i64 0]) hHeld ?_
     simp only [Act.put, s1, s2, s3]
     refine rd 9 fun K hK => ?_
     ·
      go_simp
      have h3 := h2.alloc5
      obtain ⟨w3, hw⟩ : ∃ w3, w3 = w2.alloc (.cells #[.int .i64 0, .slice none 0 0, .slice none 0 0, .int .i64 0] 92) := ⟨_, rfl⟩
      rw [← hw] at h3 ⊢
      clear hw h2 b5
      obtain ⟨b5, hb⟩ : ∃ b5, b5 = w2.heap.size := ⟨_, rfl⟩
      rw [← hb] at h3 ⊢
      clear hb
      refine hK.out _ _ h3.cells (fun hHeld => ?_)
      simp only [Act.put, s1, s2, s3]
      refine rd 10 fun K hK => ?_
      refine wp_store_row 92 _ _ rfl b5 #[.int .i64 0, .slice (some ⟨b1, 0, none⟩) x.ps.length x.ps.length, .slice (some ⟨b2, 0, none⟩) x.hs.length x.hs.length, .int .i64 0] (by rfl) (by rfl) 92 _ (h3.m5 rfl).1 Tryz.size92 rfl (all30 ..) ?_
      have hl := h3.stored (16 * x.kernel)
      refine hK.out _ _ ⟨hl.li.cfg.cell rfl, hl.li.cfg.cell rfl⟩ (fun hHeld => ?_)
      simp only [Act.put, s1, s2, s3]
      refine wpAnyH_done (by kernel_rfl) ?_ _
      go_wp2_with fail
      go_meet
      exact ⟨b1, b2, b5, rfl, hl⟩
    ·
     go_simp
     have h2 := h1.alloc5
     obtain ⟨w2, hw⟩ : ∃ w2, w2 = w1.alloc (.cells #[.int .i64 0, .slice none 0 0, .slice none 0 0, .int .i64 0] 92) := ⟨_, rfl⟩
     rw [← hw] at h2 ⊢
     clear hw h1 b5
     obtain ⟨b5, hb⟩ : ∃ b5, b5 = w1.heap.size := ⟨_, rfl⟩
     rw [← hb] at h2 ⊢
     clear hb
     refine hK.out _ _ h2.cells (fun hHeld => ?_)
     simp only [Act.put, s1, s2, s3]
     refine rd 3 fun K hK => ?_
     ·
      refine step_make rfl (.tmp 20) (.tmp 20) 89 rfl _ _ _ _ rfl rfl (MK1.out _) ?_
      have h3 := h2.make1
      obtain ⟨w3, hw⟩ : ∃ w3, w3 = w2.alloc (.cells ((List.replicate x.ps.length z5).flatten).toArray 116) := ⟨_, rfl⟩
      rw [← hw] at h3 ⊢
      clear hw h2 b1
      obtain ⟨b1, hb⟩ : ∃ b1, b1 = w2.heap.size := ⟨_, rfl⟩
      rw [← hb] at h3 ⊢
      clear hb
      refine hK.out _ _ h3.cells (fun hHeld => ?_)
      simp only [Act.put, s1, s2, s3]
      refine tk 8 (.agg #[.int .i64 0, .slice (some ⟨b1, 0, none⟩) x.ps.length x.ps.length, .slice (some ⟨b2, 0, none⟩) x.hs.length x.hs.length, .int .i64 0]) hHeld ?_
      simp only [Act.put, s1, s2, s3]
      refine rd 10 fun K hK => ?_
      refine wp_store_row 92 _ _ rfl b5 #[.int .i64 0, .slice (some ⟨b1, 0, none⟩) x.ps.length x.ps.length, .slice (some ⟨b2, 0, none⟩) x.hs.length x.hs.length, .int .i64 0] (by rfl) (by rfl) 92 _ (h3.m5 rfl).1 Tryz.size92 rfl (all30 ..) ?_
      have hl := h3.stored (16 * x.kernel)
      refine hK.out _ _ ⟨hl.li.cfg.cell rfl, hl.li.cfg.cell rfl⟩ (fun hHeld => ?_)
      simp only [Act.put, s1, s2, s3]
      refine wpAnyH_done (by kernel_rfl) ?_ _
      go_wp2_with fail
      go_meet
      exact ⟨b1, b2, b5, rfl, hl⟩
   ·
    go_simp
    have h1 := h0.alloc5
    obtain ⟨w1, hw⟩ : ∃ w1, w1 = w0.alloc (.cells #[.int .i64 0, .slice none 0 0, .slice none 0 0, .int .i64 0] 92) := ⟨_, rfl⟩
    rw [← hw] at h1 ⊢
    clear hw h0 b5
    obtain ⟨b5, hb⟩ : ∃ b5, b5 = w0.heap.size := ⟨_, rfl⟩
    rw [← hb] at h1 ⊢
    clear hb
    refine hK.out _ _ h1.cells (fun hHeld => ?_)
    simp only [Act.put, s1, s2, s3]
    refine wpAnyH_ready (rs := [3, 7]) (by kernel_rfl) (by simp) ?_
    refine AllReadyH.cons (o := ⟨some 21, .makeSlice 89 (.tmp 20) (.tmp 20), 89, "ref.go:187", #[⟨2, .data⟩, ⟨2, .data⟩], none⟩) rfl (fun K hK => ?_) (AllReadyH.cons (o := ⟨some 25, .makeSlice 90 (.tmp 24) (.tmp 24), 90, "ref.go:187", #[⟨6, .data⟩, ⟨6, .data⟩], none⟩) rfl (fun K hK => ?_) AllReadyH.nil)
    ·
     refine step_make rfl (.tmp 20) (.tmp 20) 89 rfl _ _ _ _ rfl rfl (MK1.out _) ?_
     have h2 := h1.make1
     obtain ⟨w2, hw⟩ : ∃ w2, w2 = w1.alloc (.cells ((List.replicate x.ps.length z5).flatten).toArray 116) := ⟨_, rfl⟩
     rw [← hw] at h2 ⊢
     clear hw h1 b1
     obtain ⟨b1, hb⟩ : ∃ b1, b1 = w1.heap.size := ⟨_, rfl⟩
     rw [← hb] at h2 ⊢
     clear hb
     refine hK.out _ _ h2.cells (fun hHeld => ?_)
     simp only [Act.put, s1, s2, s3]
     refine rd 7 fun K hK => ?_
     ·
      refine step_make rfl (.tmp 24) (.tmp 24) 90 rfl _ _ _ _ rfl rfl (MK2.out _) ?_
      have h3 := h2.make2
      obtain ⟨w3, hw⟩ : ∃ w3, w3 = w2.alloc (.cells ((List.replicate x.hs.length z5).flatten).toArray 107) := ⟨_, rfl⟩
      rw [← hw] at h3 ⊢
      clear hw h2 b2
      obtain ⟨b2, hb⟩ : ∃ b2, b2 = w2.heap.size := ⟨_, rfl⟩
      rw [← hb] at h3 ⊢
      clear hb
      refine hK.out _ _ h3.cells (fun hHeld => ?_)
      simp only [Act.put, s1, s2, s3]
      refine tk 8 (.agg #[.int .i64 0, .slice (some ⟨b1, 0, none⟩) x.ps.length x.ps.length, .slice (some ⟨b2, 0, none⟩) x.hs.length x.hs.length, .int .i64 0]) hHeld ?_
      simp only [Act.put, s1, s2, s3]
      refine rd 10 fun K hK => ?_
      refine wp_store_row 92 _ _ rfl b5 #[.int .i64 0, .slice (some ⟨b1, 0, none⟩) x.ps.length x.ps.length, .slice (some ⟨b2, 0, none⟩) x.hs.length x.hs.length, .int .i64 0] (by rfl) (by rfl) 92 _ (h3.m5 rfl).1 Tryz.size92 rfl (all30 ..) ?_
      have hl := h3.stored (16 * x.kernel)
      refine hK.out _ _ ⟨hl.li.cfg.cell rfl, hl.li.cfg.cell rfl⟩ (fun hHeld => ?_)
      simp only [Act.put, s1, s2, s3]
      refine wpAnyH_done (by kernel_rfl) ?_ _
      go_wp2_with fail
      go_meet
      exact ⟨b1, b2, b5, rfl, hl⟩
    ·
     refine step_make rfl (.tmp 24) (.tmp 24) 90 rfl _ _ _ _ rfl rfl (MK2.out _) ?_
     have h2 := h1.make2
     obtain ⟨w2, hw⟩ : ∃ w2, w2 = w1.alloc (.cells ((List.replicate x.hs.length z5).flatten).toArray 107) := ⟨_, rfl⟩
     rw [← hw] at h2 ⊢
     clear hw h1 b2
     obtain ⟨b2, hb⟩ : ∃ b2, b2 = w1.heap.size := ⟨_, rfl⟩
     rw [← hb] at h2 ⊢
     clear hb
     refine hK.out _ _ h2.cells (fun hHeld => ?_)
     simp only [Act.put, s1, s2, s3]
     refine rd 3 fun K hK => ?_
     ·
      refine step_make rfl (.tmp 20) (.tmp 20) 89 rfl _ _ _ _ rfl rfl (MK1.out _) ?_
      have h3 := h2.make1
      obtain ⟨w3, hw⟩ : ∃ w3, w3 = w2.alloc (.cells ((List.replicate x.ps.length z5).flatten).toArray 116) := ⟨_, rfl⟩
      rw [← hw] at h3 ⊢
      clear hw h2 b1
      obtain ⟨b1, hb⟩ : ∃ b1, b1 = w2.heap.size := ⟨_, rfl⟩
      rw [← hb] at h3 ⊢
      clear hb
      refine hK.out _ _ h3.cells (fun hHeld => ?_)
      simp only [Act.put, s1, s2, s3]
      refine tk 8 (.agg #[.int .i64 0, .slice (some ⟨b1, 0, none⟩) x.ps.length x.ps.length, .slice (some ⟨b2, 0, none⟩) x.hs.length x.hs.length, .int .i64 0]) hHeld ?_
      simp only [Act.put, s1, s2, s3]
      refine rd 10 fun K hK => ?_
      refine wp_store_row 92 _ _ rfl b5 #[.int .i64 0, .slice (some ⟨b1, 0, none⟩) x.ps.length x.ps.length, .slice (some ⟨b2, 0, none⟩) x.hs.length x.hs.length, .int .i64 0] (by rfl) (by rfl) 92 _ (h3.m5 rfl).1 Tryz.size92 rfl (all30 ..) ?_
      have hl := h3.stored (16 * x.kernel)
      refine hK.out _ _ ⟨hl.li.cfg.cell rfl, hl.li.cfg.cell rfl⟩ (fun hHeld => ?_)
      simp only [Act.put, s1, s2, s3]
      refine wpAnyH_done (by kernel_rfl) ?_ _
      go_wp2_with fail
      go_meet
      exact ⟨b1, b2, b5, rfl, hl⟩
  case rest =>
   obtain ⟨b1, b2, b5, rfl, hX⟩ := hcut
   obtain ⟨HH, hHH⟩ : ∃ HH, x.hs.length = HH := ⟨_, rfl⟩
   obtain ⟨PL, hPL⟩ : ∃ PL, x.ps.length = PL := ⟨_, rfl⟩
   have HLEN : Hid (x.hs.length = HH ∧ x.ps.length = PL) := ⟨hHH, hPL⟩
   have HX0 : Hid (LX w x C N b1 b2 b5 (fun _ => 0) (fun _ => 0) (z9 (16 * x.kernel)) (fun _ => PP.z) (fun _ => CP.z) wc) := hX
   obtain ⟨q0, q1, q2, q3, q4, q5, q6⟩ := hX.one.cells
   rw [hHH] at hH16 hhc q6
   rw [hPL] at hL8
   clear hX HM0 MK1 MK2 hc5 hc6 hHH hPL
   go_wp2
   clear q0 q1 q2 q3 q4 q5 q6
   go_loopw [30] (fun i wr => ∃ (j : Nat) (G : Nat → CP), j ≤ HH ∧ i = .int .i64 j ∧ LX w x C N b1 b2 b5 (fun i => if i < j then (srcD x i).p else 0) (fun i => if i < j then (srcD x i).q else 0) (z9 (16 * x.kernel)) (fun _ => PP.z) G wr) (fun i _ => HH - (intOf i).toNat)
   case atStart => exact ⟨0, _, by omega, rfl, HX0.out⟩
   case round =>
    obtain ⟨j, G, hj, rfl, hX⟩ := hrel
    by_cases hlt : j < HH
    ·
     have hlt' : (j : Int) < HH := by omega
     obtain ⟨h, hh⟩ : ∃ h, x.hs[j]? = some h := ⟨_, List.getElem?_eq_getElem (by have := HLEN.out.1; omega)⟩
     obtain ⟨_, ⟨s, hs⟩, _, _⟩ := Cfg.mayB_chn HB.out hh
     have HSR : Hid (Calls _ _ _ _ _) := source_any x j s [] hs wr N hX.li.cin hX.one.nn
     have hsd : srcD x j = s := by unfold srcD; rw [hs]; rfl
     obtain ⟨q0, q1, q2, q3, q4, q5, q6⟩ := hX.one.cells
     have HX1 : Hid (LX w x C N b1 b2 b5 (fun i => if i < j then (srcD x i).p else 0) (fun i => if i < j then (srcD x i).q else 0) (z9 (16 * x.kernel)) (fun _ => PP.z) G wr ∧ srcD x j = s ∧ j < HH) := ⟨hX, hsd, hlt⟩
     clear hX hh hs hsd hj hlt
     go_wp2_with fail
     refine HSR.out.mono ?_
     rintro e w2 ⟨rfl, hK2⟩
     obtain ⟨hX1, hsd, hlt⟩ := HX1.out
     have hX2 := hX1.grow hK2
     have hjx : j < x.hs.length := by rw [HLEN.out.1]; exact hlt
     have l2 : w2.cell? ⟨b5, 2, none⟩ = some (.slice (some ⟨b2, 0, none⟩) HH HH) := by have := hX2.li.l.cell (i := 2) rfl; rw [HLEN.out.1] at this; exact this
     have g2 : w2.cell? ⟨b2, j * 5 + 2, none⟩ = some (.int .i64 (G j).sp) := hX2.li.c.cell (by rw [row5_get (fun i => CP.vs5 _) hjx (by omega)]; rfl)
     have g3 : w2.cell? ⟨b2, j * 5 + 3, none⟩ = some (.int .i64 (G j).sq) := hX2.li.c.cell (by rw [row5_get (fun i => CP.vs5 _) hjx (by omega)]; rfl)
     have f2 := hX2.li.c.frozen (j * 5 + 2)
     have f3 := hX2.li.c.frozen (j * 5 + 3)
     have h5 := hX2.li.ne.2.2
     have hX3 := hX2.setC hjx (k := 2) (by omega) s.p { G j with sp := s.p } rfl rfl (z9 (16 * x.kernel)) ⟨rfl, rfl, rfl, rfl, rfl, rfl, rfl⟩ (fun i => if i < j + 1 then (srcD x i).p else 0) (fun i => if i < j then (srcD x i).q else 0) (fun i => by
      have := hX2.gp i
      unfold upd; split
      ·
       next e => subst e; exact this
      ·
       exact this) (fun i => by
      have := hX2.sp i
      unfold upd; split
      ·
       next e => subst e; refine ⟨?_, this.2⟩; rw [if_pos (by omega), hsd]
      ·
       next e =>
       refine ⟨?_, this.2⟩
       rw [this.1]
       by_cases q : i < j
       ·
        rw [if_pos q, if_pos (by omega)]
       ·
        rw [if_neg q, if_neg (by omega)])
     have hX4 := hX3.setC hjx (k := 3) (by omega) s.q { upd G j { G j with sp := s.p } j with sq := s.q } rfl rfl (z9 (16 * x.kernel)) ⟨rfl, rfl, rfl, rfl, rfl, rfl, rfl⟩ (fun i => if i < j + 1 then (srcD x i).p else 0) (fun i => if i < j + 1 then (srcD x i).q else 0) (fun i => by
      have := hX3.gp i
      rw [upd]
      split
      ·
       next e => subst e; exact this
      ·
       exact this) (fun i => by
      have := hX3.sp i
      rw [upd]
      split
      ·
       next e => subst e; refine ⟨this.1, ?_⟩; rw [if_pos (by omega), hsd]
      ·
       next e =>
       refine ⟨this.1, ?_⟩
       rw [this.2]
       by_cases q : i < j
       ·
        rw [if_pos q, if_pos (by omega)]
       ·
        rw [if_neg q, if_neg (by omega)])
     have HX4 : Hid (∃ G', LX w x C N b1 b2 b5 (fun i => if i < j + 1 then (srcD x i).p else 0) (fun i => if i < j + 1 then (srcD x i).q else 0) (z9 (16 * x.kernel)) (fun _ => PP.z) G' ((w2.setCell ⟨b2, j * 5 + 2, none⟩ (.int .i64 s.p)).setCell ⟨b2, j * 5 + 3, none⟩ (.int .i64 s.q))) := ⟨_, hX4⟩
     obtain ⟨o2, ho2⟩ : ∃ o, (G j).sp = o := ⟨_, rfl⟩
     obtain ⟨o3, ho3⟩ : ∃ o, (G j).sq = o := ⟨_, rfl⟩
     obtain ⟨sp, hsp⟩ : ∃ o, s.p = o := ⟨_, rfl⟩
     obtain ⟨sq, hsq⟩ : ∃ o, s.q = o := ⟨_, rfl⟩
     rw [ho2] at g2
     rw [ho3] at g3
     rw [hsp, hsq] at HX4 ⊢
     have HJ : Hid (j < HH) := hlt
     clear hX1 hX2 hX3 hX4 hK2 hjx hsd hlt HX1 HSR q0 q1 q2 q3 q4 q5 q6 ho2 ho3 hsp hsq
     go_wp2
     go_roundw
     case rel =>
      obtain ⟨G', hX⟩ := HX4.out
      exact ⟨j + 1, G', by have := HJ.out; omega, by go_num, hX⟩
     case measure => have := HJ.out; simp [intOf]; omega
    ·
     obtain rfl : HH = j := by omega
     obtain ⟨A, hA⟩ : ∃ A, 16 * x.kernel = A := ⟨_, rfl⟩
     obtain ⟨SP, hSP⟩ : ∃ SP : Nat → Int, SP = (fun i => if i < HH then (srcD x i).p else 0) := ⟨_, rfl⟩
     obtain ⟨SQ, hSQ⟩ : ∃ SQ : Nat → Int, SQ = (fun i => if i < HH then (srcD x i).q else 0) := ⟨_, rfl⟩
     rw [← hSP, ← hSQ, hA] at hX
     have HPC : Hid (Calls _ _ _ _ _) := pieces_any x HB.out wr N hX.li.cin hX.one.nn
     obtain ⟨q0, q1, q2, q3, q4, q5, q6⟩ := hX.one.cells
     obtain ⟨LO, hLO⟩ : ∃ LO, wr.heap.size = LO := ⟨_, rfl⟩
     have HX1 : Hid (LX w x C N b1 b2 b5 SP SQ (z9 A) (fun _ => PP.z) G wr ∧ 16 * x.kernel = A ∧ SP = (fun i => if i < HH then (srcD x i).p else 0) ∧ SQ = (fun i => if i < HH then (srcD x i).q else 0) ∧ wr.heap.size = LO ∧ b1 < LO ∧ b2 < LO ∧ b5 < LO) := ⟨hX, hA, hSP, hSQ, hLO, by rw [← hLO]; exact hX.li.p.lt, by rw [← hLO]; exact hX.li.c.lt, by rw [← hLO]; exact hX.li.l.lt⟩
     clear hX hSP hSQ hj hlt HX0 hLO
     go_wp2_with fail
     refine HPC.out.mono ?_
     rintro e w4 ⟨u, rfl, hRow, hK4⟩
     obtain ⟨pcs, hpcs⟩ : ∃ pcs, pcAll x (16 * x.kernel) = pcs := ⟨_, rfl⟩
     have hpA := hpcs
     have hbd := pcAll_bd HB.out
     have hok := pcAll_ok x (16 * x.kernel)
     have hpl := pcAll_len HB.out (16 * x.kernel)
     rw [hpcs] at hRow hbd hok hpl
     rw [HX1.out.2.2.2.2.1] at hRow
     obtain ⟨ad, cp, hu, hlst⟩ := hRow.lst
     obtain ⟨NP, hNP⟩ : ∃ NP, pcs.length = NP := ⟨_, rfl⟩
     rw [hNP] at hu hpl
     subst hu
     have hcp : (NP : Int) ≤ cp ∧ (cp : Int) ≤ 9223372036854775807 := by have := hlst.len; unfold maxLen at this; omega
     have hX4 := HX1.out.1.grow hK4
     have HX4 : Hid (LX w x C N b1 b2 b5 SP SQ (z9 A) (fun _ => PP.z) G w4 ∧ Row ePc w4 LO (.slice ad NP cp) pcs ∧ pcAll x (16 * x.kernel) = pcs ∧ pcs.length = NP ∧ (∀ p ∈ pcs, 0 ≤ p.pos ∧ p.pos ≤ 1000000 ∧ 0 ≤ p.size ∧ p.size ≤ 1000000) ∧ (∀ p ∈ pcs, PcOk x.ps.length x.hs.length p.ow)) := ⟨hX4, hRow, hpA, hNP, hbd, hok⟩
     clear q0 q1 q2 q3 q4 q5 q6
     obtain ⟨q0, q1, q2, q3, q4, q5, q6⟩ := hX4.one.cells
     have wk : IntKind.i64.wrap (16 * x.kernel) = A := by rw [IntKind.wrap_i64, ← hA]; omega
     clear hRow hK4 hpA hbd hok hlst hNP hX4 HPC hpcs hA
     go_wp2
     clear q0 q1 q2 q3 q4 q5 q6 wk
     go_loopw [8, 10, 59] (fun ch en i wr => ∃ (j : Nat) (F : Nat → PP) (G : Nat → CP), j ≤ NP ∧ ch = .int .i64 ((((pcs.take j).foldl stp (z9 A)).ch : Nat) : Int) ∧ en = .int .i64 ((pcs.take j).foldl stp (z9 A)).en ∧ i = .int .i64 j ∧ LX w x C N b1 b2 b5 SP SQ ((pcs.take j).foldl stp (z9 A)) F G wr ∧ Row ePc wr LO (.slice ad NP cp) pcs ∧ (((pcs.take j).foldl stp (z9 A)).ch < HH ∨ HH = 0)) (fun _ _ i _ => NP - (intOf i).toNat)
     case atStart =>
      refine ⟨0, _, _, by omega, rfl, rfl, rfl, HX4.out.1, HX4.out.2.1, ?_⟩
      show 0 < HH ∨ HH = 0
      omega
     case round =>
      obtain ⟨j, F, G, hj, rfl, rfl, rfl, hX, hRow, hch⟩ := hrel
      obtain ⟨s, hs⟩ : ∃ s, (pcs.take j).foldl stp (z9 A) = s := ⟨_, rfl⟩
      rw [hs] at hX hch ⊢
      obtain ⟨CH, hCH⟩ : ∃ CH, s.ch = CH := ⟨_, rfl⟩
      obtain ⟨EN, hEN⟩ : ∃ EN, s.en = EN := ⟨_, rfl⟩
      rw [hCH] at hch ⊢
      rw [hEN]
      by_cases hlt : j < NP
      ·
       have hlt' : (j : Int) < NP := by omega
       obtain ⟨p, hp⟩ : ∃ p, pcs[j]? = some p := ⟨_, List.getElem?_eq_getElem (by have := HX4.out.2.2.2.1; omega)⟩
       have hpm := List.mem_of_getElem? hp
       have hbd := HX4.out.2.2.2.2.1 p hpm
       have hok := HX4.out.2.2.2.2.2 p hpm
       have hnx : (pcs.take (j + 1)).foldl stp (z9 A) = stp s p := by rw [List.take_add_one, hp, List.foldl_append, hs]; rfl
       have hlen := fold_len (pcs.take j) (z9 A)
       rw [hs] at hlen
       have hlen2 : ∀ i, (s.D i).length < 1000000 ∧ (s.T i).length < 1000000 := fun i => by
        have h1 := hlen i
        have h2 : (pcs.take j).length ≤ j := by rw [List.length_take]; omega
        have h3 : ((z9 A).D i).length = 0 := rfl
        have h4 : ((z9 A).T i).length = 0 := rfl
        omega
       obtain ⟨ad', cp', hu, hlst⟩ := hRow.lst
       have hu2 : ad = ad' ∧ cp = cp' := by simp at hu; exact ⟨hu.1, hu.2.2⟩
       obtain ⟨e1, e2⟩ := hu2
       subst e1 e2
       obtain ⟨g, o, rfl, hg⟩ := hlst.seg.at hp
       obtain ⟨pos, size, ⟨kind, idx, port⟩⟩ := p
       have p0 := hg 0 _ rfl
       have p1 := hg 1 _ rfl
       have p2 := hg 2 _ rfl
       have p3 := hg 3 _ rfl
       have p4 := hg 4 _ rfl
       simp only [ePc, Nat.add_zero] at p0 p1 p2 p3 p4
       dsimp only at hbd hok
       obtain ⟨W, hW⟩ : ∃ W, W = wr.alloc (.cells #[.int .i64 pos, .int .i64 size, .int .i64 kind, .int .i64 idx, .int .i64 port] 113) := ⟨_, rfl⟩
       obtain ⟨Q, hQ⟩ : ∃ Q, Q = wr.heap.size := ⟨_, rfl⟩
       have kW : KF wr W := by rw [hW]; exact (Keeps.refl _ _).alloc _
       have hQB : Blk W Q [.int .i64 pos, .int .i64 size, .int .i64 kind, .int .i64 idx, .int .i64 port] 113 := by rw [hW, hQ]; exact Blk.new _ _ _
       have hXW := hX.grow kW
       have hRW := hRow.kept kW fun _ h => h.elim
       have hQlt : b1 < Q ∧ b2 < Q ∧ b5 < Q := by rw [hQ]; exact ⟨hX.li.p.lt, hX.li.c.lt, hX.li.l.lt⟩
       have hQown : (∀ i, i < x.ps.length → ∀ k, (F i).tv.ownBlock = some k → k < Q) ∧ (∀ i, i < x.hs.length → ∀ k, (G i).dv.ownBlock = some k → k < Q) := by rw [hQ]; exact ⟨fun i hi k hk => (hX.li.tr i hi).1.lt k hk, fun i hi k hk => (hX.li.dr i hi).1.lt k hk⟩
       have wps : IntKind.i64.wrap (pos + size) = pos + size := by rw [IntKind.wrap_i64]; omega
       have l0 := hXW.li.l.cell (i := 0) rfl
       have fl0 := hXW.li.l.frozen 0
       have l1 : W.cell? ⟨b5, 1, none⟩ = some (.slice (some ⟨b1, 0, none⟩) PL PL) := by have := hXW.li.l.cell (i := 1) rfl; rw [HLEN.out.2] at this; exact this
       have l2 : W.cell? ⟨b5, 2, none⟩ = some (.slice (some ⟨b2, 0, none⟩) HH HH) := by have := hXW.li.l.cell (i := 2) rfl; rw [HLEN.out.1] at this; exact this
       have z0 := hQB.cell (i := 0) rfl
       have z1 := hQB.cell (i := 1) rfl
       have z2 := hQB.cell (i := 2) rfl
       have z3 := hQB.cell (i := 3) rfl
       have z4 := hQB.cell (i := 4) rfl
       have HJ : Hid (j < NP) := hlt
       have HXW : Hid (LX w x C N b1 b2 b5 SP SQ s F G W ∧ Row ePc W LO (.slice (some ⟨g, o, none⟩) NP cp) pcs ∧ Blk W Q [.int .i64 pos, .int .i64 size, .int .i64 kind, .int .i64 idx, .int .i64 port] 113 ∧ (b1 < Q ∧ b2 < Q ∧ b5 < Q) ∧ ((∀ i, i < x.ps.length → ∀ k, (F i).tv.ownBlock = some k → k < Q) ∧ (∀ i, i < x.hs.length → ∀ k, (G i).dv.ownBlock = some k → k < Q)) ∧ (pcs.take (j + 1)).foldl stp (z9 A) = stp s ⟨pos, size, ⟨kind, idx, port⟩⟩ ∧ s.ch = CH ∧ (CH < HH ∨ HH = 0) ∧ (∀ i, (s.D i).length < 1000000 ∧ (s.T i).length < 1000000) ∧ (0 ≤ pos ∧ pos ≤ 1000000)) := ⟨hXW, hRW, hQB, hQlt, hQown, hnx, hCH, hch, hlen2, hbd.1, hbd.2.1⟩
       clear hX hRow hch hp hpm hbd hnx hlen hlen2 hlst hg kW hQB hXW hRW hQlt hQown hj hlt hs hCH hEN hu
       go_upto_region 18 with fail
       rw [← hW, ← hQ]
       clear hW hQ p0 p1 p2 p3 p4
       rcases hok with e | ⟨n, hn, hidx, e | e | e | e⟩ | ⟨n, hn, hidx, e | e⟩ | ⟨e, hH0⟩
       ·
        dsimp only at e
        subst e
        have HR : Hid (LX w x C N b1 b2 b5 SP SQ ((pcs.take (j + 1)).foldl stp (z9 A)) F G (W.setCell ⟨b5, 0, none⟩ (.int .i64 pos)) ∧ Row ePc (W.setCell ⟨b5, 0, none⟩ (.int .i64 pos)) LO (.slice (some ⟨g, o, none⟩) NP cp) pcs ∧ ((pcs.take (j + 1)).foldl stp (z9 A)).ch = CH ∧ ((pcs.take (j + 1)).foldl stp (z9 A)).en = pos + size ∧ (CH < HH ∨ HH = 0)) := by
         obtain ⟨hX, hRw, hQB, hQl, hQo, hnx, hCH, hch, hln, hps⟩ := HXW.out
         have e9 : stp s ⟨pos, size, ⟨2, idx, port⟩⟩ = { s with bar := pos, en := pos + size } := by simp [stp]
         rw [hnx, e9]
         have kk : Keeps (fun k => k = b5) W (W.setCell ⟨b5, 0, none⟩ (.int .i64 pos)) := (Keeps.refl _ _).setCell _ _ fun _ => rfl
         have h8 := HX1.out.2.2.2.2.2
         exact ⟨((hX.setB pos).en (pos + size) s.ch), hRw.own_kept ePc_bl kk fun k hk e => (by have := hRw.low k hk; omega), hCH, rfl, hch⟩
        clear l1 l2 z4 HXW
        go_wp2
        go_roundw
        case rel => exact ⟨j + 1, F, G, by have := HJ.out; omega, by rw [HR.out.2.2.1], by rw [HR.out.2.2.2.1], by go_num, HR.out.1, HR.out.2.1, by rw [HR.out.2.2.1]; exact HR.out.2.2.2.2⟩
        case measure => have := HJ.out; simp [intOf]; omega
       ·
        dsimp only at e hidx
        subst e hidx
        have g0 : W.cell? ⟨b1, n * 5 + 0, none⟩ = some (.int .i64 (F n).lock) := HXW.out.1.li.p.cell (by rw [row5_get (fun i => PP.vs5 _) hn (by omega)]; rfl)
        have f0 := HXW.out.1.li.p.frozen (n * 5 + 0)
        have hnP : (n : Int) < PL := by have := HLEN.out.2; omega
        have HR : Hid (LX w x C N b1 b2 b5 SP SQ ((pcs.take (j + 1)).foldl stp (z9 A)) (upd F n { F n with lock := pos }) G (W.setCell ⟨b1, n * 5 + 0, none⟩ (.int .i64 pos)) ∧ Row ePc (W.setCell ⟨b1, n * 5 + 0, none⟩ (.int .i64 pos)) LO (.slice (some ⟨g, o, none⟩) NP cp) pcs ∧ ((pcs.take (j + 1)).foldl stp (z9 A)).ch = CH ∧ ((pcs.take (j + 1)).foldl stp (z9 A)).en = pos + size ∧ (CH < HH ∨ HH = 0)) := by
         obtain ⟨hX, hRw, hQB, hQl, hQo, hnx, hCH, hch, hln, hps⟩ := HXW.out
         have e9 : stp s ⟨pos, size, ⟨3, (n : Int), port⟩⟩ = { s with lo := upd s.lo n pos, en := pos + size } := by simp [stp]
         rw [hnx, e9]
         have kk : Keeps (fun k => k = b1) W (W.setCell ⟨b1, n * 5 + 0, none⟩ (.int .i64 pos)) := (Keeps.refl _ _).setCell _ _ fun _ => rfl
         have h8 := HX1.out.2.2.2.2.2
         refine ⟨hX.setP hn (k := 0) (by omega) pos { F n with lock := pos } rfl rfl { s with lo := upd s.lo n pos, en := pos + size } ⟨rfl, rfl, rfl, rfl, rfl⟩ (fun i => ?_), hRw.own_kept ePc_bl kk fun k hk e => (by have := hRw.low k hk; omega), hCH, rfl, hch⟩
         have := hX.fp i
         show (upd F n _ i).lock = upd s.lo n pos i ∧ (upd F n _ i).save = s.sa i ∧ (upd F n _ i).state = s.st i ∧ (upd F n _ i).root = s.rt i
         unfold upd
         split
         ·
          next e => subst e; exact ⟨rfl, this.2.1, this.2.2.1, this.2.2.2⟩
         ·
          exact this
        obtain ⟨ov, hov⟩ : ∃ v, (F n).lock = v := ⟨_, rfl⟩
        rw [hov] at g0
        rw [Nat.add_zero] at g0 f0 HR
        clear l0 fl0 l2 z4 HXW hov hn
        go_wp2
        go_roundw
        case rel => exact ⟨j + 1, _, G, by have := HJ.out; omega, by rw [HR.out.2.2.1], by rw [HR.out.2.2.2.1], by go_num, HR.out.1, HR.out.2.1, by rw [HR.out.2.2.1]; exact HR.out.2.2.2.2⟩
        case measure => have := HJ.out; simp [intOf]; omega
       ·
        dsimp only at e hidx
        subst e hidx
        have g0 : W.cell? ⟨b1, n * 5 + 1, none⟩ = some (.int .i64 (F n).save) := HXW.out.1.li.p.cell (by rw [row5_get (fun i => PP.vs5 _) hn (by omega)]; rfl)
        have f0 := HXW.out.1.li.p.frozen (n * 5 + 1)
        have hnP : (n : Int) < PL := by have := HLEN.out.2; omega
        have HR : Hid (LX w x C N b1 b2 b5 SP SQ ((pcs.take (j + 1)).foldl stp (z9 A)) (upd F n { F n with save := pos }) G (W.setCell ⟨b1, n * 5 + 1, none⟩ (.int .i64 pos)) ∧ Row ePc (W.setCell ⟨b1, n * 5 + 1, none⟩ (.int .i64 pos)) LO (.slice (some ⟨g, o, none⟩) NP cp) pcs ∧ ((pcs.take (j + 1)).foldl stp (z9 A)).ch = CH ∧ ((pcs.take (j + 1)).foldl stp (z9 A)).en = pos + size ∧ (CH < HH ∨ HH = 0)) := by
         obtain ⟨hX, hRw, hQB, hQl, hQo, hnx, hCH, hch, hln, hps⟩ := HXW.out
         have e9 : stp s ⟨pos, size, ⟨4, (n : Int), port⟩⟩ = { s with sa := upd s.sa n pos, en := pos + size } := by simp [stp]
         rw [hnx, e9]
         have kk : Keeps (fun k => k = b1) W (W.setCell ⟨b1, n * 5 + 1, none⟩ (.int .i64 pos)) := (Keeps.refl _ _).setCell _ _ fun _ => rfl
         have h8 := HX1.out.2.2.2.2.2
         refine ⟨hX.setP hn (k := 1) (by omega) pos { F n with save := pos } rfl rfl { s with sa := upd s.sa n pos, en := pos + size } ⟨rfl, rfl, rfl, rfl, rfl⟩ (fun i => ?_), hRw.own_kept ePc_bl kk fun k hk e => (by have := hRw.low k hk; omega), hCH, rfl, hch⟩
         have := hX.fp i
         show (upd F n _ i).lock = s.lo i ∧ (upd F n _ i).save = upd s.sa n pos i ∧ (upd F n _ i).state = s.st i ∧ (upd F n _ i).root = s.rt i
         unfold upd
         split
         ·
          next e => subst e; exact ⟨this.1, rfl, this.2.2.1, this.2.2.2⟩
         ·
          exact this
        obtain ⟨ov, hov⟩ : ∃ v, (F n).save = v := ⟨_, rfl⟩
        rw [hov] at g0
        skip
        clear l0 fl0 l2 z4 HXW hov hn
        go_wp2
        go_roundw
        case rel => exact ⟨j + 1, _, G, by have := HJ.out; omega, by rw [HR.out.2.2.1], by rw [HR.out.2.2.2.1], by go_num, HR.out.1, HR.out.2.1, by rw [HR.out.2.2.1]; exact HR.out.2.2.2.2⟩
        case measure => have := HJ.out; simp [intOf]; omega
       ·
        dsimp only at e hidx
        subst e hidx
        have g0 : W.cell? ⟨b1, n * 5 + 2, none⟩ = some (.int .i64 (F n).state) := HXW.out.1.li.p.cell (by rw [row5_get (fun i => PP.vs5 _) hn (by omega)]; rfl)
        have f0 := HXW.out.1.li.p.frozen (n * 5 + 2)
        have hnP : (n : Int) < PL := by have := HLEN.out.2; omega
        have HR : Hid (LX w x C N b1 b2 b5 SP SQ ((pcs.take (j + 1)).foldl stp (z9 A)) (upd F n { F n with state := pos }) G (W.setCell ⟨b1, n * 5 + 2, none⟩ (.int .i64 pos)) ∧ Row ePc (W.setCell ⟨b1, n * 5 + 2, none⟩ (.int .i64 pos)) LO (.slice (some ⟨g, o, none⟩) NP cp) pcs ∧ ((pcs.take (j + 1)).foldl stp (z9 A)).ch = CH ∧ ((pcs.take (j + 1)).foldl stp (z9 A)).en = pos + size ∧ (CH < HH ∨ HH = 0)) := by
         obtain ⟨hX, hRw, hQB, hQl, hQo, hnx, hCH, hch, hln, hps⟩ := HXW.out
         have e9 : stp s ⟨pos, size, ⟨5, (n : Int), port⟩⟩ = { s with st := upd s.st n pos, en := pos + size } := by simp [stp]
         rw [hnx, e9]
         have kk : Keeps (fun k => k = b1) W (W.setCell ⟨b1, n * 5 + 2, none⟩ (.int .i64 pos)) := (Keeps.refl _ _).setCell _ _ fun _ => rfl
         have h8 := HX1.out.2.2.2.2.2
         refine ⟨hX.setP hn (k := 2) (by omega) pos { F n with state := pos } rfl rfl { s with st := upd s.st n pos, en := pos + size } ⟨rfl, rfl, rfl, rfl, rfl⟩ (fun i => ?_), hRw.own_kept ePc_bl kk fun k hk e => (by have := hRw.low k hk; omega), hCH, rfl, hch⟩
         have := hX.fp i
         show (upd F n _ i).lock = s.lo i ∧ (upd F n _ i).save = s.sa i ∧ (upd F n _ i).state = upd s.st n pos i ∧ (upd F n _ i).root = s.rt i
         unfold upd
         split
         ·
          next e => subst e; exact ⟨this.1, this.2.1, rfl, this.2.2.2⟩
         ·
          exact this
        obtain ⟨ov, hov⟩ : ∃ v, (F n).state = v := ⟨_, rfl⟩
        rw [hov] at g0
        skip
        clear l0 fl0 l2 z4 HXW hov hn
        go_wp2
        go_roundw
        case rel => exact ⟨j + 1, _, G, by have := HJ.out; omega, by rw [HR.out.2.2.1], by rw [HR.out.2.2.2.1], by go_num, HR.out.1, HR.out.2.1, by rw [HR.out.2.2.1]; exact HR.out.2.2.2.2⟩
        case measure => have := HJ.out; simp [intOf]; omega
       ·
        dsimp only at e hidx
        subst e hidx
        have g3 : W.cell? ⟨b1, n * 5 + 3, none⟩ = some (.int .i64 (F n).root) := HXW.out.1.li.p.cell (by rw [row5_get (fun i => PP.vs5 _) hn (by omega)]; rfl)
        have f3 := HXW.out.1.li.p.frozen (n * 5 + 3)
        have hnP : (n : Int) < PL := by have := HLEN.out.2; omega
        obtain ⟨ov, hov⟩ : ∃ v, (F n).root = v := ⟨_, rfl⟩
        rw [hov] at g3
        obtain ⟨pq, hpq⟩ : ∃ pq, pos / 16 = pq := ⟨_, rfl⟩
        have hq1 : pos.tdiv 16 = pq := by rw [Int.tdiv_eq_ediv_of_nonneg HXW.out.2.2.2.2.2.2.2.2.2.1]; exact hpq
        have hq2 : IntKind.i64.wrap pq = pq := by have := HXW.out.2.2.2.2.2.2.2.2.2; rw [IntKind.wrap_i64]; omega
        by_cases hz : ov = 0
        ·
         subst hz
         have HR : Hid (LX w x C N b1 b2 b5 SP SQ ((pcs.take (j + 1)).foldl stp (z9 A)) (upd F n { F n with root := pq }) G (W.setCell ⟨b1, n * 5 + 3, none⟩ (.int .i64 pq)) ∧ Row ePc (W.setCell ⟨b1, n * 5 + 3, none⟩ (.int .i64 pq)) LO (.slice (some ⟨g, o, none⟩) NP cp) pcs ∧ ((pcs.take (j + 1)).foldl stp (z9 A)).ch = CH ∧ ((pcs.take (j + 1)).foldl stp (z9 A)).en = pos + size ∧ (CH < HH ∨ HH = 0)) := by
          obtain ⟨hX, hRw, hQB, hQl, hQo, hnx, hCH, hch, hln, hps⟩ := HXW.out
          have hrt : s.rt n = 0 := by rw [← (hX.fp n).2.2.2]; exact hov
          have e9 : stp s ⟨pos, size, ⟨9, (n : Int), port⟩⟩ = { s with rt := upd s.rt n pq, en := pos + size } := by simp [stp, hrt, hpq]
          rw [hnx, e9]
          have kk : Keeps (fun k => k = b1) W (W.setCell ⟨b1, n * 5 + 3, none⟩ (.int .i64 pq)) := (Keeps.refl _ _).setCell _ _ fun _ => rfl
          have h8 := HX1.out.2.2.2.2.2
          refine ⟨hX.setP hn (k := 3) (by omega) pq { F n with root := pq } rfl rfl { s with rt := upd s.rt n pq, en := pos + size } ⟨rfl, rfl, rfl, rfl, rfl⟩ (fun i => ?_), hRw.own_kept ePc_bl kk fun k hk e => (by have := hRw.low k hk; omega), hCH, rfl, hch⟩
          have := hX.fp i
          show (upd F n _ i).lock = s.lo i ∧ (upd F n _ i).save = s.sa i ∧ (upd F n _ i).state = s.st i ∧ (upd F n _ i).root = upd s.rt n pq i
          unfold upd
          split
          ·
           next e => subst e; exact ⟨this.1, this.2.1, this.2.2.1, rfl⟩
          ·
           exact this
         clear l0 fl0 l2 z4 HXW hov hn hpq
         go_wp2
         go_roundw
         case rel => exact ⟨j + 1, _, G, by have := HJ.out; omega, by rw [HR.out.2.2.1], by rw [HR.out.2.2.2.1], by go_num, HR.out.1, HR.out.2.1, by rw [HR.out.2.2.1]; exact HR.out.2.2.2.2⟩
         case measure => have := HJ.out; simp [intOf]; omega
        ·
         have hz9 : (ov == 0) = false := beq_eq_false_iff_ne.2 hz
         obtain ⟨hX, hRw, hQB, hQl, hQo, hnx, hCH, hch, hln, hps⟩ := HXW.out
         have hrt : s.rt n ≠ 0 := by rw [← (hX.fp n).2.2.2, hov]; exact hz
         have kd : KF W W.drew := (Keeps.refl _ _).drew
         have hXd := hX.grow kd
         obtain ⟨la, lc, hdv, hdl⟩ := (hXd.li.tr n hn).1.lst
         obtain ⟨LL, hLL⟩ : ∃ LL, (s.T n).length = LL := ⟨_, rfl⟩
         rw [hLL] at hdv
         obtain ⟨v9, W9, hrun, hk9, ⟨a9, c9, hv9⟩, hc9, hf9, hX9⟩ := hXd.appT hn pq (hln n).2
         rw [hLL] at hv9
         obtain ⟨L9, hL9⟩ : ∃ L9, L9 = LL + 1 := ⟨_, rfl⟩
         rw [← hL9] at hv9
         subst hv9
         have hLd := hln n
         rw [hdv] at hc9
         rw [hdv] at hrun
         have hown : ∀ k, some k = (F n).tv.ownBlock → k ≠ b1 ∧ k ≠ b2 ∧ k ≠ b5 ∧ k < Q := fun k e => by
          have h1 := (hX.li.tr n hn).2 k e.symm
          exact ⟨h1.1, h1.2.1, h1.2.2, hQo.1 n hn k e.symm⟩
         have ks : Keeps (fun k => k = b1) W9 (W9.setCell ⟨b1, n * 5 + 4, none⟩ (.slice a9 L9 c9)) := (Keeps.refl _ _).setCell _ _ fun _ => rfl
         have hQd := hQB.kept kd fun h => h
         have hlA : ∀ W2, Blk W2 b5 [.int .i64 s.bar, .slice (some ⟨b1, 0, none⟩) x.ps.length x.ps.length, .slice (some ⟨b2, 0, none⟩) x.hs.length x.hs.length, .int .i64 0] 92 → Blk W2 Q [.int .i64 pos, .int .i64 size, .int .i64 9, .int .i64 n, .int .i64 port] 113 → W2.cell? ⟨b5, 1, none⟩ = some (.slice (some ⟨b1, 0, none⟩) PL PL) ∧ W2.cell? ⟨Q, 0, none⟩ = some (.int .i64 pos) ∧ True ∧ True := fun W2 h1 h2 => by
          have := h1.cell (i := 1) rfl
          rw [HLEN.out.2] at this
          exact ⟨this, h2.cell (i := 0) rfl, trivial, trivial⟩
         have hal : KF W.drew (W.drew.alloc (.cells #[.int .i64 pq] 3)) := (Keeps.refl _ _).alloc _
         have hl9 := hXd.li.l.kept hk9 fun e => (hown _ e).2.2.1 rfl
         have hQ9 := hQd.kept hk9 fun e => by have := (hown _ e).2.2.2; omega
         have HSS : Hid ((W.drew.cell? ⟨b5, 1, none⟩ = some (.slice (some ⟨b1, 0, none⟩) PL PL) ∧ W.drew.cell? ⟨Q, 0, none⟩ = some (.int .i64 pos) ∧ True ∧ True) ∧ ((W.drew.alloc (.cells #[.int .i64 pq] 3)).cell? ⟨b5, 1, none⟩ = some (.slice (some ⟨b1, 0, none⟩) PL PL) ∧ (W.drew.alloc (.cells #[.int .i64 pq] 3)).cell? ⟨Q, 0, none⟩ = some (.int .i64 pos) ∧ True ∧ True) ∧ (W9.cell? ⟨b5, 1, none⟩ = some (.slice (some ⟨b1, 0, none⟩) PL PL) ∧ W9.cell? ⟨Q, 0, none⟩ = some (.int .i64 pos) ∧ True ∧ True) ∧ ((W9.setCell ⟨b1, n * 5 + 4, none⟩ (.slice a9 L9 c9)).cell? ⟨b5, 1, none⟩ = some (.slice (some ⟨b1, 0, none⟩) PL PL) ∧ (W9.setCell ⟨b1, n * 5 + 4, none⟩ (.slice a9 L9 c9)).cell? ⟨Q, 0, none⟩ = some (.int .i64 pos) ∧ True ∧ True)) :=
          ⟨hlA _ hXd.li.l hQd, hlA _ (hXd.li.l.kept hal fun h => h) (hQd.kept hal fun h => h), hlA _ hl9 hQ9, hlA _ (hl9.kept ks hX.li.ne.2.1) (hQ9.kept ks (by omega))⟩
         have hb4 : Blk W.drew b1 (row5 (fun i => (F i).vs) x.ps.length) 116 := hXd.li.p
         have hRD : W.drew.cell? ⟨b1, n * 5 + 4, none⟩ = some (.slice la LL lc) := hb4.cell (by rw [row5_get (fun i => PP.vs5 _) hn (by omega), ← hdv]; rfl)
         have hRA : (W.drew.alloc (.cells #[.int .i64 pq] 3)).cell? ⟨b1, n * 5 + 4, none⟩ = some (.slice la LL lc) := (hb4.kept hal fun h => h).cell (by rw [row5_get (fun i => PP.vs5 _) hn (by omega), ← hdv]; rfl)
         have e9 : stp s ⟨pos, size, ⟨9, (n : Int), port⟩⟩ = { s with T := upd s.T n (s.T n ++ [pq]), en := pos + size } := by simp [stp, hrt, hpq]
         have HR : Hid (LX w x C N b1 b2 b5 SP SQ ((pcs.take (j + 1)).foldl stp (z9 A)) (upd F n { F n with tv := .slice a9 L9 c9 }) G (W9.setCell ⟨b1, n * 5 + 4, none⟩ (.slice a9 L9 c9)) ∧ Row ePc (W9.setCell ⟨b1, n * 5 + 4, none⟩ (.slice a9 L9 c9)) LO (.slice (some ⟨g, o, none⟩) NP cp) pcs ∧ ((pcs.take (j + 1)).foldl stp (z9 A)).ch = CH ∧ ((pcs.take (j + 1)).foldl stp (z9 A)).en = pos + size ∧ (CH < HH ∨ HH = 0)) := by
          rw [hnx, e9]
          have h8 := HX1.out.2.2.2.2.2
          refine ⟨hX9.en (pos + size) s.ch, ((hRw.kept kd fun _ h => h.elim).own_kept ePc_bl hk9 fun k hk e => ?_).own_kept ePc_bl ks fun k hk e => (by have := hRw.low k hk; omega), hCH, rfl, hch⟩
          exact Row.ne hRw (hX.li.tr n hn).1 (by decide) k hk e.symm
         have hcb : (LL : Int) < 1000000 := by have := hln n; omega
         clear l0 fl0 l2 z4 HXW hov hn hpq hX hRw hQB hQl hQo hnx hCH hch hln hps kd hXd hdv hdl hLL hk9 hX9 hL9 hown ks hQd hlA hal hl9 hQ9 hb4 e9 hrt hLd
         go_wp2
         refine wp_region_held_drew (S := (fun w' => w'.cell? ⟨b5, 1, none⟩ = some (.slice (some ⟨b1, 0, none⟩) PL PL) ∧ w'.cell? ⟨Q, 0, none⟩ = some (.int .i64 pos) ∧ True ∧ True)) Tryz.mixed HSS.out.1 (fun hHeld => ?_)
         simp only [t1, t2, List.length_nil, Nat.reduceAdd, t4, Array.replicate_zero, t6, List.append_toArray, List.nil_append, t8]
         refine tk 0 (.pointer (some ⟨b5, 1, none⟩)) (hr := by (intro w hSw; (try dsimp only at hSw); obtain ⟨hSw1, hSw2, hSw3, hSw4⟩ := hSw; go_simp)) hHeld ?_
         refine tk 1 (.slice (some ⟨b1, 0, none⟩) PL PL) (hr := by (intro w hSw; (try dsimp only at hSw); obtain ⟨hSw1, hSw2, hSw3, hSw4⟩ := hSw; go_simp)) hHeld ?_
         refine tk 2 (.int .i64 (n : Nat)) (hr := by (intro w hSw; (try dsimp only at hSw); obtain ⟨hSw1, hSw2, hSw3, hSw4⟩ := hSw; go_simp)) hHeld ?_
         refine tk 3 (.pointer (some ⟨b5, 1, none⟩)) (hr := by (intro w hSw; (try dsimp only at hSw); obtain ⟨hSw1, hSw2, hSw3, hSw4⟩ := hSw; go_simp)) hHeld ?_
         refine tk 4 (.slice (some ⟨b1, 0, none⟩) PL PL) (hr := by (intro w hSw; (try dsimp only at hSw); obtain ⟨hSw1, hSw2, hSw3, hSw4⟩ := hSw; go_simp)) hHeld ?_
         refine tk 5 (.int .i64 (n : Nat)) (hr := by (intro w hSw; (try dsimp only at hSw); obtain ⟨hSw1, hSw2, hSw3, hSw4⟩ := hSw; go_simp)) hHeld ?_
         refine tk 6 (.pointer (some ⟨b1, n * 5, none⟩)) (hr := by (intro w hSw; (try dsimp only at hSw); obtain ⟨hSw1, hSw2, hSw3, hSw4⟩ := hSw; go_simp)) hHeld ?_
         refine tk 7 (.pointer (some ⟨b1, n * 5 + 4, none⟩)) (hr := by (intro w hSw; (try dsimp only at hSw); obtain ⟨hSw1, hSw2, hSw3, hSw4⟩ := hSw; go_simp)) hHeld ?_
         refine tk 9 (.pointer (some ⟨Q, 0, none⟩)) (hr := by (intro w hSw; (try dsimp only at hSw); obtain ⟨hSw1, hSw2, hSw3, hSw4⟩ := hSw; go_simp)) hHeld ?_
         refine tk 10 (.int .i64 pos) (hr := by (intro w hSw; (try dsimp only at hSw); obtain ⟨hSw1, hSw2, hSw3, hSw4⟩ := hSw; go_simp)) hHeld ?_
         refine tk 11 (.int .i64 pq) (hr := by (intro w hSw; (try dsimp only at hSw); obtain ⟨hSw1, hSw2, hSw3, hSw4⟩ := hSw; go_simp)) hHeld ?_
         simp only [Act.put, s1, s2, s3]
         refine wpAnyH_ready (rs := [8, 12]) (by kernel_rfl) (by simp) ?_
         refine AllReadyH.cons (o := ⟨some 175, .load 114 (.tmp 174), 114, "ref.go:220", #[⟨7, .data⟩], none⟩) rfl (fun K hK => ?_) (AllReadyH.cons (o := ⟨some 179, .buildSlice 114 1 #[(0, .tmp 178)], 114, "ref.go:220", #[⟨11, .data⟩], none⟩) rfl (fun K hK => ?_) AllReadyH.nil)
         ·
          go_simp
          refine hK.out _ _ HSS.out.1 (fun hHeld => ?_)
          simp only [Act.put, s1, s2, s3]
          refine rd 12 fun K hK => ?_
          go_simp
          refine hK.out _ _ HSS.out.2.1 (fun hHeld => ?_)
          simp only [Act.put, s1, s2, s3]
          refine rd 13 fun K hK => ?_
          rw [if_pos (by kernel_rfl)]
          refine opAppend_run _ _ 114 114 rfl (.slice la LL lc) (.slice (some ⟨W.heap.size, 0, none⟩) 1 1) (.slice a9 L9 c9) W9 rfl rfl (hrun _) ?_
          refine hK.out _ _ HSS.out.2.2.1 (fun hHeld => ?_)
          simp only [Act.put, s1, s2, s3]
          refine tk 14 (.pointer (some ⟨b1, n * 5, none⟩)) (hr := by (intro w hSw; (try dsimp only at hSw); obtain ⟨hSw1, hSw2, hSw3, hSw4⟩ := hSw; go_simp)) hHeld ?_
          refine tk 15 (.pointer (some ⟨b1, n * 5 + 4, none⟩)) (hr := by (intro w hSw; (try dsimp only at hSw); obtain ⟨hSw1, hSw2, hSw3, hSw4⟩ := hSw; go_simp)) hHeld ?_
          simp only [Act.put, s1, s2, s3]
          refine rd 16 fun K hK => ?_
          go_simp
          refine hK.out _ _ HSS.out.2.2.2 (fun hHeld => ?_)
          simp only [Act.put, s1, s2, s3]
          refine wpAnyH_done (by kernel_rfl) ?_ _
          clear hHeld
          go_wp2
          go_roundw
          case rel => exact ⟨j + 1, _, G, by have := HJ.out; omega, by rw [HR.out.2.2.1], by rw [HR.out.2.2.2.1], by go_num, HR.out.1, HR.out.2.1, by rw [HR.out.2.2.1]; exact HR.out.2.2.2.2⟩
          case measure => have := HJ.out; simp [intOf]; omega
         ·
          go_simp
          refine hK.out _ _ HSS.out.2.1 (fun hHeld => ?_)
          simp only [Act.put, s1, s2, s3]
          refine rd 8 fun K hK => ?_
          have hS6b : (W.alloc (.cells #[.int .i64 pq] 3)).cell? ⟨b1, n * 5 + 4, none⟩ = some (.slice la LL lc) := hRA
          go_simp
          refine hK.out _ _ HSS.out.2.1 (fun hHeld => ?_)
          simp only [Act.put, s1, s2, s3]
          clear hS6b
          refine rd 13 fun K hK => ?_
          rw [if_pos (by kernel_rfl)]
          refine opAppend_run _ _ 114 114 rfl (.slice la LL lc) (.slice (some ⟨W.heap.size, 0, none⟩) 1 1) (.slice a9 L9 c9) W9 rfl rfl (hrun _) ?_
          refine hK.out _ _ HSS.out.2.2.1 (fun hHeld => ?_)
          simp only [Act.put, s1, s2, s3]
          refine tk 14 (.pointer (some ⟨b1, n * 5, none⟩)) (hr := by (intro w hSw; (try dsimp only at hSw); obtain ⟨hSw1, hSw2, hSw3, hSw4⟩ := hSw; go_simp)) hHeld ?_
          refine tk 15 (.pointer (some ⟨b1, n * 5 + 4, none⟩)) (hr := by (intro w hSw; (try dsimp only at hSw); obtain ⟨hSw1, hSw2, hSw3, hSw4⟩ := hSw; go_simp)) hHeld ?_
          simp only [Act.put, s1, s2, s3]
          refine rd 16 fun K hK => ?_
          go_simp
          refine hK.out _ _ HSS.out.2.2.2 (fun hHeld => ?_)
          simp only [Act.put, s1, s2, s3]
          refine wpAnyH_done (by kernel_rfl) ?_ _
          clear hHeld
          go_wp2
          go_roundw
          case rel => exact ⟨j + 1, _, G, by have := HJ.out; omega, by rw [HR.out.2.2.1], by rw [HR.out.2.2.2.1], by go_num, HR.out.1, HR.out.2.1, by rw [HR.out.2.2.1]; exact HR.out.2.2.2.2⟩
          case measure => have := HJ.out; simp [intOf]; omega
       ·
        dsimp only at e hidx
        subst e hidx
        have g0 : W.cell? ⟨b2, n * 5 + 0, none⟩ = some (.int .i64 (G n).lock) := HXW.out.1.li.c.cell (by rw [row5_get (fun i => CP.vs5 _) hn (by omega)]; rfl)
        have f0 := HXW.out.1.li.c.frozen (n * 5 + 0)
        have hnP : (n : Int) < HH := by have := HLEN.out.1; omega
        have HR : Hid (LX w x C N b1 b2 b5 SP SQ ((pcs.take (j + 1)).foldl stp (z9 A)) F (upd G n { G n with lock := pos }) (W.setCell ⟨b2, n * 5 + 0, none⟩ (.int .i64 pos)) ∧ Row ePc (W.setCell ⟨b2, n * 5 + 0, none⟩ (.int .i64 pos)) LO (.slice (some ⟨g, o, none⟩) NP cp) pcs ∧ ((pcs.take (j + 1)).foldl stp (z9 A)).ch = n ∧ ((pcs.take (j + 1)).foldl stp (z9 A)).en = pos + size ∧ (n < HH ∨ HH = 0)) := by
         obtain ⟨hX, hRw, hQB, hQl, hQo, hnx, hCH, hch, hln, hps⟩ := HXW.out
         have e9 : stp s ⟨pos, size, ⟨6, (n : Int), port⟩⟩ = { s with cl := upd s.cl n pos, ch := n, en := pos + size } := by simp [stp]
         rw [hnx, e9]
         have kk : Keeps (fun k => k = b2) W (W.setCell ⟨b2, n * 5 + 0, none⟩ (.int .i64 pos)) := (Keeps.refl _ _).setCell _ _ fun _ => rfl
         have h8 := HX1.out.2.2.2.2.2
         have h9 := HLEN.out.1
         refine ⟨hX.setC hn (k := 0) (by omega) pos { G n with lock := pos } rfl rfl { s with cl := upd s.cl n pos, ch := n, en := pos + size } ⟨rfl, rfl, rfl, rfl, rfl, rfl, rfl⟩ SP SQ (fun i => ?_) (fun i => ?_), hRw.own_kept ePc_bl kk fun k hk e => (by have := hRw.low k hk; omega), rfl, rfl, .inl (by omega)⟩
         ·
          have := hX.gp i
          show (upd G n _ i).lock = upd s.cl n pos i ∧ (upd G n _ i).stage = s.cs i
          unfold upd
          split
          ·
           next e => subst e; exact ⟨rfl, this.2⟩
          ·
           exact this
         ·
          have := hX.sp i
          unfold upd
          split
          ·
           next e => subst e; exact this
          ·
           exact this
        obtain ⟨ov, hov⟩ : ∃ v, (G n).lock = v := ⟨_, rfl⟩
        rw [hov] at g0
        rw [Nat.add_zero] at g0 f0 HR
        clear l0 fl0 l1 z4 HXW hov hn
        go_wp2
        go_roundw
        case rel => exact ⟨j + 1, F, _, by have := HJ.out; omega, by rw [HR.out.2.2.1], by rw [HR.out.2.2.2.1], by go_num, HR.out.1, HR.out.2.1, by rw [HR.out.2.2.1]; exact HR.out.2.2.2.2⟩
        case measure => have := HJ.out; simp [intOf]; omega
       ·
        dsimp only at e hidx
        subst e hidx
        have g0 : W.cell? ⟨b2, n * 5 + 1, none⟩ = some (.int .i64 (G n).stage) := HXW.out.1.li.c.cell (by rw [row5_get (fun i => CP.vs5 _) hn (by omega)]; rfl)
        have f0 := HXW.out.1.li.c.frozen (n * 5 + 1)
        have hnP : (n : Int) < HH := by have := HLEN.out.1; omega
        have HR : Hid (LX w x C N b1 b2 b5 SP SQ ((pcs.take (j + 1)).foldl stp (z9 A)) F (upd G n { G n with stage := pos }) (W.setCell ⟨b2, n * 5 + 1, none⟩ (.int .i64 pos)) ∧ Row ePc (W.setCell ⟨b2, n * 5 + 1, none⟩ (.int .i64 pos)) LO (.slice (some ⟨g, o, none⟩) NP cp) pcs ∧ ((pcs.take (j + 1)).foldl stp (z9 A)).ch = CH ∧ ((pcs.take (j + 1)).foldl stp (z9 A)).en = pos + size ∧ (CH < HH ∨ HH = 0)) := by
         obtain ⟨hX, hRw, hQB, hQl, hQo, hnx, hCH, hch, hln, hps⟩ := HXW.out
         have e9 : stp s ⟨pos, size, ⟨7, (n : Int), port⟩⟩ = { s with cs := upd s.cs n pos, en := pos + size } := by simp [stp]
         rw [hnx, e9]
         have kk : Keeps (fun k => k = b2) W (W.setCell ⟨b2, n * 5 + 1, none⟩ (.int .i64 pos)) := (Keeps.refl _ _).setCell _ _ fun _ => rfl
         have h8 := HX1.out.2.2.2.2.2
         have h9 := HLEN.out.1
         refine ⟨hX.setC hn (k := 1) (by omega) pos { G n with stage := pos } rfl rfl { s with cs := upd s.cs n pos, en := pos + size } ⟨rfl, rfl, rfl, rfl, rfl, rfl, rfl⟩ SP SQ (fun i => ?_) (fun i => ?_), hRw.own_kept ePc_bl kk fun k hk e => (by have := hRw.low k hk; omega), hCH, rfl, hch⟩
         ·
          have := hX.gp i
          show (upd G n _ i).lock = s.cl i ∧ (upd G n _ i).stage = upd s.cs n pos i
          unfold upd
          split
          ·
           next e => subst e; exact ⟨this.1, rfl⟩
          ·
           exact this
         ·
          have := hX.sp i
          unfold upd
          split
          ·
           next e => subst e; exact this
          ·
           exact this
        obtain ⟨ov, hov⟩ : ∃ v, (G n).stage = v := ⟨_, rfl⟩
        rw [hov] at g0
        skip
        clear l0 fl0 l1 z4 HXW hov hn
        go_wp2
        go_roundw
        case rel => exact ⟨j + 1, F, _, by have := HJ.out; omega, by rw [HR.out.2.2.1], by rw [HR.out.2.2.2.1], by go_num, HR.out.1, HR.out.2.1, by rw [HR.out.2.2.1]; exact HR.out.2.2.2.2⟩
        case measure => have := HJ.out; simp [intOf]; omega
       ·
        dsimp only at e
        subst e
        obtain ⟨hX, hRw, hQB, hQl, hQo, hnx, hCH, hch, hln, hps⟩ := HXW.out
        obtain ⟨n, hnCH⟩ : ∃ n, n = CH := ⟨_, rfl⟩
        subst hnCH
        have hn : n < x.hs.length := by have := HLEN.out.1; omega
        have hnP : (n : Int) < HH := by have := HLEN.out.1; omega
        have kd : KF W W.drew := (Keeps.refl _ _).drew
        have hXd := hX.grow kd
        obtain ⟨la, lc, hdv, hdl⟩ := (hXd.li.dr n hn).1.lst
        obtain ⟨LL, hLL⟩ : ∃ LL, (s.D n).length = LL := ⟨_, rfl⟩
        rw [hLL] at hdv
        obtain ⟨v9, W9, hrun, hk9, ⟨a9, c9, hv9⟩, hc9, hf9, hX9⟩ := hXd.appD hn ⟨idx, port, pos⟩ (hln n).1
        rw [hLL] at hv9
        obtain ⟨L9, hL9⟩ : ∃ L9, L9 = LL + 1 := ⟨_, rfl⟩
        rw [← hL9] at hv9
        subst hv9
        have hLd := hln n
        rw [hdv] at hc9
        rw [hdv] at hrun
        have hown : ∀ k, some k = (G n).dv.ownBlock → k ≠ b1 ∧ k ≠ b2 ∧ k ≠ b5 ∧ k < Q := fun k e => by
         have h1 := (hX.li.dr n hn).2 k e.symm
         exact ⟨h1.1, h1.2.1, h1.2.2, hQo.2 n hn k e.symm⟩
        have ks : Keeps (fun k => k = b2) W9 (W9.setCell ⟨b2, n * 5 + 4, none⟩ (.slice a9 L9 c9)) := (Keeps.refl _ _).setCell _ _ fun _ => rfl
        have hQd := hQB.kept kd fun h => h
        have hlA : ∀ W2, Blk W2 b5 [.int .i64 s.bar, .slice (some ⟨b1, 0, none⟩) x.ps.length x.ps.length, .slice (some ⟨b2, 0, none⟩) x.hs.length x.hs.length, .int .i64 0] 92 → Blk W2 Q [.int .i64 pos, .int .i64 size, .int .i64 8, .int .i64 idx, .int .i64 port] 113 → W2.cell? ⟨b5, 2, none⟩ = some (.slice (some ⟨b2, 0, none⟩) HH HH) ∧ W2.cell? ⟨Q, 4, none⟩ = some (.int .i64 port) ∧ W2.cell? ⟨Q, 0, none⟩ = some (.int .i64 pos) ∧ True := fun W2 h1 h2 => by
         have := h1.cell (i := 2) rfl
         rw [HLEN.out.1] at this
         exact ⟨this, h2.cell (i := 4) rfl, h2.cell (i := 0) rfl, trivial⟩
        have hal : KF W.drew (W.drew.alloc (.cells #[.int .i64 idx, .int .i64 port, .int .i64 pos] 118)) := (Keeps.refl _ _).alloc _
        have hl9 := hXd.li.l.kept hk9 fun e => (hown _ e).2.2.1 rfl
        have hQ9 := hQd.kept hk9 fun e => by have := (hown _ e).2.2.2; omega
        have HSS : Hid ((W.drew.cell? ⟨b5, 2, none⟩ = some (.slice (some ⟨b2, 0, none⟩) HH HH) ∧ W.drew.cell? ⟨Q, 4, none⟩ = some (.int .i64 port) ∧ W.drew.cell? ⟨Q, 0, none⟩ = some (.int .i64 pos) ∧ True) ∧ ((W.drew.alloc (.cells #[.int .i64 idx, .int .i64 port, .int .i64 pos] 118)).cell? ⟨b5, 2, none⟩ = some (.slice (some ⟨b2, 0, none⟩) HH HH) ∧ (W.drew.alloc (.cells #[.int .i64 idx, .int .i64 port, .int .i64 pos] 118)).cell? ⟨Q, 4, none⟩ = some (.int .i64 port) ∧ (W.drew.alloc (.cells #[.int .i64 idx, .int .i64 port, .int .i64 pos] 118)).cell? ⟨Q, 0, none⟩ = some (.int .i64 pos) ∧ True) ∧ (W9.cell? ⟨b5, 2, none⟩ = some (.slice (some ⟨b2, 0, none⟩) HH HH) ∧ W9.cell? ⟨Q, 4, none⟩ = some (.int .i64 port) ∧ W9.cell? ⟨Q, 0, none⟩ = some (.int .i64 pos) ∧ True) ∧ ((W9.setCell ⟨b2, n * 5 + 4, none⟩ (.slice a9 L9 c9)).cell? ⟨b5, 2, none⟩ = some (.slice (some ⟨b2, 0, none⟩) HH HH) ∧ (W9.setCell ⟨b2, n * 5 + 4, none⟩ (.slice a9 L9 c9)).cell? ⟨Q, 4, none⟩ = some (.int .i64 port) ∧ (W9.setCell ⟨b2, n * 5 + 4, none⟩ (.slice a9 L9 c9)).cell? ⟨Q, 0, none⟩ = some (.int .i64 pos) ∧ True)) :=
         ⟨hlA _ hXd.li.l hQd, hlA _ (hXd.li.l.kept hal fun h => h) (hQd.kept hal fun h => h), hlA _ hl9 hQ9, hlA _ (hl9.kept ks hX.li.ne.2.2) (hQ9.kept ks (by omega))⟩
        have hb4 : Blk W.drew b2 (row5 (fun i => (G i).vs) x.hs.length) 107 := hXd.li.c
        have hRD : W.drew.cell? ⟨b2, n * 5 + 4, none⟩ = some (.slice la LL lc) := hb4.cell (by rw [row5_get (fun i => CP.vs5 _) hn (by omega), ← hdv]; rfl)
        have hRA : (W.drew.alloc (.cells #[.int .i64 idx, .int .i64 port, .int .i64 pos] 118)).cell? ⟨b2, n * 5 + 4, none⟩ = some (.slice la LL lc) := (hb4.kept hal fun h => h).cell (by rw [row5_get (fun i => CP.vs5 _) hn (by omega), ← hdv]; rfl)
        have e9 : stp s ⟨pos, size, ⟨8, idx, port⟩⟩ = { s with D := upd s.D n (s.D n ++ [⟨idx, port, pos⟩]), en := pos + size } := by simp [stp, hCH]
        have HR : Hid (LX w x C N b1 b2 b5 SP SQ ((pcs.take (j + 1)).foldl stp (z9 A)) F (upd G n { G n with dv := .slice a9 L9 c9 }) (W9.setCell ⟨b2, n * 5 + 4, none⟩ (.slice a9 L9 c9)) ∧ Row ePc (W9.setCell ⟨b2, n * 5 + 4, none⟩ (.slice a9 L9 c9)) LO (.slice (some ⟨g, o, none⟩) NP cp) pcs ∧ ((pcs.take (j + 1)).foldl stp (z9 A)).ch = n ∧ ((pcs.take (j + 1)).foldl stp (z9 A)).en = pos + size ∧ (n < HH ∨ HH = 0)) := by
         rw [hnx, e9]
         have h8 := HX1.out.2.2.2.2.2
         refine ⟨hX9.en (pos + size) s.ch, ((hRw.kept kd fun _ h => h.elim).own_kept ePc_bl hk9 fun k hk e => ?_).own_kept ePc_bl ks fun k hk e => (by have := hRw.low k hk; omega), hCH, rfl, hch⟩
         exact Row.ne hRw (hX.li.dr n hn).1 (by decide) k hk e.symm
        have hcb : (LL : Int) < 1000000 := by have := hln n; omega
        clear l0 fl0 l1 HXW hn hX hRw hQB hQl hQo hnx hCH hch hln hps kd hXd hdv hdl hLL hk9 hX9 hL9 hown ks hQd hlA hal hl9 hQ9 hb4 e9 hH0 hLd
        go_wp2
        refine wp_region_held_drew (S := (fun w' => w'.cell? ⟨b5, 2, none⟩ = some (.slice (some ⟨b2, 0, none⟩) HH HH) ∧ w'.cell? ⟨Q, 4, none⟩ = some (.int .i64 port) ∧ w'.cell? ⟨Q, 0, none⟩ = some (.int .i64 pos) ∧ True)) Tryz.mixed HSS.out.1 (fun hHeld => ?_)
        simp only [t1, t2, List.length_nil, Nat.reduceAdd, t4, Array.replicate_zero, t6, List.append_toArray, List.nil_append, t8]
        refine tk 0 (.pointer (some ⟨b5, 2, none⟩)) (hr := by (intro w hSw; (try dsimp only at hSw); obtain ⟨hSw1, hSw2, hSw3, hSw4⟩ := hSw; go_simp)) hHeld ?_
        refine tk 1 (.slice (some ⟨b2, 0, none⟩) HH HH) (hr := by (intro w hSw; (try dsimp only at hSw); obtain ⟨hSw1, hSw2, hSw3, hSw4⟩ := hSw; go_simp)) hHeld ?_
        refine tk 2 (.int .i64 (n : Nat)) (hr := by (intro w hSw; (try dsimp only at hSw); obtain ⟨hSw1, hSw2, hSw3, hSw4⟩ := hSw; go_simp)) hHeld ?_
        refine tk 3 (.pointer (some ⟨b5, 2, none⟩)) (hr := by (intro w hSw; (try dsimp only at hSw); obtain ⟨hSw1, hSw2, hSw3, hSw4⟩ := hSw; go_simp)) hHeld ?_
        refine tk 4 (.slice (some ⟨b2, 0, none⟩) HH HH) (hr := by (intro w hSw; (try dsimp only at hSw); obtain ⟨hSw1, hSw2, hSw3, hSw4⟩ := hSw; go_simp)) hHeld ?_
        refine tk 5 (.int .i64 (n : Nat)) (hr := by (intro w hSw; (try dsimp only at hSw); obtain ⟨hSw1, hSw2, hSw3, hSw4⟩ := hSw; go_simp)) hHeld ?_
        refine tk 6 (.pointer (some ⟨b2, n * 5, none⟩)) (hr := by (intro w hSw; (try dsimp only at hSw); obtain ⟨hSw1, hSw2, hSw3, hSw4⟩ := hSw; go_simp)) hHeld ?_
        refine tk 7 (.pointer (some ⟨b2, n * 5 + 4, none⟩)) (hr := by (intro w hSw; (try dsimp only at hSw); obtain ⟨hSw1, hSw2, hSw3, hSw4⟩ := hSw; go_simp)) hHeld ?_
        refine tk 9 (.int .i64 idx) (hr := by (intro w hSw; (try dsimp only at hSw); obtain ⟨hSw1, hSw2, hSw3, hSw4⟩ := hSw; go_simp)) hHeld ?_
        refine tk 10 (.pointer (some ⟨Q, 2, none⟩)) (hr := by (intro w hSw; (try dsimp only at hSw); obtain ⟨hSw1, hSw2, hSw3, hSw4⟩ := hSw; go_simp)) hHeld ?_
        refine tk 11 (.pointer (some ⟨Q, 4, none⟩)) (hr := by (intro w hSw; (try dsimp only at hSw); obtain ⟨hSw1, hSw2, hSw3, hSw4⟩ := hSw; go_simp)) hHeld ?_
        refine tk 12 (.int .i64 port) (hr := by (intro w hSw; (try dsimp only at hSw); obtain ⟨hSw1, hSw2, hSw3, hSw4⟩ := hSw; go_simp)) hHeld ?_
        refine tk 13 (.pointer (some ⟨Q, 0, none⟩)) (hr := by (intro w hSw; (try dsimp only at hSw); obtain ⟨hSw1, hSw2, hSw3, hSw4⟩ := hSw; go_simp)) hHeld ?_
        refine tk 14 (.int .i64 pos) (hr := by (intro w hSw; (try dsimp only at hSw); obtain ⟨hSw1, hSw2, hSw3, hSw4⟩ := hSw; go_simp)) hHeld ?_
        refine tk 15 (.agg #[.int .i64 idx, .int .i64 port, .int .i64 pos]) (hr := by (intro w hSw; (try dsimp only at hSw); obtain ⟨hSw1, hSw2, hSw3, hSw4⟩ := hSw; go_simp)) hHeld ?_
        simp only [Act.put, s1, s2, s3]
        refine wpAnyH_ready (rs := [8, 16]) (by kernel_rfl) (by simp) ?_
        refine AllReadyH.cons (o := ⟨some 138, .load 105 (.tmp 137), 105, "ref.go:215", #[⟨7, .data⟩], none⟩) rfl (fun K hK => ?_) (AllReadyH.cons (o := ⟨some 146, .buildSlice 105 1 #[(0, .tmp 145)], 105, "ref.go:215", #[⟨15, .data⟩], none⟩) rfl (fun K hK => ?_) AllReadyH.nil)
        ·
         go_simp
         refine hK.out _ _ HSS.out.1 (fun hHeld => ?_)
         simp only [Act.put, s1, s2, s3]
         refine rd 16 fun K hK => ?_
         go_simp
         refine hK.out _ _ HSS.out.2.1 (fun hHeld => ?_)
         simp only [Act.put, s1, s2, s3]
         refine rd 17 fun K hK => ?_
         rw [if_pos (by kernel_rfl)]
         refine opAppend_run _ _ 105 105 rfl (.slice la LL lc) (.slice (some ⟨W.heap.size, 0, none⟩) 1 1) (.slice a9 L9 c9) W9 rfl rfl (hrun _) ?_
         refine hK.out _ _ HSS.out.2.2.1 (fun hHeld => ?_)
         simp only [Act.put, s1, s2, s3]
         refine tk 18 (.pointer (some ⟨b2, n * 5, none⟩)) (hr := by (intro w hSw; (try dsimp only at hSw); obtain ⟨hSw1, hSw2, hSw3, hSw4⟩ := hSw; go_simp)) hHeld ?_
         refine tk 19 (.pointer (some ⟨b2, n * 5 + 4, none⟩)) (hr := by (intro w hSw; (try dsimp only at hSw); obtain ⟨hSw1, hSw2, hSw3, hSw4⟩ := hSw; go_simp)) hHeld ?_
         simp only [Act.put, s1, s2, s3]
         refine rd 20 fun K hK => ?_
         go_simp
         refine hK.out _ _ HSS.out.2.2.2 (fun hHeld => ?_)
         simp only [Act.put, s1, s2, s3]
         refine wpAnyH_done (by kernel_rfl) ?_ _
         clear hHeld
         go_wp2
         go_roundw
         case rel => exact ⟨j + 1, F, _, by have := HJ.out; omega, by rw [HR.out.2.2.1], by rw [HR.out.2.2.2.1], by go_num, HR.out.1, HR.out.2.1, by rw [HR.out.2.2.1]; exact HR.out.2.2.2.2⟩
         case measure => have := HJ.out; simp [intOf]; omega
        ·
         go_simp
         refine hK.out _ _ HSS.out.2.1 (fun hHeld => ?_)
         simp only [Act.put, s1, s2, s3]
         refine rd 8 fun K hK => ?_
         have hS6b : (W.alloc (.cells #[.int .i64 idx, .int .i64 port, .int .i64 pos] 118)).cell? ⟨b2, n * 5 + 4, none⟩ = some (.slice la LL lc) := hRA
         go_simp
         refine hK.out _ _ HSS.out.2.1 (fun hHeld => ?_)
         simp only [Act.put, s1, s2, s3]
         clear hS6b
         refine rd 17 fun K hK => ?_
         rw [if_pos (by kernel_rfl)]
         refine opAppend_run _ _ 105 105 rfl (.slice la LL lc) (.slice (some ⟨W.heap.size, 0, none⟩) 1 1) (.slice a9 L9 c9) W9 rfl rfl (hrun _) ?_
         refine hK.out _ _ HSS.out.2.2.1 (fun hHeld => ?_)
         simp only [Act.put, s1, s2, s3]
         refine tk 18 (.pointer (some ⟨b2, n * 5, none⟩)) (hr := by (intro w hSw; (try dsimp only at hSw); obtain ⟨hSw1, hSw2, hSw3, hSw4⟩ := hSw; go_simp)) hHeld ?_
         refine tk 19 (.pointer (some ⟨b2, n * 5 + 4, none⟩)) (hr := by (intro w hSw; (try dsimp only at hSw); obtain ⟨hSw1, hSw2, hSw3, hSw4⟩ := hSw; go_simp)) hHeld ?_
         simp only [Act.put, s1, s2, s3]
         refine rd 20 fun K hK => ?_
         go_simp
         refine hK.out _ _ HSS.out.2.2.2 (fun hHeld => ?_)
         simp only [Act.put, s1, s2, s3]
         refine wpAnyH_done (by kernel_rfl) ?_ _
         clear hHeld
         go_wp2
         go_roundw
         case rel => exact ⟨j + 1, F, _, by have := HJ.out; omega, by rw [HR.out.2.2.1], by rw [HR.out.2.2.2.1], by go_num, HR.out.1, HR.out.2.1, by rw [HR.out.2.2.1]; exact HR.out.2.2.2.2⟩
         case measure => have := HJ.out; simp [intOf]; omega
      ·
       obtain rfl : NP = j := by omega
       rw [List.take_of_length_le (by have := HX4.out.2.2.2.1; omega), ← HX4.out.2.2.1] at hs
       obtain ⟨r, hr, t1, t2, t3, t4⟩ := fold_all HB.out
       have e16 := HX1.out.2.1
       rw [e16] at hr hs t1 t4
       obtain rfl : r = s := by rw [← hr, ← hs]
       have hcw := hX.li.cw
       have hlo := hX.li.lo
       have hne := hX.li.ne
       have c0 := hX.li.l.cell (i := 0) rfl
       have c1 := hX.li.l.cell (i := 1) rfl
       have c2 := hX.li.l.cell (i := 2) rfl
       have c3 := hX.li.l.cell (i := 3) rfl
       have f3 := hX.li.l.frozen 3
       have hb5 : b5 ≠ C + 1 := by omega
       have en0 : -15 ≤ EN ∧ EN ≤ 3000000 := by
        have hra := rtAt_bd x (rtB x A) x.ps.length
        have h1 := chAt_bd HB.out (chB x A) x.hs.length
        have h3 : chB x A = A + 2 + 24 * x.ps.length := rfl
        have h4 : rtB x A = chE x A + fillN (chE x A) := rfl
        have h5 : chE x A = chAt x (chB x A) x.hs.length := rfl
        have h6 : 0 ≤ fillN (chE x A) ∧ fillN (chE x A) ≤ 16 := by unfold fillN; split <;> omega
        have h7 := HLEN.out
        rw [hEN] at t4
        omega
       have w1' : IntKind.i64.wrap (EN + 16) = EN + 16 := by rw [IntKind.wrap_i64]; omega
       have w2' : IntKind.i64.wrap (EN + 16 - 1) = EN + 15 := by rw [IntKind.wrap_i64]; omega
       obtain ⟨ED, hED⟩ : ∃ ED, (EN + 15) / 16 = ED := ⟨_, rfl⟩
       have w3' : (EN + 15).tdiv 16 = ED := by rw [Int.tdiv_eq_ediv_of_nonneg (by omega)]; exact hED
       have w4' : IntKind.i64.wrap ED = ED := by rw [IntKind.wrap_i64]; omega
       have HFIN : Hid (LX w x C N b1 b2 b5 SP SQ r F G wr ∧ ED = rtAt x (rtB x A) x.ps.length / 16 ∧ r.bar = A ∧ (∀ i, i < x.ps.length → r.lo i = A + 2 + 24 * i ∧ r.sa i = A + 2 + 24 * i + 2 ∧ r.st i = A + 2 + 24 * i + 2 + 17 ∧ ∃ P, x.ps[i]? = some P ∧ r.rt i = rtAt x (rtB x A) i / 16 ∧ r.T i = tabL (rtAt x (rtB x A) i) (cntT P.rs 16)) ∧
         (∀ i, i < x.hs.length → ∃ h, x.hs[i]? = some h ∧ r.cl i = chAt x (chB x A) i ∧ r.cs i = chAt x (chB x A) i + 2 ∧ r.D i = placed (dstsOf x i) (chAt x (chB x A) i + 2 + h.stg) h.prt (dstsOf x i).length) ∧ C = w.heap.size) := by
        rw [e16] at t2 t3
        refine ⟨hX, ?_, t1, t2, t3, hcw⟩
        rw [← hED, ← hEN]; exact t4
       have hB1 := hX.li.l.setCell 3 (.int .i64 ED)
       have k1 : Keeps (fun k => k = b5) wr (wr.setCell ⟨b5, 3, none⟩ (.int .i64 ED)) := (Keeps.refl _ _).setCell _ _ fun _ => rfl
       have hR1 := hX.li.res.kept k1 (fun e => hb5 e.symm)
       have hB0 : Blk (wr.setCell ⟨b5, 3, none⟩ (.int .i64 ED)) b5 [.int .i64 A, .slice (some ⟨b1, 0, none⟩) PL PL, .slice (some ⟨b2, 0, none⟩) HH HH, .int .i64 ED] 92 := by
        have h7 := HLEN.out
        rw [t1, h7.1, h7.2] at hB1
        exact hB1
       rw [t1] at c0
       rw [HLEN.out.2] at c1
       rw [HLEN.out.1] at c2
       obtain ⟨W5, hW5⟩ : ∃ W5, W5 = wr.setCell ⟨b5, 3, none⟩ (.int .i64 ED) := ⟨_, rfl⟩
       rw [← hW5] at hB0 hR1 k1
       have HW5 : Hid (Blk W5 (C + 1) [.int .i64 0, .slice none 0 0, .slice none 0 0, .int .i64 0] 92 ∧ Keeps (fun k => k = b5) wr W5 ∧ b5 ≠ C + 1 ∧ C + 2 ≤ b5) := ⟨hR1, k1, hb5, hlo.2.2⟩
       clear hX hRow hch t1 t2 t3 t4 hs hr e16 hcw hlo hne hB1 k1 hCH hEN hED en0 hlt hj
       go_upto_region 42 with fail
       rw [← hW5]
       clear hW5 c0 c1 c2 c3 f3 w1' w2' w3' w4'
       have c0 := hB0.cell (i := 0) rfl
       have c1 := hB0.cell (i := 1) rfl
       have c2 := hB0.cell (i := 2) rfl
       have c3 := hB0.cell (i := 3) rfl
       have r0 := hR1.cell (i := 0) rfl
       have r1 := hR1.cell (i := 1) rfl
       have r2 := hR1.cell (i := 2) rfl
       have r3 := hR1.cell (i := 3) rfl
       have fr0 := hR1.frozen 0
       have fr1 := hR1.frozen 1
       have fr2 := hR1.frozen 2
       have fr3 := hR1.frozen 3
       clear hB0 hR1
       go_wp2
       obtain ⟨hB, hK4⟩ := set4 HW5.out.1 (.int .i64 A) (.slice (some ⟨b1, 0, none⟩) PL PL) (.slice (some ⟨b2, 0, none⟩) HH HH) (.int .i64 ED)
       obtain ⟨Wb, hWb⟩ : ∃ Wb, Wb = ((((W5.setCell ⟨C + 1, 0, none⟩ (.int .i64 A)).setCell ⟨C + 1, 1, none⟩ (.slice (some ⟨b1, 0, none⟩) PL PL)).setCell ⟨C + 1, 2, none⟩ (.slice (some ⟨b2, 0, none⟩) HH HH)).setCell ⟨C + 1, 3, none⟩ (.int .i64 ED)) := ⟨_, rfl⟩
       rw [← hWb] at hB hK4 ⊢
       (try simp only [Exit.inBlock, Exit.then])
       refine bodyPost_ret (results_cell_two rfl _ _ (C + 1) 92 _ (0, 0) _ rfl hB Tryz.underlying92 rfl (by kernel_rfl)) rfl ?_
       obtain ⟨hX, e1, e2, t2, t3, hcw⟩ := HFIN.out
       obtain ⟨_, k5, hb5, hlb⟩ := HW5.out
       have hkk : Keeps (fun k => k = b5 ∨ k = C + 1) wr Wb := (k5.mono fun _ _ e => .inl e).trans (hK4.mono fun _ _ e => .inr e) fun _ _ e => e
       have h7 := HLEN.out
       have eA := HX1.out.2.1
       have hlo := hX.li.lo
       have hne := hX.li.ne
       refine ⟨hX.li.kp.trans hkk fun k hk e => (by omega), .inr ⟨HB.out, b1, b2, F, G, r.T, r.D, ?_, ⟨hX.li.p.kept hkk (by omega), hX.li.c.kept hkk (by omega), ⟨by omega, by omega, hne.1⟩, fun i hi => ?_, fun i hi => ?_⟩, fun i hi => ?_, fun i hi => ?_⟩⟩
       ·
        rw [eA, h7.1, h7.2, ← h7.2, ← e1, h7.2]; rfl
       ·
        have q := hX.li.tr i hi
        exact ⟨(q.1.own_kept eInt_bl hkk fun k hk e => by have := q.2 k hk; have := q.1.low k hk; omega).lower' (by omega), fun k hk => ⟨(q.2 k hk).1, (q.2 k hk).2.1⟩⟩
       ·
        have q := hX.li.dr i hi
        exact ⟨(q.1.own_kept eDst_bl hkk fun k hk e => by have := q.2 k hk; have := q.1.low k hk; omega).lower' (by omega), fun k hk => ⟨(q.2 k hk).1, (q.2 k hk).2.1⟩⟩
       ·
        obtain ⟨f1, f2, f3, f4⟩ := hX.fp i
        obtain ⟨u1, u2, u3, P, u4, u5, u6⟩ := t2 i hi
        rw [eA, f1, f2, f3, f4]
        exact ⟨u1, u2, u3, fun _ => ⟨P, u4, u5, u6⟩⟩
       ·
        obtain ⟨f1, f2⟩ := hX.gp i
        obtain ⟨f3, f4⟩ := hX.sp i
        obtain ⟨h, u1, u2, u3, u4⟩ := t3 i hi
        obtain ⟨_, ⟨s0, hs0⟩, _, _⟩ := Cfg.mayB_chn HB.out u1
        rw [eA]
        have hsd : srcD x i = s0 := by unfold srcD; rw [hs0]; rfl
        refine ⟨s0, h, hs0, u1, by rw [f1]; exact u2, by rw [f2]; exact u3, ?_, ?_, u4⟩
        ·
         rw [f3, HX1.out.2.2.1]; show (if i < HH then (srcD x i).p else 0) = _; rw [if_pos (by omega), hsd]
        ·
         rw [f4, HX1.out.2.2.2.1]; show (if i < HH then (srcD x i).q else 0) = _; rw [if_pos (by omega), hsd]
end Go.Proofs.YtlnmlbkeemahcaaGreat
