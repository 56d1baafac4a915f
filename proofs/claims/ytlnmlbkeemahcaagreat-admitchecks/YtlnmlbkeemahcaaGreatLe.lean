import Derived.Test.YtlnmlbkeemahcaaGreatLd
namespace Go.Proofs.YtlnmlbkeemahcaaGreat
open Go.RowKit
set_option linter.unusedVariables false
set_option linter.unusedSimpArgs false
set_option maxRecDepth 6000
theorem lent_one {lo : Nat} {w : World} {O : Nat → Nat → ObG} (h : FamO lo w O) (x : Cfg) (a1 a2 a3 : Option Addr) (n1 n2 n3 c1 c2 c3 : Nat) : ((lentV x (.slice a1 n1 c1) (.slice a2 n2 c2) (.slice a3 n3 c3) O).toArray).all (fun v => v.oneCell') = true := by
 obtain ⟨_, _, e0, _⟩ := h.form 0 0
 obtain ⟨_, _, e1, _⟩ := h.form 0 1
 obtain ⟨_, _, e2, _⟩ := h.form 0 2
 obtain ⟨_, _, e3, _⟩ := h.form 0 3
 obtain ⟨_, _, e4, _⟩ := h.form 0 4
 obtain ⟨_, _, e5, _⟩ := h.form 0 5
 unfold lentV
 rw [e0, e1, e2, e3, e4, e5]
 kernel_rfl
theorem Tryz.sz30 : (Tryz.prog.info? 30).map (·.size) = some 13 := by kernel_rfl
def LendP (x : Cfg) (w : World) (e : Ending) (w' : World) : Prop := ∃ (O : Nat → Nat → ObG) (lo : Nat), e = .returned (.agg (lentV x (cut x.cs.length (O 0 1).u) (cut x.ps.length (O 0 3).u) (cut x.hs.length (O 0 0).u) O).toArray) ∧ LP x (x.cs.length + 24) (x.ps.length + 24) O ∧ Fl eChn hM x.hs (O 0 0) ∧ FamO lo w' O ∧ w.heap.size ≤ lo ∧ KF w w'
set_option maxHeartbeats 16000000 in
theorem Lend_any (x : Cfg) (w : World) (N : Nat) (hi : x.In w N) (hN : N ≤ w.heap.size) (hb : Sml x) : Calls Tryz.prog 4 #[x.v] w (LendP x w) := by
 have HB : Hid (Sml x) := hb
 obtain ⟨W, hW⟩ : ∃ W, W = ((x.laid w).alloc (.cells zLent.toArray 30)).alloc (.cells (lentV x (.slice x.ca x.cs.length x.cc) (.slice x.pa x.ps.length x.pc) (.slice x.ha x.hs.length x.hc) (fun _ _ => ObG.nil)).toArray 30) := ⟨_, rfl⟩
 obtain ⟨C, hC⟩ : ∃ C, C = w.heap.size := ⟨_, rfl⟩
 obtain ⟨A, hA⟩ : ∃ A, A = w.heap.size + 1 := ⟨_, rfl⟩
 obtain ⟨R, hR⟩ : ∃ R, R = w.heap.size + 1 + 1 := ⟨_, rfl⟩
 obtain ⟨lo, hlo⟩ : ∃ lo, lo = W.heap.size := ⟨_, rfl⟩
 have HI0 : Hid (LeI w x C A R lo N (.slice x.ca x.cs.length x.cc) (.slice x.pa x.ps.length x.pc) (.slice x.ha x.hs.length x.hc) (fun _ _ => ObG.nil) W) := by
  have b1 := Blk.new w x.vs.toArray 26
  have b2 := Blk.new (x.laid w) zLent.toArray 30
  have b3 := Blk.new ((x.laid w).alloc (.cells zLent.toArray 30)) (lentV x (.slice x.ca x.cs.length x.cc) (.slice x.pa x.ps.length x.pc) (.slice x.ha x.hs.length x.hc) (fun _ _ => ObG.nil)).toArray 30
  have k1 : KF w W := by rw [hW]; exact (((Keeps.refl _ _).alloc _).alloc _).alloc _
  have hs : W.heap.size = w.heap.size + 3 := by rw [hW]; simp [Cfg.laid]
  refine ⟨?_, ?_, ?_, by rw [hlo]; exact Fam.start _ _, k1, hi.keeps hN k1, hN, by omega⟩
  ·
   rw [hW, hC]; exact (b1.alloc _).alloc _
  ·
   rw [hW, hA]; have := b2.alloc (.cells (lentV x (.slice x.ca x.cs.length x.cc) (.slice x.pa x.ps.length x.pc) (.slice x.ha x.hs.length x.hc) (fun _ _ => ObG.nil)).toArray 30); simpa [Cfg.laid] using this
  ·
   rw [hW, hR]; simpa [Cfg.laid] using b3
 have HR0 : Hid (LP x 0 0 (fun _ _ => ObG.nil)) := LP.start x
 obtain ⟨H, hH⟩ : ∃ H, x.hs.length = H := ⟨_, rfl⟩
 obtain ⟨L, hL⟩ : ∃ L, x.cs.length = L := ⟨_, rfl⟩
 obtain ⟨K, hK⟩ : ∃ K, x.ps.length = K := ⟨_, rfl⟩
 have HH : Hid (x.hs.length = H ∧ x.cs.length = L ∧ x.ps.length = K) := ⟨hH, hL, hK⟩
 clear hi hN hb hlo
 rw [hH, hL, hK] at hW
 unfold Cfg.laid at hW
 simp only [zLent, lentV, Cfg.vs, ObG.nil, hH, hL, hK] at hW
 unfold Cfg.v
 rw [hH, hL, hK]
 clear hH hL hK
 go_enter Tryz.func4, Tryz.ntmps4
 go_upto_region 2 with fail
 rw [← hW, ← hR, ← hA, ← hC]
 clear hW hR hA hC
 have hHz : (H : Int) ≤ 140737488351232 := by have := HB.out.hs; rw [HH.out.1] at this; omega
 have hLz : (L : Int) ≤ 140737488351232 := by have := HB.out.cs; rw [HH.out.2.1] at this; omega
 have hKz : (K : Int) ≤ 140737488351232 := by have := HB.out.ps; rw [HH.out.2.2] at this; omega
 go_wp2
 go_loopw [4] (fun i wr => ∃ (j : Nat) (O : Nat → Nat → ObG), j ≤ H + 24 ∧ i = .int .i64 j ∧ LeI w x C A R lo N (.slice x.ca x.cs.length x.cc) (.slice x.pa x.ps.length x.pc) (.slice x.ha x.hs.length x.hc) O wr ∧ LP x 0 0 O ∧ (O 0 0).n = j ∧ ∀ k, k < j → At (O 0 0).xs 3 k (hM k)) (fun i _ => H + 24 - (intOf i).toNat)
 case atStart => exact ⟨0, _, by omega, rfl, HI0.out, HR0.out, rfl, fun k hk => by omega⟩
 case round =>
  obtain ⟨j, O, hj, rfl, hI, hP, hn, hA⟩ := hrel
  clear HI0 HR0
  have c6 : wr.cell? ⟨C, 6, none⟩ = some (.slice x.ha H x.hc) := by have := hI.cfg.cell (i := 6) rfl; rw [HH.out.1] at this; exact this
  by_cases hlt : j < H + 24
  ·
   have hjz : (j : Int) < (H : Int) + 24 := by omega
   obtain ⟨d, p, eu, _, _⟩ := hI.fam.form 0 0
   rw [hn] at eu
   have r7 : wr.cell? ⟨R, 7, none⟩ = some (.slice d j p) := by rw [← eu]; exact hI.room.cell (i := 7) rfl
   have HE : Hid ((O 0 0).u = .slice d j p) := eu
   have HI : Hid (LeI w x C A R lo N (.slice x.ca x.cs.length x.cc) (.slice x.pa x.ps.length x.pc) (.slice x.ha x.hs.length x.hc) O wr ∧ LP x 0 0 O ∧ (O 0 0).n = j ∧ (∀ k, k < j → At (O 0 0).xs 3 k (hM k)) ∧ j < H + 24) := ⟨hI, hP, hn, hA, hlt⟩
   have HJ : Hid (j ≤ 281474976710656 ∧ (j + 1) * 24 ≤ 140737488355328 ∧ j < H + 24) := by have := HB.out.hs; rw [HH.out.1] at this; unfold Hid; omega
   clear hI hP hn hA hlt hj eu
   go_upto_region 5 with fail
   clear c6
   refine wp_region_held_drew (S := fun _ => True) Tryz.mixd trivial (fun hHeld => ?_)
   simp only [t1, t2, List.length_nil, Nat.reduceAdd, t4, Array.replicate_zero, t6, List.append_toArray, List.nil_append, t8]
   refine hk 0 (.pointer (some ⟨R, 7, none⟩)) hHeld ?_
   refine hk 2 (.int .i64 (j : Int)) hHeld ?_
   simp only [Act.put, s1, s2, s3]
   refine wpAnyH_ready (rs := [1, 3]) (by kernel_rfl) (by simp) ?_
   refine AllReadyH.cons rfl (fun Kq hK => ?_) (AllReadyH.cons rfl (fun Kq hK => ?_) AllReadyH.nil)
   ·
    go_simp
    refine hK.out _ _ trivial (fun hHeld => ?_)
    simp only [Act.put, s1, s2, s3]
    clear r7
    refine rd 3 fun Kq hK => ?_
    go_simp
    refine (chM_any j HJ.out.1 _).mono ?_
    rintro e w1 ⟨rfl, hK1⟩
    refine hK.out _ _ trivial (fun hHeld => ?_)
    simp only [Act.put, s1, s2, s3]
    have hI1 := HI.out.1.kept (((Keeps.refl _ wr).drew).trans hK1 fun _ _ h => h)
    obtain ⟨d2, p2, W', hr, b7, bf, hI2, hlen, _⟩ := hI1.app 0 7 (by omega) rfl 24 _ 24 Tryz.underlying24 Tryz.inf49 rfl (by decide) #[.int .i64 (j : Int), .int .i64 (-(j : Int)), .int .i64 (j : Int)] rfl (by intro u hu; simp at hu; rcases hu with rfl | rfl | rfl <;> rfl) HI.out.2.2.1 HE.out HJ.out.1 HJ.out.2.1
    obtain ⟨X2, hX2⟩ : ∃ X2, X2 = W'.setCell ⟨R, 7, none⟩ (.slice d2 (j + 1) p2) := ⟨_, rfl⟩
    have HAP : Hid _ := hr
    have HN : Hid (LeI w x C A R lo N (.slice x.ca x.cs.length x.cc) (.slice x.pa x.ps.length x.pc) (.slice x.ha x.hs.length x.hc) (updG O 0 0 ⟨.slice d2 (j + 1) p2, j + 1, (O 0 0).xs ++ hM j⟩) X2 ∧ LP x 0 0 (updG O 0 0 ⟨.slice d2 (j + 1) p2, j + 1, (O 0 0).xs ++ hM j⟩) ∧ (updG O 0 0 ⟨.slice d2 (j + 1) p2, j + 1, (O 0 0).xs ++ hM j⟩ 0 0).n = j + 1 ∧ ∀ k, k < j + 1 → At (updG O 0 0 ⟨.slice d2 (j + 1) p2, j + 1, (O 0 0).xs ++ hM j⟩ 0 0).xs 3 k (hM k)) := by
     refine ⟨by rw [hX2]; exact hI2, HI.out.2.1.chs _, by rw [updG_self], fun k hk => ?_⟩
     rw [updG_self]
     by_cases e : k = j
     ·
      subst e; exact At.new hlen _
     ·
      exact (HI.out.2.2.2.1 k (by omega)).app _
    clear hI1 hr hlen hI2
    refine rd 4 fun Kq hK => ?_
    go_simp
    refine hK.out _ _ trivial (fun hHeld => ?_)
    simp only [Act.put, s1, s2, s3]
    refine rd 5 fun Kq hK => ?_
    rw [if_pos (by rfl)]
    refine wp_append_run (.tmp 26) (.tmp 29) 24 24 rfl (.slice d j p) (.slice (some ⟨w1.heap.size, 0, none⟩) 1 1) _ W' rfl rfl HAP.out ?_
    refine hK.out _ _ trivial (fun hHeld => ?_)
    simp only [Act.put, s1, s2, s3]
    refine hk 6 (.pointer (some ⟨R, 7, none⟩)) hHeld ?_
    simp only [Act.put, s1, s2, s3]
    refine rd 7 fun Kq hK => ?_
    go_simp
    refine hK.out _ _ trivial (fun hHeld => ?_)
    simp only [Act.put, s1, s2, s3]
    refine wpAnyH_done (by kernel_rfl) ?_ _
    rw [← hX2]
    clear hHeld hK b7 bf hX2
    go_wp2
    go_roundw
    case rel => exact ⟨j + 1, _, HJ.out.2.2, by go_num, HN.out.1, HN.out.2.1, HN.out.2.2.1, HN.out.2.2.2⟩
    case measure => have := HJ.out.2.2; simp [intOf]; omega
   ·
    go_simp
    refine (chM_any j HJ.out.1 _).mono ?_
    rintro e w1 ⟨rfl, hK1⟩
    have r8 : w1.cell? ⟨R, 7, none⟩ = some (.slice d j p) := cell_kept (w := wr.drew) r7 hK1 fun h => h
    refine hK.out _ _ trivial (fun hHeld => ?_)
    simp only [Act.put, s1, s2, s3]
    clear r7
    have hI1 := HI.out.1.kept (((Keeps.refl _ wr).drew).trans hK1 fun _ _ h => h)
    obtain ⟨d2, p2, W', hr, b7, bf, hI2, hlen, _⟩ := hI1.app 0 7 (by omega) rfl 24 _ 24 Tryz.underlying24 Tryz.inf49 rfl (by decide) #[.int .i64 (j : Int), .int .i64 (-(j : Int)), .int .i64 (j : Int)] rfl (by intro u hu; simp at hu; rcases hu with rfl | rfl | rfl <;> rfl) HI.out.2.2.1 HE.out HJ.out.1 HJ.out.2.1
    obtain ⟨X2, hX2⟩ : ∃ X2, X2 = W'.setCell ⟨R, 7, none⟩ (.slice d2 (j + 1) p2) := ⟨_, rfl⟩
    have HAP : Hid _ := hr
    have HN : Hid (LeI w x C A R lo N (.slice x.ca x.cs.length x.cc) (.slice x.pa x.ps.length x.pc) (.slice x.ha x.hs.length x.hc) (updG O 0 0 ⟨.slice d2 (j + 1) p2, j + 1, (O 0 0).xs ++ hM j⟩) X2 ∧ LP x 0 0 (updG O 0 0 ⟨.slice d2 (j + 1) p2, j + 1, (O 0 0).xs ++ hM j⟩) ∧ (updG O 0 0 ⟨.slice d2 (j + 1) p2, j + 1, (O 0 0).xs ++ hM j⟩ 0 0).n = j + 1 ∧ ∀ k, k < j + 1 → At (updG O 0 0 ⟨.slice d2 (j + 1) p2, j + 1, (O 0 0).xs ++ hM j⟩ 0 0).xs 3 k (hM k)) := by
     refine ⟨by rw [hX2]; exact hI2, HI.out.2.1.chs _, by rw [updG_self], fun k hk => ?_⟩
     rw [updG_self]
     by_cases e : k = j
     ·
      subst e; exact At.new hlen _
     ·
      exact (HI.out.2.2.2.1 k (by omega)).app _
    clear hI1 hr hlen hI2
    refine wpAnyH_ready (rs := [1, 4]) (by kernel_rfl) (by simp) ?_
    refine AllReadyH.cons rfl (fun Kq hK => ?_) (AllReadyH.cons rfl (fun Kq hK => ?_) AllReadyH.nil)
    ·
     go_simp
     refine hK.out _ _ trivial (fun hHeld => ?_)
     simp only [Act.put, s1, s2, s3]
     clear r8
     refine rd 4 fun Kq hK => ?_
     go_simp
     refine hK.out _ _ trivial (fun hHeld => ?_)
     simp only [Act.put, s1, s2, s3]
     refine rd 5 fun Kq hK => ?_
     rw [if_pos (by rfl)]
     refine wp_append_run (.tmp 26) (.tmp 29) 24 24 rfl (.slice d j p) (.slice (some ⟨w1.heap.size, 0, none⟩) 1 1) _ W' rfl rfl HAP.out ?_
     refine hK.out _ _ trivial (fun hHeld => ?_)
     simp only [Act.put, s1, s2, s3]
     refine hk 6 (.pointer (some ⟨R, 7, none⟩)) hHeld ?_
     simp only [Act.put, s1, s2, s3]
     refine rd 7 fun Kq hK => ?_
     go_simp
     refine hK.out _ _ trivial (fun hHeld => ?_)
     simp only [Act.put, s1, s2, s3]
     refine wpAnyH_done (by kernel_rfl) ?_ _
     rw [← hX2]
     clear hHeld hK b7 bf hX2
     go_wp2
     go_roundw
     case rel => exact ⟨j + 1, _, HJ.out.2.2, by go_num, HN.out.1, HN.out.2.1, HN.out.2.2.1, HN.out.2.2.2⟩
     case measure => have := HJ.out.2.2; simp [intOf]; omega
    ·
     have r9 : (w1.alloc (.cells #[.int .i64 (j : Int), .int .i64 (-(j : Int)), .int .i64 (j : Int)] 48)).cell? ⟨R, 7, none⟩ = some (.slice d j p) := cell_kept (S := fun _ => False) r8 ((Keeps.refl _ w1).alloc _) fun h => h
     clear r8
     go_simp
     refine hK.out _ _ trivial (fun hHeld => ?_)
     simp only [Act.put, s1, s2, s3]
     refine rd 1 fun Kq hK => ?_
     go_simp
     refine hK.out _ _ trivial (fun hHeld => ?_)
     simp only [Act.put, s1, s2, s3]
     clear r9
     refine rd 5 fun Kq hK => ?_
     rw [if_pos (by rfl)]
     refine wp_append_run (.tmp 26) (.tmp 29) 24 24 rfl (.slice d j p) (.slice (some ⟨w1.heap.size, 0, none⟩) 1 1) _ W' rfl rfl HAP.out ?_
     refine hK.out _ _ trivial (fun hHeld => ?_)
     simp only [Act.put, s1, s2, s3]
     refine hk 6 (.pointer (some ⟨R, 7, none⟩)) hHeld ?_
     simp only [Act.put, s1, s2, s3]
     refine rd 7 fun Kq hK => ?_
     go_simp
     refine hK.out _ _ trivial (fun hHeld => ?_)
     simp only [Act.put, s1, s2, s3]
     refine wpAnyH_done (by kernel_rfl) ?_ _
     rw [← hX2]
     clear hHeld hK b7 bf hX2
     go_wp2
     go_roundw
     case rel => exact ⟨j + 1, _, HJ.out.2.2, by go_num, HN.out.1, HN.out.2.1, HN.out.2.2.1, HN.out.2.2.2⟩
     case measure => have := HJ.out.2.2; simp [intOf]; omega
  ·
   obtain rfl : j = H + 24 := by omega
   obtain ⟨d, p, eu, hcap, hpm⟩ := hI.fam.form 0 0
   rw [hn] at eu hcap
   obtain ⟨W1, hcp, hF, hKc⟩ := hI.fam.copy eChn plainChn 0 0 rfl 24 Tryz.underlying24 Tryz.sz48 x.ha x.hs x.hc hI.cin.hseg (by rw [hn, HH.out.1]; omega) (by rw [hn]; omega)
   rw [eu, HH.out.1] at hcp
   have hI1 := hI.inner hF (keeps_lo hI.fam 0 0 hKc) (by simp [lentV, updG])
   have hfl := fl_copy eChn hM x.hs (O 0 0).xs (H + 24) (.slice d (H + 24) p) (by rw [HH.out.1]) (fun k hk => hA k (by rw [HH.out.1] at hk; exact hk))
   obtain ⟨o0, ho0⟩ : ∃ o0 : ObG, o0 = ⟨.slice d (H + 24) p, H + 24, x.hs.flatMap eChn.vs ++ (O 0 0).xs.drop (x.hs.flatMap eChn.vs).length⟩ := ⟨_, rfl⟩
   rw [← ho0] at hfl
   have e0 : (⟨(O 0 0).u, (O 0 0).n, x.hs.flatMap eChn.vs ++ (O 0 0).xs.drop (x.hs.flatMap eChn.vs).length⟩ : ObG) = o0 := by rw [ho0, eu, hn]
   rw [e0] at hI1
   obtain ⟨O1, hO1⟩ : ∃ O1, O1 = updG O 0 0 o0 := ⟨_, rfl⟩
   have hO0 : O1 0 0 = o0 := by rw [hO1, updG_self]
   have hP1 : LP x 0 0 O1 := by rw [hO1]; exact hP.chs o0
   rw [← hO1] at hI1
   have hou : o0.u = .slice d (H + 24) p := by rw [ho0]
   have c6' : W1.cell? ⟨C, 6, none⟩ = some (.slice x.ha H x.hc) := by have := hI1.cfg.cell (i := 6) rfl; rw [HH.out.1] at this; exact this
   obtain ⟨M, hMe⟩ : ∃ M, H + 24 = M := ⟨_, rfl⟩
   rw [hMe] at eu hcp hou hcap
   have r7 : wr.cell? ⟨R, 7, none⟩ = some (.slice d M p) := by rw [← eu]; exact hI.room.cell (i := 7) rfl
   have r7' : W1.cell? ⟨R, 7, none⟩ = some (.slice d M p) := by rw [← hou, ← hO0]; exact hI1.room.cell (i := 7) rfl
   have r6' : W1.cell? ⟨R, 6, none⟩ = some (.slice x.ha x.hs.length x.hc) := hI1.room.cell (i := 6) rfl
   have rf6 : W1.frozen? ⟨R, 6, none⟩ = false := hI1.room.frozen 6
   have hI2 : LeI w x C A R lo N (.slice x.ca x.cs.length x.cc) (.slice x.pa x.ps.length x.pc) (.slice d H p) O1 (W1.setCell ⟨R, 6, none⟩ (.slice d H p)) := hI1.put hI1.fam (Keeps.refl _ _) 6 (.slice d H p) rfl
   obtain ⟨W2, hW2⟩ : ∃ W2, W2 = W1.setCell ⟨R, 6, none⟩ (.slice d H p) := ⟨_, rfl⟩
   rw [← hW2] at hI2
   have HI2 : Hid (LeI w x C A R lo N (.slice x.ca x.cs.length x.cc) (.slice x.pa x.ps.length x.pc) (.slice d H p) O1 W2 ∧ LP x 0 0 O1 ∧ O1 0 0 = o0) := ⟨hI2, hP1, hO0⟩
   have HO : Hid (Fl eChn hM x.hs o0 ∧ o0.u = .slice d M p ∧ H + 24 = M ∧ M ≤ p ∧ p ≤ maxLen) := ⟨hfl, hou, hMe, hcap, hpm⟩
   have HCP : Hid (∀ ty, (Builtin.copy_ #[24, 24] ty #[.slice d M p, .slice x.ha H x.hc]).run Tryz.prog wr = .ok (goInt H) W1) := hcp
   have q1 : (H : Int) ≤ p := by omega
   have q2 : (p : Int) ≤ 9223372036854775807 := by unfold maxLen at hpm; omega
   have q3 : (M : Int) = H + 24 := by omega
   have hz : ¬ ((M : Int) < (H : Int) + 24) := by omega
   have hjn : (↑(H + 24) : Int) = M := by omega
   clear hI hP hn hA hj hlt hF hKc hI1 hfl ho0 e0 hO1 hO0 hP1 eu hcp hou hcap hpm hI2
   rw [hMe]
   go_wp2_with (refine isCopy (.tmp 33) (.tmp 35) 24 24 rfl ?_; go_must (refine wpList_copy_run rfl (.tmp 33) (.tmp 35) 24 24 rfl (.slice d M p) (.slice x.ha H x.hc) (goInt H) W1 rfl rfl HCP.out ?_; refine Hid.out ?_))
   unfold Hid
   clear HCP r7
   go_wp2
   rw [← hW2]
   clear hW2 c6' r7' r6' rf6 q1 q2 q3 hz hjn
   go_loopw [5] (fun i wr => ∃ (j : Nat) (O : Nat → Nat → ObG), j ≤ L + 24 ∧ i = .int .i64 j ∧ LeI w x C A R lo N (.slice x.ca x.cs.length x.cc) (.slice x.pa x.ps.length x.pc) (.slice d H p) O wr ∧ LP x j 0 O ∧ O 0 0 = o0) (fun i _ => L + 24 - (intOf i).toNat)
   case atStart => exact ⟨0, O1, by omega, rfl, HI2.out.1, HI2.out.2.1, HI2.out.2.2⟩
   case round =>
    obtain ⟨j, O, hj, rfl, hI, hP, hO0⟩ := hrel
    clear HI2
    have c4 : wr.cell? ⟨C, 4, none⟩ = some (.slice x.ca L x.cc) := by have := hI.cfg.cell (i := 4) rfl; rw [HH.out.2.1] at this; exact this
    by_cases hlt : j < L + 24
    ·
     by_cases hge : L ≤ j
     ·
      have hjz : (j : Int) < (L : Int) + 24 := by omega
      have hjg : (j : Int) ≥ (L : Int) := by omega
      have hjg2 : (L : Int) ≤ (j : Int) := by omega
      obtain ⟨d1, p1, eu, _, _⟩ := hI.fam.form 0 1
      rw [hP.n1] at eu
      have r8 : wr.cell? ⟨R, 8, none⟩ = some (.slice d1 j p1) := by rw [← eu]; exact hI.room.cell (i := 8) rfl
      have HE : Hid ((O 0 1).u = .slice d1 j p1) := eu
      have HI : Hid (LeI w x C A R lo N (.slice x.ca x.cs.length x.cc) (.slice x.pa x.ps.length x.pc) (.slice d H p) O wr ∧ LP x j 0 O ∧ O 0 0 = o0) := ⟨hI, hP, hO0⟩
      have HJ : Hid (j ≤ 281474976710656 ∧ (j + 1) * 24 ≤ 140737488355328 ∧ j < L + 24 ∧ L ≤ j) := by have := HB.out.cs; rw [HH.out.2.1] at this; unfold Hid; omega
      clear hI hP hO0 hlt hj hge eu
      go_upto_region 12 with fail
      clear c4
      refine wp_region_held_drew (S := fun _ => True) Tryz.mixd trivial (fun hHeld => ?_)
      simp only [t1, t2, List.length_nil, Nat.reduceAdd, t4, Array.replicate_zero, t6, List.append_toArray, List.nil_append, t8]
      refine hk 0 (.pointer (some ⟨R, 8, none⟩)) hHeld ?_
      refine hk 2 (.int .i64 (j : Int)) hHeld ?_
      simp only [Act.put, s1, s2, s3]
      refine wpAnyH_ready (rs := [1, 3]) (by kernel_rfl) (by simp) ?_
      refine AllReadyH.cons rfl (fun Kq hK => ?_) (AllReadyH.cons rfl (fun Kq hK => ?_) AllReadyH.nil)
      ·
       go_simp
       refine hK.out _ _ trivial (fun hHeld => ?_)
       simp only [Act.put, s1, s2, s3]
       clear r8
       refine rd 3 fun Kq hK => ?_
       go_simp
       refine (coM_any j HJ.out.1 _).mono ?_
       rintro e w1 ⟨g, rfl, hge2, hBg, hK1⟩
       refine hK.out _ _ trivial (fun hHeld => ?_)
       simp only [Act.put, s1, s2, s3]
       have hKw : KF wr w1 := ((Keeps.refl _ wr).drew).trans hK1 fun _ _ h => h
       have hF1 : FamO lo w1 (updG O 4 j ⟨.slice (some ⟨g, 0, none⟩) 1 1, 1, wM j⟩) := HI.out.1.fam.grow 4 j (own_blk hBg rfl (by rw [ty_4]; decide) (by unfold maxLen; omega)) (.inr (.inr ⟨g, rfl, hge2⟩)) (hKw.mono fun _ _ h => h.elim)
       have hI1 := HI.out.1.inner hF1 (hKw.mono fun _ _ h => h.elim) (lentV_upd x _ _ _ O 4 j _ (by omega))
       obtain ⟨O1, hO1⟩ : ∃ O1, O1 = updG O 4 j ⟨.slice (some ⟨g, 0, none⟩) 1 1, 1, wM j⟩ := ⟨_, rfl⟩
       rw [← hO1] at hI1
       have e01 : O1 0 1 = O 0 1 := by rw [hO1, updG_ne _ _ (by omega)]
       have hn1 : (O1 0 1).n = j := by rw [e01]; exact HI.out.2.1.n1
       have eu1 : (O1 0 1).u = .slice d1 j p1 := by rw [e01]; exact HE.out
       obtain ⟨d2, p2, W', hr, b7, bf, hI2, hlen, _⟩ := hI1.app 1 8 (by omega) rfl 22 _ 24 Tryz.underlying22 Tryz.inf43 rfl (by decide) #[.slice (some ⟨g, 0, none⟩) 1 1] rfl (by intro u hu; simp at hu; subst hu; rfl) hn1 eu1 HJ.out.1 HJ.out.2.1
       obtain ⟨X2, hX2⟩ : ∃ X2, X2 = W'.setCell ⟨R, 8, none⟩ (.slice d2 (j + 1) p2) := ⟨_, rfl⟩
       have HAP : Hid _ := hr
       have HN : Hid (∃ O', LeI w x C A R lo N (.slice x.ca x.cs.length x.cc) (.slice x.pa x.ps.length x.pc) (.slice d H p) O' X2 ∧ LP x (j + 1) 0 O' ∧ O' 0 0 = o0) := by
        refine ⟨_, by rw [hX2]; exact hI2, ?_, ?_⟩
        ·
         have := HI.out.2.1.spareC (u1 := .slice d2 (j + 1) p2) (l := ⟨.slice (some ⟨g, 0, none⟩) 1 1, 1, wM j⟩) (by rw [HH.out.2.1]; exact HJ.out.2.2.2) ⟨rfl, fun k v hv => by rw [Nat.zero_mul, Nat.zero_add]; exact hv⟩ (by rw [← e01]; exact hlen)
         rw [e01, hO1]
         exact this
        ·
         rw [updG_ne _ _ (by omega), hO1, updG_ne _ _ (by omega)]; exact HI.out.2.2
       clear hI1 hr hlen hI2 hF1 hKw hO1 e01 hn1 eu1 hBg
       refine rd 4 fun Kq hK => ?_
       go_simp
       refine hK.out _ _ trivial (fun hHeld => ?_)
       simp only [Act.put, s1, s2, s3]
       refine rd 5 fun Kq hK => ?_
       rw [if_pos (by rfl)]
       refine wp_append_run (.tmp 59) (.tmp 62) 22 22 rfl (.slice d1 j p1) (.slice (some ⟨w1.heap.size, 0, none⟩) 1 1) _ W' rfl rfl HAP.out ?_
       refine hK.out _ _ trivial (fun hHeld => ?_)
       simp only [Act.put, s1, s2, s3]
       refine hk 6 (.pointer (some ⟨R, 8, none⟩)) hHeld ?_
       simp only [Act.put, s1, s2, s3]
       refine rd 7 fun Kq hK => ?_
       go_simp
       refine hK.out _ _ trivial (fun hHeld => ?_)
       simp only [Act.put, s1, s2, s3]
       refine wpAnyH_done (by kernel_rfl) ?_ _
       rw [← hX2]
       clear hHeld hK b7 bf hX2
       go_wp2
       go_roundw
       case rel => obtain ⟨O', h1, h2, h3⟩ := HN.out; exact ⟨j + 1, O', HJ.out.2.2.1, by go_num, h1, h2, h3⟩
       case measure => have := HJ.out.2.2.1; simp [intOf]; omega
      ·
       go_simp
       refine (coM_any j HJ.out.1 _).mono ?_
       rintro e w1 ⟨g, rfl, hge2, hBg, hK1⟩
       have r9 : w1.cell? ⟨R, 8, none⟩ = some (.slice d1 j p1) := cell_kept (w := wr.drew) r8 hK1 fun h => h
       refine hK.out _ _ trivial (fun hHeld => ?_)
       simp only [Act.put, s1, s2, s3]
       clear r8
       have hKw : KF wr w1 := ((Keeps.refl _ wr).drew).trans hK1 fun _ _ h => h
       have hF1 : FamO lo w1 (updG O 4 j ⟨.slice (some ⟨g, 0, none⟩) 1 1, 1, wM j⟩) := HI.out.1.fam.grow 4 j (own_blk hBg rfl (by rw [ty_4]; decide) (by unfold maxLen; omega)) (.inr (.inr ⟨g, rfl, hge2⟩)) (hKw.mono fun _ _ h => h.elim)
       have hI1 := HI.out.1.inner hF1 (hKw.mono fun _ _ h => h.elim) (lentV_upd x _ _ _ O 4 j _ (by omega))
       obtain ⟨O1, hO1⟩ : ∃ O1, O1 = updG O 4 j ⟨.slice (some ⟨g, 0, none⟩) 1 1, 1, wM j⟩ := ⟨_, rfl⟩
       rw [← hO1] at hI1
       have e01 : O1 0 1 = O 0 1 := by rw [hO1, updG_ne _ _ (by omega)]
       have hn1 : (O1 0 1).n = j := by rw [e01]; exact HI.out.2.1.n1
       have eu1 : (O1 0 1).u = .slice d1 j p1 := by rw [e01]; exact HE.out
       obtain ⟨d2, p2, W', hr, b7, bf, hI2, hlen, _⟩ := hI1.app 1 8 (by omega) rfl 22 _ 24 Tryz.underlying22 Tryz.inf43 rfl (by decide) #[.slice (some ⟨g, 0, none⟩) 1 1] rfl (by intro u hu; simp at hu; subst hu; rfl) hn1 eu1 HJ.out.1 HJ.out.2.1
       obtain ⟨X2, hX2⟩ : ∃ X2, X2 = W'.setCell ⟨R, 8, none⟩ (.slice d2 (j + 1) p2) := ⟨_, rfl⟩
       have HAP : Hid _ := hr
       have HN : Hid (∃ O', LeI w x C A R lo N (.slice x.ca x.cs.length x.cc) (.slice x.pa x.ps.length x.pc) (.slice d H p) O' X2 ∧ LP x (j + 1) 0 O' ∧ O' 0 0 = o0) := by
        refine ⟨_, by rw [hX2]; exact hI2, ?_, ?_⟩
        ·
         have := HI.out.2.1.spareC (u1 := .slice d2 (j + 1) p2) (l := ⟨.slice (some ⟨g, 0, none⟩) 1 1, 1, wM j⟩) (by rw [HH.out.2.1]; exact HJ.out.2.2.2) ⟨rfl, fun k v hv => by rw [Nat.zero_mul, Nat.zero_add]; exact hv⟩ (by rw [← e01]; exact hlen)
         rw [e01, hO1]
         exact this
        ·
         rw [updG_ne _ _ (by omega), hO1, updG_ne _ _ (by omega)]; exact HI.out.2.2
       clear hI1 hr hlen hI2 hF1 hKw hO1 e01 hn1 eu1 hBg
       refine wpAnyH_ready (rs := [1, 4]) (by kernel_rfl) (by simp) ?_
       refine AllReadyH.cons rfl (fun Kq hK => ?_) (AllReadyH.cons rfl (fun Kq hK => ?_) AllReadyH.nil)
       ·
        go_simp
        refine hK.out _ _ trivial (fun hHeld => ?_)
        simp only [Act.put, s1, s2, s3]
        clear r9
        refine rd 4 fun Kq hK => ?_
        go_simp
        refine hK.out _ _ trivial (fun hHeld => ?_)
        simp only [Act.put, s1, s2, s3]
        refine rd 5 fun Kq hK => ?_
        rw [if_pos (by rfl)]
        refine wp_append_run (.tmp 59) (.tmp 62) 22 22 rfl (.slice d1 j p1) (.slice (some ⟨w1.heap.size, 0, none⟩) 1 1) _ W' rfl rfl HAP.out ?_
        refine hK.out _ _ trivial (fun hHeld => ?_)
        simp only [Act.put, s1, s2, s3]
        refine hk 6 (.pointer (some ⟨R, 8, none⟩)) hHeld ?_
        simp only [Act.put, s1, s2, s3]
        refine rd 7 fun Kq hK => ?_
        go_simp
        refine hK.out _ _ trivial (fun hHeld => ?_)
        simp only [Act.put, s1, s2, s3]
        refine wpAnyH_done (by kernel_rfl) ?_ _
        rw [← hX2]
        clear hHeld hK b7 bf hX2
        go_wp2
        go_roundw
        case rel => obtain ⟨O', h1, h2, h3⟩ := HN.out; exact ⟨j + 1, O', HJ.out.2.2.1, by go_num, h1, h2, h3⟩
        case measure => have := HJ.out.2.2.1; simp [intOf]; omega
       ·
        have r10 : (w1.alloc (.cells #[.slice (some ⟨g, 0, none⟩) 1 1] 42)).cell? ⟨R, 8, none⟩ = some (.slice d1 j p1) := cell_kept (S := fun _ => False) r9 ((Keeps.refl _ w1).alloc _) fun h => h
        clear r9
        go_simp
        refine hK.out _ _ trivial (fun hHeld => ?_)
        simp only [Act.put, s1, s2, s3]
        refine rd 1 fun Kq hK => ?_
        go_simp
        refine hK.out _ _ trivial (fun hHeld => ?_)
        simp only [Act.put, s1, s2, s3]
        clear r10
        refine rd 5 fun Kq hK => ?_
        rw [if_pos (by rfl)]
        refine wp_append_run (.tmp 59) (.tmp 62) 22 22 rfl (.slice d1 j p1) (.slice (some ⟨w1.heap.size, 0, none⟩) 1 1) _ W' rfl rfl HAP.out ?_
        refine hK.out _ _ trivial (fun hHeld => ?_)
        simp only [Act.put, s1, s2, s3]
        refine hk 6 (.pointer (some ⟨R, 8, none⟩)) hHeld ?_
        simp only [Act.put, s1, s2, s3]
        refine rd 7 fun Kq hK => ?_
        go_simp
        refine hK.out _ _ trivial (fun hHeld => ?_)
        simp only [Act.put, s1, s2, s3]
        refine wpAnyH_done (by kernel_rfl) ?_ _
        rw [← hX2]
        clear hHeld hK b7 bf hX2
        go_wp2
        go_roundw
        case rel => obtain ⟨O', h1, h2, h3⟩ := HN.out; exact ⟨j + 1, O', HJ.out.2.2.1, by go_num, h1, h2, h3⟩
        case measure => have := HJ.out.2.2.1; simp [intOf]; omega
     ·
      have hjz : (j : Int) < (L : Int) + 24 := by omega
      have hjl : (j : Int) < (L : Int) := by omega
      have hjg : ¬ (j : Int) ≥ (L : Int) := by omega
      have hjg2 : ¬ (L : Int) ≤ (j : Int) := by omega
      obtain ⟨X, hX⟩ : ∃ X, x.cs[j]? = some X := ⟨_, List.getElem?_eq_getElem (by have := HH.out.2.1; omega)⟩
      obtain ⟨g0, o0a, ea, p0⟩ := hI.cin.core hX
      have hXi := hI.cin.cin X (List.mem_of_getElem? hX)
      have hXb := HB.out.ws X (List.mem_of_getElem? hX)
      rw [ea] at c4
      obtain ⟨XL, hXL⟩ : ∃ XL, X.ws.length = XL := ⟨_, rfl⟩
      dsimp only [Core.v] at p0
      rw [hXL] at p0 hXb
      obtain ⟨G, hG⟩ : ∃ G, G = wr.heap.size := ⟨_, rfl⟩
      obtain ⟨l0, hl0, hmk⟩ := run_mk Tryz.underlying42 Tryz.inf45 (by omega) wr (XL + 24) (by omega) (by omega)
      obtain ⟨V1, hV1⟩ : ∃ V1, V1 = wr.alloc (.cells l0.toArray 44) := ⟨_, rfl⟩
      have eM : ((XL + 24 : Nat) : Int) = (XL : Int) + 24 := by omega
      rw [eM, ← hV1, ← hG] at hmk
      obtain ⟨M2, hM2⟩ : ∃ M2, XL + 24 = M2 := ⟨_, rfl⟩
      rw [hM2] at hmk hl0
      have HMK : Hid ((Instr.makeSlice 42 (.int .i64 ((XL : Int) + 24)) (.int .i64 ((XL : Int) + 24))).run Tryz.prog wr = .ok (.slice (some ⟨G, 0, none⟩) M2 M2) V1) := hmk
      have H0 : Hid (Blk V1 G l0 44 ∧ l0.length = M2 * 3 ∧ KF wr V1) := ⟨by rw [hV1, hG]; exact Blk.new wr l0.toArray 44, hl0, by rw [hV1]; exact (Keeps.refl _ _).alloc _⟩
      have HG : Hid (wr.heap.size ≤ G) := by rw [hG]; exact Nat.le_refl _
      have HI : Hid (LeI w x C A R lo N (.slice x.ca x.cs.length x.cc) (.slice x.pa x.ps.length x.pc) (.slice d H p) O wr ∧ LP x j 0 O ∧ O 0 0 = o0) := ⟨hI, hP, hO0⟩
      have HX : Hid (x.cs[j]? = some X ∧ X.ws.length = XL ∧ XL + 24 = M2 ∧ SegA Win.vs 3 wr X.a X.ws ∧ x.ca = some ⟨g0, o0a, none⟩) := ⟨hX, hXL, hM2, hXi.seg, ea⟩
      have HJ : Hid (j ≤ 281474976710656 ∧ (j + 1) * 24 ≤ 140737488355328 ∧ j < L) := by have := HB.out.cs; rw [HH.out.2.1] at this; unfold Hid; omega
      have HC : Hid (wr.cell? ⟨C, 4, none⟩ = some (.slice (some ⟨g0, o0a, none⟩) L x.cc) ∧ wr.cell? ⟨g0, o0a + j, none⟩ = some (.slice X.a XL X.c)) := ⟨c4, p0⟩
      have hXz : (XL : Int) ≤ 140737488351232 := by omega
      have hMz : (M2 : Int) ≤ 140737488351256 := by omega
      have hXc : (XL : Int) ≤ X.c := by have := hXi.len; omega
      have hXM : (XL : Int) ≤ M2 := by omega
      clear hI hP hO0 hlt hj hge ea hX hXi hXb hXL hl0 hmk hV1 eM hM2 hG
      go_wp2_with (at_make; refine wpList_make_run rfl (.tmp 72) (.tmp 72) 42 rfl (.int .i64 ((XL : Int) + 24)) (.int .i64 ((XL : Int) + 24)) (.slice (some ⟨G, 0, none⟩) M2 M2) V1 rfl rfl HMK.out ?_; refine Hid.out ?_)
      unfold Hid
      clear c4 p0 HMK
      go_wp2
      obtain ⟨wo, hwo⟩ : ∃ wo, wo = wr := ⟨_, rfl⟩
      go_loopw [8] (fun i wq => ∃ (k : Nat) (l : List Value), k ≤ M2 ∧ i = .int .i64 k ∧ Blk wq G l 44 ∧ l.length = M2 * 3 ∧ (∀ q, q < k → At l 3 q (wM q)) ∧ KF wo wq) (fun i _ => M2 - (intOf i).toNat)
      case atStart => exact ⟨0, l0, by omega, rfl, H0.out.1, H0.out.2.1, fun q h => by omega, by rw [hwo]; exact H0.out.2.2⟩
      case round =>
       obtain ⟨k, l, hk, rfl, hBl, hll, hA2, hKq⟩ := hrel
       by_cases hkm : k < M2
       ·
        have hkz : (k : Int) < M2 := by omega
        have HQ : Hid (Blk wr G l 44 ∧ l.length = M2 * 3 ∧ (∀ q, q < k → At l 3 q (wM q)) ∧ KF wo wr ∧ k < M2 ∧ k ≤ 281474976710656) := ⟨hBl, hll, hA2, hKq, hkm, by omega⟩
        clear hBl hll hA2 hKq hkm hk
        go_wp2_with fail
        refine (wiM_any k HQ.out.2.2.2.2.2 _).mono ?_
        rintro e w1 ⟨rfl, hK1⟩
        obtain ⟨W9, hW9⟩ : ∃ W9, W9 = w1.setRow G (l.take (k * 3) ++ [Value.int .i64 (-(k : Int)), Value.int .i64 (k : Int), Value.int .i64 (-(k : Int))] ++ l.drop (k * 3 + [Value.int .i64 (-(k : Int)), Value.int .i64 (k : Int), Value.int .i64 (-(k : Int))].length)).toArray := ⟨_, rfl⟩
        have HB1 : Hid (Blk w1 G l 44 ∧ k * 3 + 3 ≤ l.length) := ⟨HQ.out.1.kept hK1 fun h => h, by have := HQ.out.2.1; have := HQ.out.2.2.2.2.1; omega⟩
        have HN : Hid (Blk W9 G (l.take (k * 3) ++ [Value.int .i64 (-(k : Int)), Value.int .i64 (k : Int), Value.int .i64 (-(k : Int))] ++ l.drop (k * 3 + [Value.int .i64 (-(k : Int)), Value.int .i64 (k : Int), Value.int .i64 (-(k : Int))].length)) 44 ∧ (l.take (k * 3) ++ [Value.int .i64 (-(k : Int)), Value.int .i64 (k : Int), Value.int .i64 (-(k : Int))] ++ l.drop (k * 3 + [Value.int .i64 (-(k : Int)), Value.int .i64 (k : Int), Value.int .i64 (-(k : Int))].length)).length = M2 * 3 ∧ (∀ q, q < k + 1 → At (l.take (k * 3) ++ [Value.int .i64 (-(k : Int)), Value.int .i64 (k : Int), Value.int .i64 (-(k : Int))] ++ l.drop (k * 3 + [Value.int .i64 (-(k : Int)), Value.int .i64 (k : Int), Value.int .i64 (-(k : Int))].length)) 3 q (wM q)) ∧ KF wo W9) := by
         refine ⟨by rw [hW9]; exact HB1.out.1.setRow _, by rw [put_len (s := 3) (cs := [Value.int .i64 (-(k : Int)), Value.int .i64 (k : Int), Value.int .i64 (-(k : Int))]) rfl HB1.out.2]; exact HQ.out.2.1, fun q hq => ?_, ?_⟩
         ·
          by_cases e : q = k
          ·
           rw [e]; exact at_self (cs := [Value.int .i64 (-(k : Int)), Value.int .i64 (k : Int), Value.int .i64 (-(k : Int))]) rfl HB1.out.2
          ·
           exact at_put (cs := [Value.int .i64 (-(k : Int)), Value.int .i64 (k : Int), Value.int .i64 (-(k : Int))]) rfl rfl HB1.out.2 e (HQ.out.2.2.1 q (by omega))
         ·
          rw [hW9]
          exact (HQ.out.2.2.2.1.trans hK1 fun _ _ h => h).setRow _ _ fun h => by have := HG.out; rw [hwo] at h; omega
        have HW9 : Hid (W9 = w1.setRow G (l.take (k * 3) ++ [Value.int .i64 (-(k : Int)), Value.int .i64 (k : Int), Value.int .i64 (-(k : Int))] ++ l.drop (k * 3 + [Value.int .i64 (-(k : Int)), Value.int .i64 (k : Int), Value.int .i64 (-(k : Int))].length)).toArray) := hW9
        clear hK1 hW9
        go_wp2_with (refine wpList_store_mid rfl 44 (.tmp 84) (.tmp 83) rfl G (k * 3) [Value.int .i64 (-(k : Int)), Value.int .i64 (k : Int), Value.int .i64 (-(k : Int))] rfl rfl 44 l HB1.out.1 Tryz.sz44 HB1.out.2 (by intro v hv; simp at hv; rcases hv with rfl | rfl | rfl <;> rfl) ?_; rw [← HW9.out]; refine Hid.out ?_)
        unfold Hid
        go_wp2
        go_roundw
        case rel => exact ⟨k + 1, _, HQ.out.2.2.2.2.1, by go_num, HN.out.1, HN.out.2.1, HN.out.2.2.1, HN.out.2.2.2⟩
        case measure => have := HQ.out.2.2.2.2.1; simp [intOf]; omega
       ·
        have hkM : M2 = k := by omega
        subst hkM
        have hI := HI.out.1
        have hKo : KF wo wr := hKq
        subst hwo
        have c4 := cell_kept HC.out.1 hKq fun h => h
        have p0 := cell_kept HC.out.2 hKq fun h => h
        have hfl := fl_copy eWin wM X.ws l M2 (.slice (some ⟨G, 0, none⟩) M2 M2) (by rw [HX.out.2.1, HX.out.2.2.1]) (fun q hq => hA2 q (by rw [HX.out.2.1, HX.out.2.2.1] at hq; exact hq))
        have hfx : (X.ws.flatMap eWin.vs).length = XL * 3 := by rw [flat_len, HX.out.2.1]; rfl
        have hcp : ∀ ty, (Builtin.copy_ #[42, 42] ty #[.slice (some ⟨G, 0, none⟩) M2 M2, .slice X.a XL X.c]).run Tryz.prog wr = .ok (goInt XL) (wr.setRow G (X.ws.flatMap eWin.vs ++ l.drop (X.ws.flatMap eWin.vs).length).toArray) := fun ty => run_copy_big 42 ty 44 3 (by omega) G M2 M2 X.a XL X.c l 44 (X.ws.flatMap eWin.vs) Tryz.underlying42 Tryz.sz44 hBl hfx (by omega) (seg_src eWin (HX.out.2.2.2.1.kept hKq fun _ _ _ h => h)) (by rw [hfx, hll]; omega) (plain_one plainWin X.ws)
        obtain ⟨W3, hW3⟩ : ∃ W3, W3 = wr.setRow G (X.ws.flatMap eWin.vs ++ l.drop (X.ws.flatMap eWin.vs).length).toArray := ⟨_, rfl⟩
        rw [← hW3] at hcp
        obtain ⟨l3, hl3⟩ : ∃ l3, l3 = X.ws.flatMap eWin.vs ++ l.drop (X.ws.flatMap eWin.vs).length := ⟨_, rfl⟩
        rw [← hl3] at hfl
        have hB3 : Blk W3 G l3 44 := by rw [hW3, hl3]; exact hBl.setRow _
        have hK3 : KF wo W3 := by rw [hW3]; exact hKq.setRow _ _ fun h => by have := HG.out; omega
        have hF1 : FamO lo W3 (updG O 1 j ⟨.slice (some ⟨G, 0, none⟩) M2 M2, M2, l3⟩) := hI.fam.grow 1 j (own_blk hB3 (by rw [hl3]; simp only [List.length_append, List.length_drop, hll, hfx]; rw [ty_1]; omega) (by rw [ty_1]; decide) (by unfold maxLen; omega)) (.inr (.inr ⟨G, rfl, HG.out⟩)) (hK3.mono fun _ _ h => h.elim)
        have hI1 := hI.inner hF1 (hK3.mono fun _ _ h => h.elim) (lentV_upd x _ _ _ O 1 j _ (by omega))
        obtain ⟨O1, hO1⟩ : ∃ O1, O1 = updG O 1 j ⟨.slice (some ⟨G, 0, none⟩) M2 M2, M2, l3⟩ := ⟨_, rfl⟩
        rw [← hO1] at hI1
        have e01 : O1 0 1 = O 0 1 := by rw [hO1, updG_ne _ _ (by omega)]
        have e02 : O1 0 2 = O 0 2 := by rw [hO1, updG_ne _ _ (by omega)]
        have e00 : O1 0 0 = o0 := by rw [hO1, updG_ne _ _ (by omega)]; exact HI.out.2.2
        have hn1 : (O1 0 1).n = j := by rw [e01]; exact HI.out.2.1.n1
        have hn2 : (O1 0 2).n = j := by rw [e02, HI.out.2.1.n2, HH.out.2.1]; have := HJ.out.2.2; omega
        obtain ⟨d2, p2, eu2, _, _⟩ := hI1.fam.form 0 2
        rw [hn2] at eu2
        obtain ⟨d3, p3, W4, hr, b9, bf, hI2, hlen2, _⟩ := hI1.app 2 9 (by omega) rfl 22 _ 24 Tryz.underlying22 Tryz.inf43 rfl (by decide) #[.slice (some ⟨G, 0, none⟩) M2 M2] rfl (by intro u hu; simp at hu; subst hu; rfl) hn2 eu2 HJ.out.1 HJ.out.2.1
        have r9 : W3.cell? ⟨R, 9, none⟩ = some (.slice d2 j p2) := by have := hI1.room.cell (i := 9) rfl; rw [eu2] at this; exact this
        obtain ⟨X2, hX2⟩ : ∃ X2, X2 = W4.setCell ⟨R, 9, none⟩ (.slice d3 (j + 1) p3) := ⟨_, rfl⟩
        rw [← hX2] at hI2
        obtain ⟨O2, hO2⟩ : ∃ O2, O2 = updG O1 0 2 ⟨.slice d3 (j + 1) p3, j + 1, (O1 0 2).xs ++ [.slice (some ⟨G, 0, none⟩) M2 M2]⟩ := ⟨_, rfl⟩
        have e21 : O2 0 1 = O 0 1 := by rw [hO2, updG_ne _ _ (by omega)]; exact e01
        have e20 : O2 0 0 = o0 := by rw [hO2, updG_ne _ _ (by omega)]; exact e00
        have HAP : Hid _ := hr
        have HI2 : Hid (LeI w x C A R lo N (.slice x.ca x.cs.length x.cc) (.slice x.pa x.ps.length x.pc) (.slice d H p) O2 X2) := by rw [hO2]; exact hI2
        have HCP : Hid (∀ ty, (Builtin.copy_ #[42, 42] ty #[.slice (some ⟨G, 0, none⟩) M2 M2, .slice X.a XL X.c]).run Tryz.prog wr = .ok (goInt XL) W3) := hcp
        have HZ : Hid (O1 = updG O 1 j ⟨.slice (some ⟨G, 0, none⟩) M2 M2, M2, l3⟩ ∧ O2 = updG O1 0 2 ⟨.slice d3 (j + 1) p3, j + 1, (O1 0 2).xs ++ [.slice (some ⟨G, 0, none⟩) M2 M2]⟩ ∧ O2 0 1 = O 0 1 ∧ O1 0 2 = O 0 2 ∧ O2 0 0 = o0 ∧ (O 0 2).xs.length = j * 1 ∧ Fl eWin wM X.ws ⟨.slice (some ⟨G, 0, none⟩) M2 M2, M2, l3⟩) := ⟨hO1, hO2, e21, e02, e20, by rw [← e02]; exact hlen2, hfl⟩
        clear hI hKo hKq hBl hll hA2 hk hkm hfl hfx hcp hW3 hl3 hB3 hK3 hF1 hI1 hO1 e01 e02 e00 hn1 hn2 eu2 hr hlen2 hI2 hO2 e21 e20
        go_wp2_with (refine isCopy (.tmp 85) (.tmp 90) 42 42 rfl ?_; go_must (refine wpList_copy_run rfl (.tmp 85) (.tmp 90) 42 42 rfl (.slice (some ⟨G, 0, none⟩) M2 M2) (.slice X.a XL X.c) (goInt XL) W3 rfl rfl HCP.out ?_; refine Hid.out ?_))
        unfold Hid
        clear HCP c4 p0
        go_wp2_with (at_builtin; go_must (refine wpList_append_run rfl (.tmp 93) (.tmp 95) 22 22 rfl (.slice d2 j p2) (.slice (some ⟨W3.heap.size, 0, none⟩) 1 1) (.slice d3 (j + 1) p3) W4 rfl rfl HAP.out ?_; refine Hid.out ?_))
        unfold Hid
        clear r9 HAP
        go_upto_region 21 with fail
        rw [← hX2]
        clear hX2 b9 bf
        have hI := HI2.out
        obtain ⟨d4, p4, eu4, _, _⟩ := hI.fam.form 0 1
        have hn4 : (O2 0 1).n = j := by rw [HZ.out.2.2.1]; exact HI.out.2.1.n1
        rw [hn4] at eu4
        have r8 : X2.cell? ⟨R, 8, none⟩ = some (.slice d4 j p4) := by rw [← eu4]; exact hI.room.cell (i := 8) rfl
        have hID := hI.kept (W := X2.drew) ((Keeps.refl _ X2).drew)
        obtain ⟨d5, p5, W5, hr, b8, b8f, hI5, hlen4, _⟩ := hID.app 1 8 (by omega) rfl 22 _ 24 Tryz.underlying22 Tryz.inf43 rfl (by decide) #[.slice (some ⟨G, 0, none⟩) XL M2] rfl (by intro u hu; simp at hu; subst hu; rfl) hn4 eu4 HJ.out.1 HJ.out.2.1
        have ar : (X2.alloc (.cells #[.slice (some ⟨G, 0, none⟩) XL M2] 42)).cell? ⟨R, 8, none⟩ = some (.slice d4 j p4) := cell_kept (S := fun _ => False) r8 ((Keeps.refl _ X2).alloc _) fun h => h
        obtain ⟨X5, hX5⟩ : ∃ X5, X5 = W5.setCell ⟨R, 8, none⟩ (.slice d5 (j + 1) p5) := ⟨_, rfl⟩
        rw [← hX5] at hI5
        have HAP : Hid _ := hr
        have HN : Hid (∃ O', LeI w x C A R lo N (.slice x.ca x.cs.length x.cc) (.slice x.pa x.ps.length x.pc) (.slice d H p) O' X5 ∧ LP x (j + 1) 0 O' ∧ O' 0 0 = o0) := by
         obtain ⟨z1, z2, z3, z4, z5, z6, z7⟩ := HZ.out
         refine ⟨_, hI5, ?_, by rw [updG_ne _ _ (by omega)]; exact z5⟩
         have := HI.out.2.1.core (u2 := .slice d3 (j + 1) p3) (u1 := .slice d5 (j + 1) p5) (l := ⟨.slice (some ⟨G, 0, none⟩) M2 M2, M2, l3⟩) HX.out.1 z7 (by rw [← z3]; exact hlen4) z6
         rw [HX.out.2.1] at this
         rw [z3, z2, z4, z1]
         exact this
        clear hr hI5 hI hID eu4 hn4 hlen4
        refine wp_region_held_drew (S := fun _ => True) Tryz.mixd trivial (fun hHeld => ?_)
        simp only [t1, t2, List.length_nil, Nat.reduceAdd, t4, Array.replicate_zero, t6, List.append_toArray, List.nil_append, t8]
        refine hk 0 (.pointer (some ⟨R, 8, none⟩)) hHeld ?_
        refine hk 2 (.slice (some ⟨G, 0, none⟩) M2 M2) hHeld ?_
        refine hk 3 (.int .i64 (XL : Int)) hHeld ?_
        refine hk 4 (.slice (some ⟨G, 0, none⟩) XL M2) hHeld ?_
        simp only [Act.put, s1, s2, s3]
        refine wpAnyH_ready (rs := [1, 5]) (by kernel_rfl) (by simp) ?_
        refine AllReadyH.cons rfl (fun Kq hK => ?_) (AllReadyH.cons rfl (fun Kq hK => ?_) AllReadyH.nil)
        ·
         go_simp
         refine hK.out _ _ trivial (fun hHeld => ?_)
         simp only [Act.put, s1, s2, s3]
         clear r8 ar
         refine rd 5 fun Kq hK => ?_
         go_simp
         refine hK.out _ _ trivial (fun hHeld => ?_)
         simp only [Act.put, s1, s2, s3]
         refine rd 6 fun Kq hK => ?_
         rw [if_pos (by rfl)]
         refine wp_append_run (.tmp 99) (.tmp 103) 22 22 rfl (.slice d4 j p4) (.slice (some ⟨X2.heap.size, 0, none⟩) 1 1) _ W5 rfl rfl HAP.out ?_
         refine hK.out _ _ trivial (fun hHeld => ?_)
         simp only [Act.put, s1, s2, s3]
         refine hk 7 (.pointer (some ⟨R, 8, none⟩)) hHeld ?_
         simp only [Act.put, s1, s2, s3]
         refine rd 8 fun Kq hK => ?_
         go_simp
         refine hK.out _ _ trivial (fun hHeld => ?_)
         simp only [Act.put, s1, s2, s3]
         refine wpAnyH_done (by kernel_rfl) ?_ _
         rw [← hX5]
         clear hHeld hK b8 b8f hX5
         go_wp2
         go_roundw
         case rel => obtain ⟨O', h1, h2, h3⟩ := HN.out; exact ⟨j + 1, O', by have := HJ.out.2.2; omega, by go_num, h1, h2, h3⟩
         case measure => have := HJ.out.2.2; simp [intOf]; omega
        ·
         go_simp
         refine hK.out _ _ trivial (fun hHeld => ?_)
         simp only [Act.put, s1, s2, s3]
         refine rd 1 fun Kq hK => ?_
         go_simp
         refine hK.out _ _ trivial (fun hHeld => ?_)
         simp only [Act.put, s1, s2, s3]
         clear r8 ar
         refine rd 6 fun Kq hK => ?_
         rw [if_pos (by rfl)]
         refine wp_append_run (.tmp 99) (.tmp 103) 22 22 rfl (.slice d4 j p4) (.slice (some ⟨X2.heap.size, 0, none⟩) 1 1) _ W5 rfl rfl HAP.out ?_
         refine hK.out _ _ trivial (fun hHeld => ?_)
         simp only [Act.put, s1, s2, s3]
         refine hk 7 (.pointer (some ⟨R, 8, none⟩)) hHeld ?_
         simp only [Act.put, s1, s2, s3]
         refine rd 8 fun Kq hK => ?_
         go_simp
         refine hK.out _ _ trivial (fun hHeld => ?_)
         simp only [Act.put, s1, s2, s3]
         refine wpAnyH_done (by kernel_rfl) ?_ _
         rw [← hX5]
         clear hHeld hK b8 b8f hX5
         go_wp2
         go_roundw
         case rel => obtain ⟨O', h1, h2, h3⟩ := HN.out; exact ⟨j + 1, O', by have := HJ.out.2.2; omega, by go_num, h1, h2, h3⟩
         case measure => have := HJ.out.2.2; simp [intOf]; omega
    ·
     obtain rfl : j = L + 24 := by omega
     obtain ⟨dC, pC, eu, hcap, hpm⟩ := hI.fam.form 0 1
     rw [hP.n1] at eu hcap
     obtain ⟨oC, hoC⟩ : ∃ oC, oC = O 0 1 := ⟨_, rfl⟩
     obtain ⟨MC, hMC⟩ : ∃ MC, L + 24 = MC := ⟨_, rfl⟩
     have r8 : wr.cell? ⟨R, 8, none⟩ = some (.slice dC MC pC) := by rw [← hMC, ← eu]; exact hI.room.cell (i := 8) rfl
     have r4 : wr.cell? ⟨R, 4, none⟩ = some (.slice x.ca x.cs.length x.cc) := hI.room.cell (i := 4) rfl
     have rf4 : wr.frozen? ⟨R, 4, none⟩ = false := hI.room.frozen 4
     have hI2 : LeI w x C A R lo N (.slice dC L pC) (.slice x.pa x.ps.length x.pc) (.slice d H p) O (wr.setCell ⟨R, 4, none⟩ (.slice dC L pC)) := hI.put hI.fam (Keeps.refl _ _) 4 (.slice dC L pC) rfl
     obtain ⟨W2, hW2⟩ : ∃ W2, W2 = wr.setCell ⟨R, 4, none⟩ (.slice dC L pC) := ⟨_, rfl⟩
     rw [← hW2] at hI2
     have HI2 : Hid (LeI w x C A R lo N (.slice dC L pC) (.slice x.pa x.ps.length x.pc) (.slice d H p) O W2 ∧ LP x (L + 24) 0 O ∧ O 0 0 = o0 ∧ O 0 1 = oC) := ⟨hI2, hP, hO0, hoC.symm⟩
     have HOC : Hid (oC.u = .slice dC (L + 24) pC ∧ L + 24 = MC) := ⟨by rw [hoC]; exact eu, hMC⟩
     have q1 : (L : Int) ≤ pC := by omega
     have q2 : (pC : Int) ≤ 9223372036854775807 := by unfold maxLen at hpm; omega
     have q3 : (L : Int) ≤ MC := by omega
     have hz : ¬ ((MC : Int) < (L : Int) + 24) := by omega
     clear hI hP hO0 hlt hj eu hcap hpm hI2 hoC
     rw [hMC]
     go_wp2
     rw [← hW2]
     clear hW2 r8 r4 rf4 q1 q2 q3 hz c4
     go_loopw [9] (fun i wr => ∃ (j : Nat) (O : Nat → Nat → ObG), j ≤ K + 24 ∧ i = .int .i64 j ∧ LeI w x C A R lo N (.slice dC L pC) (.slice x.pa x.ps.length x.pc) (.slice d H p) O wr ∧ LP x (L + 24) j O ∧ O 0 0 = o0 ∧ O 0 1 = oC) (fun i _ => K + 24 - (intOf i).toNat)
     case atStart => exact ⟨0, O, by omega, rfl, HI2.out.1, HI2.out.2.1, HI2.out.2.2.1, HI2.out.2.2.2⟩
     case round =>
      clear HI2
      obtain ⟨j, O, hj, rfl, hI, hP, hO0, hOC⟩ := hrel
      have c5 : wr.cell? ⟨C, 5, none⟩ = some (.slice x.pa K x.pc) := by have := hI.cfg.cell (i := 5) rfl; rw [HH.out.2.2] at this; exact this
      by_cases hlt : j < K + 24
      ·
       by_cases hge : K ≤ j
       ·
        have hjz : (j : Int) < (K : Int) + 24 := by omega
        have hjg : (j : Int) ≥ (K : Int) := by omega
        have hjg2 : (K : Int) ≤ (j : Int) := by omega
        obtain ⟨d1, p1, eu, _, _⟩ := hI.fam.form 0 3
        rw [hP.n3] at eu
        have r8 : wr.cell? ⟨R, 10, none⟩ = some (.slice d1 j p1) := by rw [← eu]; exact hI.room.cell (i := 10) rfl
        have HE : Hid ((O 0 3).u = .slice d1 j p1) := eu
        have HI : Hid (LeI w x C A R lo N (.slice dC L pC) (.slice x.pa x.ps.length x.pc) (.slice d H p) O wr ∧ LP x (L + 24) j O ∧ O 0 0 = o0 ∧ O 0 1 = oC) := ⟨hI, hP, hO0, hOC⟩
        have HJ : Hid (j ≤ 281474976710656 ∧ (j + 1) * 104 ≤ 140737488355328 ∧ j < K + 24 ∧ K ≤ j) := by have := HB.out.ps; rw [HH.out.2.2] at this; unfold Hid; omega
        clear hI hP hO0 hOC hlt hj hge eu
        go_upto_region 27 with fail
        clear c5
        refine wp_region_held_drew (S := fun _ => True) Tryz.mixd trivial (fun hHeld => ?_)
        simp only [t1, t2, List.length_nil, Nat.reduceAdd, t4, Array.replicate_zero, t6, List.append_toArray, List.nil_append, t8]
        refine hk 0 (.pointer (some ⟨R, 10, none⟩)) hHeld ?_
        refine hk 2 (.int .i64 (j : Int)) hHeld ?_
        simp only [Act.put, s1, s2, s3]
        refine wpAnyH_ready (rs := [1, 3]) (by kernel_rfl) (by simp) ?_
        refine AllReadyH.cons rfl (fun Kq hK => ?_) (AllReadyH.cons rfl (fun Kq hK => ?_) AllReadyH.nil)
        ·
         go_simp
         refine hK.out _ _ trivial (fun hHeld => ?_)
         simp only [Act.put, s1, s2, s3]
         clear r8
         refine rd 3 fun Kq hK => ?_
         go_simp
         refine (paM_any j HJ.out.1 _).mono ?_
         rintro e w1 ⟨rfl, hK1⟩
         refine hK.out _ _ trivial (fun hHeld => ?_)
         simp only [Act.put, s1, s2, s3]
         have hKw : KF wr w1 := ((Keeps.refl _ wr).drew).trans hK1 fun _ _ h => h
         have hI1 := HI.out.1.kept hKw
         have hn1 : (O 0 3).n = j := HI.out.2.1.n3
         obtain ⟨d2, p2, W', hr, b7, bf, hI2, hlen, _⟩ := hI1.app 3 10 (by omega) rfl 23 _ 104 Tryz.underlying23 Tryz.inf37 rfl (by decide) #[.string { data := #[] }, .int .i64 (-1000 - (j : Int)), .int .i64 0, .int .i64 0, .int .i64 0, .int .i64 0, .slice none 0 0, .slice none 0 0] rfl (by intro u hu; simp at hu; rcases hu with rfl | rfl | rfl | rfl <;> rfl) hn1 HE.out HJ.out.1 HJ.out.2.1
         obtain ⟨X2, hX2⟩ : ∃ X2, X2 = W'.setCell ⟨R, 10, none⟩ (.slice d2 (j + 1) p2) := ⟨_, rfl⟩
         have HAP : Hid _ := hr
         have HN : Hid (∃ O', LeI w x C A R lo N (.slice dC L pC) (.slice x.pa x.ps.length x.pc) (.slice d H p) O' X2 ∧ LP x (L + 24) (j + 1) O' ∧ O' 0 0 = o0 ∧ O' 0 1 = oC) := by
          refine ⟨_, by rw [hX2]; exact hI2, ?_, ?_, ?_⟩
          ·
           exact HI.out.2.1.spareP (u3 := .slice d2 (j + 1) p2) (by rw [HH.out.2.2]; exact HJ.out.2.2.2) hlen
          ·
           rw [updG_ne _ _ (by omega)]; exact HI.out.2.2.1
          ·
           rw [updG_ne _ _ (by omega)]; exact HI.out.2.2.2
         clear hI1 hr hlen hI2 hKw hn1
         refine rd 4 fun Kq hK => ?_
         go_simp
         refine hK.out _ _ trivial (fun hHeld => ?_)
         simp only [Act.put, s1, s2, s3]
         refine rd 5 fun Kq hK => ?_
         rw [if_pos (by rfl)]
         refine wp_append_run (.tmp 128) (.tmp 131) 23 23 rfl (.slice d1 j p1) (.slice (some ⟨w1.heap.size, 0, none⟩) 1 1) _ W' rfl rfl HAP.out ?_
         refine hK.out _ _ trivial (fun hHeld => ?_)
         simp only [Act.put, s1, s2, s3]
         refine hk 6 (.pointer (some ⟨R, 10, none⟩)) hHeld ?_
         simp only [Act.put, s1, s2, s3]
         refine rd 7 fun Kq hK => ?_
         go_simp
         refine hK.out _ _ trivial (fun hHeld => ?_)
         simp only [Act.put, s1, s2, s3]
         refine wpAnyH_done (by kernel_rfl) ?_ _
         rw [← hX2]
         clear hHeld hK b7 bf hX2
         go_wp2
         go_roundw
         case rel => obtain ⟨O', h1, h2, h3, h4⟩ := HN.out; exact ⟨j + 1, O', HJ.out.2.2.1, by go_num, h1, h2, h3, h4⟩
         case measure => have := HJ.out.2.2.1; simp [intOf]; omega
        ·
         go_simp
         refine (paM_any j HJ.out.1 _).mono ?_
         rintro e w1 ⟨rfl, hK1⟩
         have r9 : w1.cell? ⟨R, 10, none⟩ = some (.slice d1 j p1) := cell_kept (w := wr.drew) r8 hK1 fun h => h
         refine hK.out _ _ trivial (fun hHeld => ?_)
         simp only [Act.put, s1, s2, s3]
         clear r8
         have hKw : KF wr w1 := ((Keeps.refl _ wr).drew).trans hK1 fun _ _ h => h
         have hI1 := HI.out.1.kept hKw
         have hn1 : (O 0 3).n = j := HI.out.2.1.n3
         obtain ⟨d2, p2, W', hr, b7, bf, hI2, hlen, _⟩ := hI1.app 3 10 (by omega) rfl 23 _ 104 Tryz.underlying23 Tryz.inf37 rfl (by decide) #[.string { data := #[] }, .int .i64 (-1000 - (j : Int)), .int .i64 0, .int .i64 0, .int .i64 0, .int .i64 0, .slice none 0 0, .slice none 0 0] rfl (by intro u hu; simp at hu; rcases hu with rfl | rfl | rfl | rfl <;> rfl) hn1 HE.out HJ.out.1 HJ.out.2.1
         obtain ⟨X2, hX2⟩ : ∃ X2, X2 = W'.setCell ⟨R, 10, none⟩ (.slice d2 (j + 1) p2) := ⟨_, rfl⟩
         have HAP : Hid _ := hr
         have HN : Hid (∃ O', LeI w x C A R lo N (.slice dC L pC) (.slice x.pa x.ps.length x.pc) (.slice d H p) O' X2 ∧ LP x (L + 24) (j + 1) O' ∧ O' 0 0 = o0 ∧ O' 0 1 = oC) := by
          refine ⟨_, by rw [hX2]; exact hI2, ?_, ?_, ?_⟩
          ·
           exact HI.out.2.1.spareP (u3 := .slice d2 (j + 1) p2) (by rw [HH.out.2.2]; exact HJ.out.2.2.2) hlen
          ·
           rw [updG_ne _ _ (by omega)]; exact HI.out.2.2.1
          ·
           rw [updG_ne _ _ (by omega)]; exact HI.out.2.2.2
         clear hI1 hr hlen hI2 hKw hn1
         refine wpAnyH_ready (rs := [1, 4]) (by kernel_rfl) (by simp) ?_
         refine AllReadyH.cons rfl (fun Kq hK => ?_) (AllReadyH.cons rfl (fun Kq hK => ?_) AllReadyH.nil)
         ·
          go_simp
          refine hK.out _ _ trivial (fun hHeld => ?_)
          simp only [Act.put, s1, s2, s3]
          clear r9
          refine rd 4 fun Kq hK => ?_
          go_simp
          refine hK.out _ _ trivial (fun hHeld => ?_)
          simp only [Act.put, s1, s2, s3]
          refine rd 5 fun Kq hK => ?_
          rw [if_pos (by rfl)]
          refine wp_append_run (.tmp 128) (.tmp 131) 23 23 rfl (.slice d1 j p1) (.slice (some ⟨w1.heap.size, 0, none⟩) 1 1) _ W' rfl rfl HAP.out ?_
          refine hK.out _ _ trivial (fun hHeld => ?_)
          simp only [Act.put, s1, s2, s3]
          refine hk 6 (.pointer (some ⟨R, 10, none⟩)) hHeld ?_
          simp only [Act.put, s1, s2, s3]
          refine rd 7 fun Kq hK => ?_
          go_simp
          refine hK.out _ _ trivial (fun hHeld => ?_)
          simp only [Act.put, s1, s2, s3]
          refine wpAnyH_done (by kernel_rfl) ?_ _
          rw [← hX2]
          clear hHeld hK b7 bf hX2
          go_wp2
          go_roundw
          case rel => obtain ⟨O', h1, h2, h3, h4⟩ := HN.out; exact ⟨j + 1, O', HJ.out.2.2.1, by go_num, h1, h2, h3, h4⟩
          case measure => have := HJ.out.2.2.1; simp [intOf]; omega
         ·
          have r10 : (w1.alloc (.cells #[.string { data := #[] }, .int .i64 (-1000 - (j : Int)), .int .i64 0, .int .i64 0, .int .i64 0, .int .i64 0, .slice none 0 0, .slice none 0 0] 41)).cell? ⟨R, 10, none⟩ = some (.slice d1 j p1) := cell_kept (S := fun _ => False) r9 ((Keeps.refl _ w1).alloc _) fun h => h
          clear r9
          go_simp
          refine hK.out _ _ trivial (fun hHeld => ?_)
          simp only [Act.put, s1, s2, s3]
          refine rd 1 fun Kq hK => ?_
          go_simp
          refine hK.out _ _ trivial (fun hHeld => ?_)
          simp only [Act.put, s1, s2, s3]
          clear r10
          refine rd 5 fun Kq hK => ?_
          rw [if_pos (by rfl)]
          refine wp_append_run (.tmp 128) (.tmp 131) 23 23 rfl (.slice d1 j p1) (.slice (some ⟨w1.heap.size, 0, none⟩) 1 1) _ W' rfl rfl HAP.out ?_
          refine hK.out _ _ trivial (fun hHeld => ?_)
          simp only [Act.put, s1, s2, s3]
          refine hk 6 (.pointer (some ⟨R, 10, none⟩)) hHeld ?_
          simp only [Act.put, s1, s2, s3]
          refine rd 7 fun Kq hK => ?_
          go_simp
          refine hK.out _ _ trivial (fun hHeld => ?_)
          simp only [Act.put, s1, s2, s3]
          refine wpAnyH_done (by kernel_rfl) ?_ _
          rw [← hX2]
          clear hHeld hK b7 bf hX2
          go_wp2
          go_roundw
          case rel => obtain ⟨O', h1, h2, h3, h4⟩ := HN.out; exact ⟨j + 1, O', HJ.out.2.2.1, by go_num, h1, h2, h3, h4⟩
          case measure => have := HJ.out.2.2.1; simp [intOf]; omega
       ·
        have hjz : (j : Int) < (K : Int) + 24 := by omega
        have hjl : (j : Int) < (K : Int) := by omega
        have hjg : ¬ (j : Int) ≥ (K : Int) := by omega
        have hjg2 : ¬ (K : Int) ≤ (j : Int) := by omega
        obtain ⟨P, hPj⟩ : ∃ P, x.ps[j]? = some P := ⟨_, List.getElem?_eq_getElem (by have := HH.out.2.2; omega)⟩
        obtain ⟨g0, o0a, ea, hc⟩ := hI.cin.par hPj
        have hPi := hI.cin.pin P (List.mem_of_getElem? hPj)
        have hRb := HB.out.rs P (List.mem_of_getElem? hPj)
        have hQb := HB.out.qs P (List.mem_of_getElem? hPj)
        rw [ea] at c5
        have p0 := hc 0 _ rfl
        rw [Nat.add_zero] at p0
        have p1 := hc 1 _ rfl
        have p2 := hc 2 _ rfl
        have p3 := hc 3 _ rfl
        have p4 := hc 4 _ rfl
        have p5 := hc 5 _ rfl
        have p6 := hc 6 _ rfl
        have p7 := hc 7 _ rfl
        obtain ⟨QL, hQL⟩ : ∃ QL, P.ps.length = QL := ⟨_, rfl⟩
        obtain ⟨RL, hRL⟩ : ∃ RL, P.rs.length = RL := ⟨_, rfl⟩
        rw [hQL] at p7 hQb
        rw [hRL] at p6 hRb
        obtain ⟨ws, hws⟩ : ∃ ws, ws = wr := ⟨_, rfl⟩
        subst hws
        obtain ⟨V0, hV0⟩ : ∃ V0, V0 = ws.alloc (.cells #[.string P.name, .int .i64 P.entry, .int .i64 P.action, .int .i64 P.restarts, .int .i64 P.inputs, .int .i64 P.outputs, .slice P.ra RL P.rc, .slice P.pa QL P.pc] 41) := ⟨_, rfl⟩
        obtain ⟨Pb, hPb⟩ : ∃ Pb, Pb = ws.heap.size := ⟨_, rfl⟩
        have hBP : Blk V0 Pb [.string P.name, .int .i64 P.entry, .int .i64 P.action, .int .i64 P.restarts, .int .i64 P.inputs, .int .i64 P.outputs, .slice P.ra RL P.rc, .slice P.pa QL P.pc] 41 := by rw [hV0, hPb]; exact Blk.new _ _ _
        have kV0 : KF ws V0 := by rw [hV0]; exact (Keeps.refl _ _).alloc _
        obtain ⟨G, hG⟩ : ∃ G, G = V0.heap.size := ⟨_, rfl⟩
        obtain ⟨l0, hl0, hmk⟩ := run_mk Tryz.underlying38 Tryz.inf39 (by omega) V0 (RL + 24) (by omega) (by omega)
        obtain ⟨V1, hV1⟩ : ∃ V1, V1 = V0.alloc (.cells l0.toArray 54) := ⟨_, rfl⟩
        have eM : ((RL + 24 : Nat) : Int) = (RL : Int) + 24 := by omega
        rw [eM, ← hV1, ← hG] at hmk
        obtain ⟨M2, hM2⟩ : ∃ M2, RL + 24 = M2 := ⟨_, rfl⟩
        rw [hM2] at hmk hl0
        have HMK : Hid ((Instr.makeSlice 38 (.int .i64 ((RL : Int) + 24)) (.int .i64 ((RL : Int) + 24))).run Tryz.prog V0 = .ok (.slice (some ⟨G, 0, none⟩) M2 M2) V1) := hmk
        have H0 : Hid (Blk V1 G l0 54 ∧ l0.length = M2 * 4 ∧ KF V0 V1) := ⟨by rw [hV1, hG]; exact Blk.new V0 l0.toArray 54, hl0, by rw [hV1]; exact (Keeps.refl _ _).alloc _⟩
        have HG : Hid (V0.heap.size ≤ G) := by rw [hG]; exact Nat.le_refl _
        have HI : Hid (LeI w x C A R lo N (.slice dC L pC) (.slice x.pa x.ps.length x.pc) (.slice d H p) O ws ∧ LP x (L + 24) j O ∧ O 0 0 = o0 ∧ O 0 1 = oC) := ⟨hI, hP, hO0, hOC⟩
        have HX : Hid (x.ps[j]? = some P ∧ P.rs.length = RL ∧ P.ps.length = QL ∧ RL + 24 = M2 ∧ SegA Rgn.vs 4 ws P.ra P.rs ∧ SegA Prt.vs 2 ws P.pa P.ps) := ⟨hPj, hRL, hQL, hM2, hPi.rseg, hPi.pseg⟩
        have HJ : Hid (j ≤ 281474976710656 ∧ (j + 1) * 104 ≤ 140737488355328 ∧ j < K) := by have := HB.out.ps; rw [HH.out.2.2] at this; unfold Hid; omega
        have HP0 : Hid (Blk V0 Pb [.string P.name, .int .i64 P.entry, .int .i64 P.action, .int .i64 P.restarts, .int .i64 P.inputs, .int .i64 P.outputs, .slice P.ra RL P.rc, .slice P.pa QL P.pc] 41 ∧ KF ws V0 ∧ ws.heap.size ≤ Pb ∧ Pb < V0.heap.size) := ⟨hBP, kV0, by omega, hBP.lt⟩
        have q6 := hBP.cell (i := 6) rfl
        have hRz : (RL : Int) ≤ 140737488351232 := by omega
        have hQz : (QL : Int) ≤ 140737488351232 := by omega
        have hMz : (M2 : Int) ≤ 140737488351256 := by omega
        have hRM : (RL : Int) ≤ M2 := by omega
        have hRc : (RL : Int) ≤ P.rc := by have := hPi.rlen; omega
        have hQc : (QL : Int) ≤ P.pc := by have := hPi.plen; omega
        have hpc : (K : Int) ≤ x.pc := by have := hI.cin.plen; rw [HH.out.2.2] at this; omega
        clear hI hP hO0 hOC hlt hj hge ea hPj hc hPi hRb hQb hQL hRL hBP kV0 hl0 hmk hV1 eM hM2 hG
        go_upto_region 29 with fail
        rw [← hV0, ← hPb]
        clear hV0 hPb c5 p0 p1 p2 p3 p4 p5 p6 p7
        go_wp2_with (at_make; refine wpList_make_run rfl (.tmp 142) (.tmp 142) 38 rfl (.int .i64 ((RL : Int) + 24)) (.int .i64 ((RL : Int) + 24)) (.slice (some ⟨G, 0, none⟩) M2 M2) V1 rfl rfl HMK.out ?_; refine Hid.out ?_)
        unfold Hid
        clear q6 HMK
        go_wp2
        obtain ⟨wo1, hwo⟩ : ∃ wo1, wo1 = V0 := ⟨_, rfl⟩
        go_loopw [12] (fun i wq => ∃ (k : Nat) (l : List Value), k ≤ M2 ∧ i = .int .i64 k ∧ Blk wq G l 54 ∧ l.length = M2 * 4 ∧ (∀ q, q < k → At l 4 q (rM q)) ∧ KF wo1 wq) (fun i _ => M2 - (intOf i).toNat)
        case atStart => exact ⟨0, l0, by omega, rfl, H0.out.1, H0.out.2.1, fun q h => by omega, by rw [hwo]; exact H0.out.2.2⟩
        case round =>
         obtain ⟨k, l, hk, rfl, hBl, hll, hA2, hKq⟩ := hrel
         by_cases hkm : k < M2
         ·
          have hkz : (k : Int) < M2 := by omega
          have HQ : Hid (Blk wr G l 54 ∧ l.length = M2 * 4 ∧ (∀ q, q < k → At l 4 q (rM q)) ∧ KF wo1 wr ∧ k < M2 ∧ k ≤ 281474976710656) := ⟨hBl, hll, hA2, hKq, hkm, by omega⟩
          clear hBl hll hA2 hKq hkm hk
          go_wp2_with fail
          refine (rgM_any k HQ.out.2.2.2.2.2 _).mono ?_
          rintro e w1 ⟨rfl, hK1⟩
          obtain ⟨W9, hW9⟩ : ∃ W9, W9 = w1.setRow G (l.take (k * 4) ++ [Value.int .i64 (-(k : Int)), Value.int .i64 (k : Int), Value.int .i64 (-(k : Int)), Value.int .i64 (k : Int)] ++ l.drop (k * 4 + [Value.int .i64 (-(k : Int)), Value.int .i64 (k : Int), Value.int .i64 (-(k : Int)), Value.int .i64 (k : Int)].length)).toArray := ⟨_, rfl⟩
          have HB1 : Hid (Blk w1 G l 54 ∧ k * 4 + 4 ≤ l.length) := ⟨HQ.out.1.kept hK1 fun h => h, by have := HQ.out.2.1; have := HQ.out.2.2.2.2.1; omega⟩
          have HN : Hid (Blk W9 G (l.take (k * 4) ++ [Value.int .i64 (-(k : Int)), Value.int .i64 (k : Int), Value.int .i64 (-(k : Int)), Value.int .i64 (k : Int)] ++ l.drop (k * 4 + [Value.int .i64 (-(k : Int)), Value.int .i64 (k : Int), Value.int .i64 (-(k : Int)), Value.int .i64 (k : Int)].length)) 54 ∧ (l.take (k * 4) ++ [Value.int .i64 (-(k : Int)), Value.int .i64 (k : Int), Value.int .i64 (-(k : Int)), Value.int .i64 (k : Int)] ++ l.drop (k * 4 + [Value.int .i64 (-(k : Int)), Value.int .i64 (k : Int), Value.int .i64 (-(k : Int)), Value.int .i64 (k : Int)].length)).length = M2 * 4 ∧ (∀ q, q < k + 1 → At (l.take (k * 4) ++ [Value.int .i64 (-(k : Int)), Value.int .i64 (k : Int), Value.int .i64 (-(k : Int)), Value.int .i64 (k : Int)] ++ l.drop (k * 4 + [Value.int .i64 (-(k : Int)), Value.int .i64 (k : Int), Value.int .i64 (-(k : Int)), Value.int .i64 (k : Int)].length)) 4 q (rM q)) ∧ KF wo1 W9) := by
           refine ⟨by rw [hW9]; exact HB1.out.1.setRow _, by rw [put_len (s := 4) (cs := [Value.int .i64 (-(k : Int)), Value.int .i64 (k : Int), Value.int .i64 (-(k : Int)), Value.int .i64 (k : Int)]) rfl HB1.out.2]; exact HQ.out.2.1, fun q hq => ?_, ?_⟩
           ·
            by_cases e : q = k
            ·
             rw [e]; exact at_self (cs := [Value.int .i64 (-(k : Int)), Value.int .i64 (k : Int), Value.int .i64 (-(k : Int)), Value.int .i64 (k : Int)]) rfl HB1.out.2
            ·
             exact at_put (cs := [Value.int .i64 (-(k : Int)), Value.int .i64 (k : Int), Value.int .i64 (-(k : Int)), Value.int .i64 (k : Int)]) rfl rfl HB1.out.2 e (HQ.out.2.2.1 q (by omega))
           ·
            rw [hW9]
            exact (HQ.out.2.2.2.1.trans hK1 fun _ _ h => h).setRow _ _ fun h => by have := HG.out; rw [hwo] at h; omega
          have HW9 : Hid (W9 = w1.setRow G (l.take (k * 4) ++ [Value.int .i64 (-(k : Int)), Value.int .i64 (k : Int), Value.int .i64 (-(k : Int)), Value.int .i64 (k : Int)] ++ l.drop (k * 4 + [Value.int .i64 (-(k : Int)), Value.int .i64 (k : Int), Value.int .i64 (-(k : Int)), Value.int .i64 (k : Int)].length)).toArray) := hW9
          clear hK1 hW9
          go_wp2_with (refine wpList_store_mid rfl 54 (.tmp 154) (.tmp 153) rfl G (k * 4) [Value.int .i64 (-(k : Int)), Value.int .i64 (k : Int), Value.int .i64 (-(k : Int)), Value.int .i64 (k : Int)] rfl rfl 54 l HB1.out.1 Tryz.sz54 HB1.out.2 (by intro v hv; simp at hv; rcases hv with rfl | rfl | rfl | rfl <;> rfl) ?_; rw [← HW9.out]; refine Hid.out ?_)
          unfold Hid
          go_wp2
          go_roundw
          case rel => exact ⟨k + 1, _, HQ.out.2.2.2.2.1, by go_num, HN.out.1, HN.out.2.1, HN.out.2.2.1, HN.out.2.2.2⟩
          case measure => have := HQ.out.2.2.2.2.1; simp [intOf]; omega
         ·
          have hkM : M2 = k := by omega
          subst hkM
          replace hwo := hwo.symm
          subst hwo
          have hBP := HP0.out.1.kept hKq fun h => h
          have q6 := hBP.cell (i := 6) rfl
          have hfl := fl_copy eRgn rM P.rs l M2 (.slice (some ⟨G, 0, none⟩) M2 M2) (by rw [HX.out.2.1, HX.out.2.2.2.1]) (fun q hq => hA2 q (by rw [HX.out.2.1, HX.out.2.2.2.1] at hq; exact hq))
          have hfx : (P.rs.flatMap eRgn.vs).length = RL * 4 := by rw [flat_len, HX.out.2.1]; rfl
          have hKs : KF ws wr := HP0.out.2.1.trans hKq fun _ _ h => h
          have hcp : ∀ ty, (Builtin.copy_ #[38, 38] ty #[.slice (some ⟨G, 0, none⟩) M2 M2, .slice P.ra RL P.rc]).run Tryz.prog wr = .ok (goInt RL) (wr.setRow G (P.rs.flatMap eRgn.vs ++ l.drop (P.rs.flatMap eRgn.vs).length).toArray) := fun ty => run_copy_big 38 ty 54 4 (by omega) G M2 M2 P.ra RL P.rc l 54 (P.rs.flatMap eRgn.vs) Tryz.underlying38 Tryz.sz54 hBl hfx (by omega) (seg_src eRgn (HX.out.2.2.2.2.1.kept hKs fun _ _ _ h => h)) (by rw [hfx, hll]; omega) (plain_one plainRgn P.rs)
          obtain ⟨W3, hW3⟩ : ∃ W3, W3 = wr.setRow G (P.rs.flatMap eRgn.vs ++ l.drop (P.rs.flatMap eRgn.vs).length).toArray := ⟨_, rfl⟩
          rw [← hW3] at hcp
          obtain ⟨l3, hl3⟩ : ∃ l3, l3 = P.rs.flatMap eRgn.vs ++ l.drop (P.rs.flatMap eRgn.vs).length := ⟨_, rfl⟩
          rw [← hl3] at hfl
          have hB3 : Blk W3 G l3 54 := by rw [hW3, hl3]; exact hBl.setRow _
          have hK3 : KF V0 W3 := by rw [hW3]; exact hKq.setRow _ _ fun h => by have := HG.out; omega
          have hl3n : l3.length = M2 * 4 := by rw [hl3]; simp only [List.length_append, List.length_drop, hll, hfx]; omega
          have HCP : Hid (∀ ty, (Builtin.copy_ #[38, 38] ty #[.slice (some ⟨G, 0, none⟩) M2 M2, .slice P.ra RL P.rc]).run Tryz.prog wr = .ok (goInt RL) W3) := hcp
          have HR3 : Hid (Blk W3 G l3 54 ∧ l3.length = M2 * 4 ∧ Fl eRgn rM P.rs ⟨.slice (some ⟨G, 0, none⟩) M2 M2, M2, l3⟩ ∧ KF V0 W3 ∧ V0.heap.size ≤ G) := ⟨hB3, hl3n, hfl, hK3, HG.out⟩
          have hBP3 := HP0.out.1.kept hK3 fun h => h
          have q7 := hBP3.cell (i := 7) rfl
          obtain ⟨G2, hG2⟩ : ∃ G2, G2 = W3.heap.size := ⟨_, rfl⟩
          have hQb := HB.out.qs P (List.mem_of_getElem? HX.out.1)
          rw [HX.out.2.2.1] at hQb
          obtain ⟨l5, hl5, hmk⟩ := run_mk Tryz.underlying39 Tryz.inf51 (by omega) W3 (QL + 24) (by omega) (by omega)
          obtain ⟨V2, hV2⟩ : ∃ V2, V2 = W3.alloc (.cells l5.toArray 57) := ⟨_, rfl⟩
          have eM : ((QL + 24 : Nat) : Int) = (QL : Int) + 24 := by omega
          rw [eM, ← hV2, ← hG2] at hmk
          obtain ⟨M5, hM5⟩ : ∃ M5, QL + 24 = M5 := ⟨_, rfl⟩
          rw [hM5] at hmk hl5
          have HMK : Hid ((Instr.makeSlice 39 (.int .i64 ((QL : Int) + 24)) (.int .i64 ((QL : Int) + 24))).run Tryz.prog W3 = .ok (.slice (some ⟨G2, 0, none⟩) M5 M5) V2) := hmk
          have H5 : Hid (Blk V2 G2 l5 57 ∧ l5.length = M5 * 2 ∧ KF W3 V2) := ⟨by rw [hV2, hG2]; exact Blk.new W3 l5.toArray 57, hl5, by rw [hV2]; exact (Keeps.refl _ _).alloc _⟩
          have HM5 : Hid (QL + 24 = M5) := hM5
          clear HG
          have HG : Hid (W3.heap.size ≤ G2) := by rw [hG2]; exact Nat.le_refl _
          have hMz5 : (M5 : Int) ≤ 140737488351256 := by omega
          have hQM : (QL : Int) ≤ M5 := by omega
          clear H0 hKs hKq hBl hll hA2 hk hkm hfl hfx hcp hW3 hl3 hB3 hK3 hl3n hBP hBP3 hl5 hmk hV2 eM hM5 hG2 hQb
          go_wp2_with (refine isCopy (.tmp 155) (.tmp 157) 38 38 rfl ?_; go_must (refine wpList_copy_run rfl (.tmp 155) (.tmp 157) 38 38 rfl (.slice (some ⟨G, 0, none⟩) M2 M2) (.slice P.ra RL P.rc) (goInt RL) W3 rfl rfl HCP.out ?_; refine Hid.out ?_))
          unfold Hid
          clear HCP q6
          go_wp2_with (at_make; refine wpList_make_run rfl (.tmp 162) (.tmp 162) 39 rfl (.int .i64 ((QL : Int) + 24)) (.int .i64 ((QL : Int) + 24)) (.slice (some ⟨G2, 0, none⟩) M5 M5) V2 rfl rfl HMK.out ?_; refine Hid.out ?_)
          unfold Hid
          clear q7 HMK
          go_wp2
          obtain ⟨wo2, hwo⟩ : ∃ wo2, wo2 = W3 := ⟨_, rfl⟩
          go_loopw [14] (fun i wq => ∃ (k : Nat) (l : List Value), k ≤ M5 ∧ i = .int .i64 k ∧ Blk wq G2 l 57 ∧ l.length = M5 * 2 ∧ (∀ q, q < k → At l 2 q (pM q)) ∧ KF wo2 wq) (fun i _ => M5 - (intOf i).toNat)
          case atStart => exact ⟨0, l5, by omega, rfl, H5.out.1, H5.out.2.1, fun q h => by omega, by rw [hwo]; exact H5.out.2.2⟩
          case round =>
           obtain ⟨k, l, hk, rfl, hBl, hll, hA2, hKq⟩ := hrel
           by_cases hkm : k < M5
           ·
            have hkz : (k : Int) < M5 := by omega
            have HQ : Hid (Blk wr G2 l 57 ∧ l.length = M5 * 2 ∧ (∀ q, q < k → At l 2 q (pM q)) ∧ KF wo2 wr ∧ k < M5 ∧ k ≤ 281474976710656) := ⟨hBl, hll, hA2, hKq, hkm, by omega⟩
            clear hBl hll hA2 hKq hkm hk
            go_wp2_with fail
            refine (poM_any k HQ.out.2.2.2.2.2 _).mono ?_
            rintro e w1 ⟨rfl, hK1⟩
            obtain ⟨W9, hW9⟩ : ∃ W9, W9 = w1.setRow G2 (l.take (k * 2) ++ [Value.int .i64 (-(k : Int)), .bool false] ++ l.drop (k * 2 + [Value.int .i64 (-(k : Int)), .bool false].length)).toArray := ⟨_, rfl⟩
            have HB1 : Hid (Blk w1 G2 l 57 ∧ k * 2 + 2 ≤ l.length) := ⟨HQ.out.1.kept hK1 fun h => h, by have := HQ.out.2.1; have := HQ.out.2.2.2.2.1; omega⟩
            have HN : Hid (Blk W9 G2 (l.take (k * 2) ++ [Value.int .i64 (-(k : Int)), .bool false] ++ l.drop (k * 2 + [Value.int .i64 (-(k : Int)), .bool false].length)) 57 ∧ (l.take (k * 2) ++ [Value.int .i64 (-(k : Int)), .bool false] ++ l.drop (k * 2 + [Value.int .i64 (-(k : Int)), .bool false].length)).length = M5 * 2 ∧ (∀ q, q < k + 1 → At (l.take (k * 2) ++ [Value.int .i64 (-(k : Int)), .bool false] ++ l.drop (k * 2 + [Value.int .i64 (-(k : Int)), .bool false].length)) 2 q (pM q)) ∧ KF wo2 W9) := by
             refine ⟨by rw [hW9]; exact HB1.out.1.setRow _, by rw [put_len (s := 2) (cs := [Value.int .i64 (-(k : Int)), .bool false]) rfl HB1.out.2]; exact HQ.out.2.1, fun q hq => ?_, ?_⟩
             ·
              by_cases e : q = k
              ·
               rw [e]; exact at_self (cs := [Value.int .i64 (-(k : Int)), .bool false]) rfl HB1.out.2
              ·
               exact at_put (cs := [Value.int .i64 (-(k : Int)), .bool false]) rfl rfl HB1.out.2 e (HQ.out.2.2.1 q (by omega))
             ·
              rw [hW9]
              exact (HQ.out.2.2.2.1.trans hK1 fun _ _ h => h).setRow _ _ fun h => by have := HG.out; rw [hwo] at h; omega
            have HW9 : Hid (W9 = w1.setRow G2 (l.take (k * 2) ++ [Value.int .i64 (-(k : Int)), .bool false] ++ l.drop (k * 2 + [Value.int .i64 (-(k : Int)), .bool false].length)).toArray) := hW9
            clear hK1 hW9
            go_wp2_with (refine wpList_store_mid rfl 57 (.tmp 174) (.tmp 173) rfl G2 (k * 2) [Value.int .i64 (-(k : Int)), .bool false] rfl rfl 57 l HB1.out.1 Tryz.sz57 HB1.out.2 (by intro v hv; simp at hv; rcases hv with rfl | rfl <;> rfl) ?_; rw [← HW9.out]; refine Hid.out ?_)
            unfold Hid
            go_wp2
            go_roundw
            case rel => exact ⟨k + 1, _, HQ.out.2.2.2.2.1, by go_num, HN.out.1, HN.out.2.1, HN.out.2.2.1, HN.out.2.2.2⟩
            case measure => have := HQ.out.2.2.2.2.1; simp [intOf]; omega
           ·
            have hkM : M5 = k := by omega
            subst hkM
            replace hwo := hwo.symm
            subst hwo
            have hI := HI.out.1
            have hKV : KF V0 wr := HR3.out.2.2.2.1.trans hKq fun _ _ h => h
            have hBP := HP0.out.1.kept hKV fun h => h
            have q7 := hBP.cell (i := 7) rfl
            have hfl := fl_copy ePrt pM P.ps l M5 (.slice (some ⟨G2, 0, none⟩) M5 M5) (by rw [HX.out.2.2.1, HM5.out]) (fun q hq => hA2 q (by rw [HX.out.2.2.1, HM5.out] at hq; exact hq))
            have hfx : (P.ps.flatMap ePrt.vs).length = QL * 2 := by rw [flat_len, HX.out.2.2.1]; rfl
            have hKs : KF ws wr := HP0.out.2.1.trans hKV fun _ _ h => h
            have hcp : ∀ ty, (Builtin.copy_ #[39, 39] ty #[.slice (some ⟨G2, 0, none⟩) M5 M5, .slice P.pa QL P.pc]).run Tryz.prog wr = .ok (goInt QL) (wr.setRow G2 (P.ps.flatMap ePrt.vs ++ l.drop (P.ps.flatMap ePrt.vs).length).toArray) := fun ty => run_copy_big 39 ty 57 2 (by omega) G2 M5 M5 P.pa QL P.pc l 57 (P.ps.flatMap ePrt.vs) Tryz.underlying39 Tryz.sz57 hBl hfx (by omega) (seg_src ePrt (HX.out.2.2.2.2.2.kept hKs fun _ _ _ h => h)) (by rw [hfx, hll]; omega) (plain_one plainPrt P.ps)
            obtain ⟨W6, hW6⟩ : ∃ W6, W6 = wr.setRow G2 (P.ps.flatMap ePrt.vs ++ l.drop (P.ps.flatMap ePrt.vs).length).toArray := ⟨_, rfl⟩
            rw [← hW6] at hcp
            obtain ⟨l6, hl6⟩ : ∃ l6, l6 = P.ps.flatMap ePrt.vs ++ l.drop (P.ps.flatMap ePrt.vs).length := ⟨_, rfl⟩
            rw [← hl6] at hfl
            have hB6 : Blk W6 G2 l6 57 := by rw [hW6, hl6]; exact hBl.setRow _
            have hK6 : KF W3 W6 := by rw [hW6]; exact hKq.setRow _ _ fun h => by have := HG.out; omega
            have hl6n : l6.length = M5 * 2 := by rw [hl6]; simp only [List.length_append, List.length_drop, hll, hfx]; omega
            have kV3 : KF ws W3 := HP0.out.2.1.trans HR3.out.2.2.2.1 fun _ _ h => h
            have kW6 : KF ws W6 := kV3.trans hK6 fun _ _ h => h
            have hGs : ws.heap.size ≤ G := Nat.le_trans HP0.out.2.1.size HR3.out.2.2.2.2
            have hF1 : FamO lo W3 (updG O 2 j ⟨.slice (some ⟨G, 0, none⟩) M2 M2, M2, l3⟩) := hI.fam.grow 2 j (own_blk HR3.out.1 (by rw [ty_2]; exact HR3.out.2.1) (by rw [ty_2]; decide) (by unfold maxLen; omega)) (.inr (.inr ⟨G, rfl, hGs⟩)) (kV3.mono fun _ _ h => h.elim)
            have hF2 : FamO lo W6 (updG (updG O 2 j ⟨.slice (some ⟨G, 0, none⟩) M2 M2, M2, l3⟩) 3 j ⟨.slice (some ⟨G2, 0, none⟩) M5 M5, M5, l6⟩) := hF1.grow 3 j (own_blk hB6 (by rw [ty_3]; exact hl6n) (by rw [ty_3]; decide) (by unfold maxLen; omega)) (.inr (.inr ⟨G2, rfl, HG.out⟩)) (hK6.mono fun _ _ h => h.elim)
            have hOu0 : Out V0 O Pb := hI.fam.outNew HP0.out.2.1 HP0.out.2.2.1 HP0.out.2.2.2
            have hOu1 : Out W3 (updG O 2 j ⟨.slice (some ⟨G, 0, none⟩) M2 M2, M2, l3⟩) Pb := hOu0.grow 2 j (.inr (.inr ⟨G, rfl, HR3.out.2.2.2.2⟩)) HR3.out.2.2.2.1.size
            have hOu2 : Out W6 (updG (updG O 2 j ⟨.slice (some ⟨G, 0, none⟩) M2 M2, M2, l3⟩) 3 j ⟨.slice (some ⟨G2, 0, none⟩) M5 M5, M5, l6⟩) Pb := hOu1.grow 3 j (.inr (.inr ⟨G2, rfl, HG.out⟩)) hK6.size
            have hI6 := hI.inner hF2 (kW6.mono fun _ _ h => h.elim) (by rw [lentV_upd x _ _ _ _ 3 j _ (by omega), lentV_upd x _ _ _ _ 2 j _ (by omega)])
            obtain ⟨O2, hO2⟩ : ∃ O2, O2 = updG (updG O 2 j ⟨.slice (some ⟨G, 0, none⟩) M2 M2, M2, l3⟩) 3 j ⟨.slice (some ⟨G2, 0, none⟩) M5 M5, M5, l6⟩ := ⟨_, rfl⟩
            rw [← hO2] at hI6 hOu2
            have e2 : ∀ b, O2 0 b = O 0 b := fun b => by rw [hO2, updG_ne _ _ (by omega), updG_ne _ _ (by omega)]
            have hn4 : (O2 0 4).n = j := by rw [e2, HI.out.2.1.n4, HH.out.2.2]; have := HJ.out.2.2; omega
            have hn5 : (O2 0 5).n = j := by rw [e2, HI.out.2.1.n5, HH.out.2.2]; have := HJ.out.2.2; omega
            have hn3 : (O2 0 3).n = j := by rw [e2]; exact HI.out.2.1.n3
            have hl4 := hI6.fam.len 0 4
            have hl5 := hI6.fam.len 0 5
            have hl3 := hI6.fam.len 0 3
            rw [hn4, e2] at hl4
            rw [hn5, e2] at hl5
            rw [hn3, e2] at hl3
            have hj24 : (j + 1) * 24 ≤ 140737488355328 := by have := HJ.out.2.1; omega
            have hBP6 := HP0.out.1.kept (HR3.out.2.2.2.1.trans hK6 fun _ _ h => h) fun h => h
            have hord := hI6.ord
            have hPR : Pb ≠ R := by have := HP0.out.2.2.1; have := hI.fam.siz; omega
            have hPlo : lo ≤ Pb := by have := HP0.out.2.2.1; have := hI.fam.siz; omega
            clear hord
            -- regions
            obtain ⟨d1, c1, eu1, _, _⟩ := hI6.fam.form 0 4
            rw [hn4] at eu1
            obtain ⟨d2, c2, W7, hr1, b11, f11, hI7, _, hfr7, hK7⟩ := hI6.app 4 11 (by omega) rfl 27 _ 24 Tryz.underlying27 Tryz.inf38 rfl (by decide) #[.slice (some ⟨G, 0, none⟩) M2 M2] rfl (by intro u hu; simp at hu; subst hu; rfl) hn4 eu1 HJ.out.1 hj24
            have r11 : W6.cell? ⟨R, 11, none⟩ = some (.slice d1 j c1) := by have := hI6.room.cell (i := 11) rfl; rw [eu1] at this; exact this
            have hOu7 : Out W7 (updG O2 0 4 ⟨.slice d2 (j + 1) c2, j + 1, (O2 0 4).xs ++ [.slice (some ⟨G, 0, none⟩) M2 M2]⟩) Pb := hOu2.grow 0 4 hfr7 hK7.size
            have hBP7 := hBP6.kept hK7 fun e => hOu2.2 0 4 e.symm
            obtain ⟨X7, hX7⟩ : ∃ X7, X7 = W7.setCell ⟨R, 11, none⟩ (.slice d2 (j + 1) c2) := ⟨_, rfl⟩
            have hBX7 : Blk X7 Pb [.string P.name, .int .i64 P.entry, .int .i64 P.action, .int .i64 P.restarts, .int .i64 P.inputs, .int .i64 P.outputs, .slice P.ra RL P.rc, .slice P.pa QL P.pc] 41 := by rw [hX7]; exact hBP7.setCell_ne hPR _
            rw [← hX7] at hI7
            obtain ⟨O4, hO4⟩ : ∃ O4, O4 = updG O2 0 4 ⟨.slice d2 (j + 1) c2, j + 1, (O2 0 4).xs ++ [.slice (some ⟨G, 0, none⟩) M2 M2]⟩ := ⟨_, rfl⟩
            have hI7' : LeI w x C A R lo N (.slice dC L pC) (.slice x.pa x.ps.length x.pc) (.slice d H p) O4 X7 := by rw [hO4]; exact hI7
            have hOu7' : Out X7 O4 Pb := by rw [hO4, hX7]; exact hOu7.ge ((Keeps.refl (fun _ => True) W7).setCell _ _ fun _ => trivial).size
            -- ports
            have hn5' : (O4 0 5).n = j := by rw [hO4, updG_ne _ _ (by omega)]; exact hn5
            obtain ⟨d3, c3, eu3, _, _⟩ := hI7'.fam.form 0 5
            rw [hn5'] at eu3
            obtain ⟨d4, c4, W8, hr2, b12, f12, hI8, _, hfr8, hK8⟩ := hI7'.app 5 12 (by omega) rfl 28 _ 24 Tryz.underlying28 Tryz.inf39r rfl (by decide) #[.slice (some ⟨G2, 0, none⟩) M5 M5] rfl (by intro u hu; simp at hu; subst hu; rfl) hn5' eu3 HJ.out.1 hj24
            have r12 : X7.cell? ⟨R, 12, none⟩ = some (.slice d3 j c3) := by have := hI7'.room.cell (i := 12) rfl; rw [eu3] at this; exact this
            have hOu8 : Out W8 (updG O4 0 5 ⟨.slice d4 (j + 1) c4, j + 1, (O4 0 5).xs ++ [.slice (some ⟨G2, 0, none⟩) M5 M5]⟩) Pb := hOu7'.grow 0 5 hfr8 hK8.size
            have hBP8 := hBX7.kept hK8 fun e => hOu7'.2 0 5 e.symm
            obtain ⟨X8, hX8⟩ : ∃ X8, X8 = W8.setCell ⟨R, 12, none⟩ (.slice d4 (j + 1) c4) := ⟨_, rfl⟩
            have hBX8 : Blk X8 Pb [.string P.name, .int .i64 P.entry, .int .i64 P.action, .int .i64 P.restarts, .int .i64 P.inputs, .int .i64 P.outputs, .slice P.ra RL P.rc, .slice P.pa QL P.pc] 41 := by rw [hX8]; exact hBP8.setCell_ne hPR _
            rw [← hX8] at hI8
            obtain ⟨O5, hO5⟩ : ∃ O5, O5 = updG O4 0 5 ⟨.slice d4 (j + 1) c4, j + 1, (O4 0 5).xs ++ [.slice (some ⟨G2, 0, none⟩) M5 M5]⟩ := ⟨_, rfl⟩
            have hI8' : LeI w x C A R lo N (.slice dC L pC) (.slice x.pa x.ps.length x.pc) (.slice d H p) O5 X8 := by rw [hO5]; exact hI8
            have hOu8' : Out X8 O5 Pb := by rw [hO5, hX8]; exact hOu8.ge ((Keeps.refl (fun _ => True) W8).setCell _ _ fun _ => trivial).size
            -- the partition itself
            have g6 := hBX8.cell (i := 6) rfl
            have g7 := hBX8.cell (i := 7) rfl
            have gf6 := hBX8.frozen 6
            have hBZ := (hBX8.setCell 6 (.slice (some ⟨G, 0, none⟩) RL M2)).setCell 7 (.slice (some ⟨G2, 0, none⟩) QL M5)
            obtain ⟨Z1, hZ1⟩ : ∃ Z1, Z1 = X8.setCell ⟨Pb, 6, none⟩ (.slice (some ⟨G, 0, none⟩) RL M2) := ⟨_, rfl⟩
            have hBZ1 := hBX8.setCell 6 (.slice (some ⟨G, 0, none⟩) RL M2)
            rw [← hZ1] at hBZ1
            obtain ⟨Z2, hZ2⟩ : ∃ Z2, Z2 = Z1.setCell ⟨Pb, 7, none⟩ (.slice (some ⟨G2, 0, none⟩) QL M5) := ⟨_, rfl⟩
            rw [← hZ1, ← hZ2] at hBZ
            have y7 : Z1.cell? ⟨Pb, 7, none⟩ = some (.slice P.pa QL P.pc) := hBZ1.cell (i := 7) rfl
            have yf7 := hBZ1.frozen 7
            have kZ0 : Keeps (fun k => k = Pb) X8 Z1 := by rw [hZ1]; exact (Keeps.refl _ X8).setCell ⟨Pb, 6, none⟩ _ fun _ => rfl
            have kZ : Keeps (fun k => k = Pb) X8 Z2 := by rw [hZ2]; exact kZ0.setCell ⟨Pb, 7, none⟩ _ fun _ => rfl
            have hFZ : FamO lo Z2 O5 := hI8'.fam.kept kZ fun a b k hk e => hOu8'.2 a b (by rw [← e]; exact hk)
            have hIZ : LeI w x C A R lo N (.slice dC L pC) (.slice x.pa x.ps.length x.pc) (.slice d H p) O5 Z2 := hI8'.inner hFZ (kZ.mono fun k _ e => by omega) rfl
            have hn3' : (O5 0 3).n = j := by rw [hO5, updG_ne _ _ (by omega), hO4, updG_ne _ _ (by omega)]; exact hn3
            obtain ⟨d5, c5, eu5, _, _⟩ := hIZ.fam.form 0 3
            rw [hn3'] at eu5
            obtain ⟨d6, c6, W9, hr3, b10, f10, hI9, _⟩ := hIZ.app 3 10 (by omega) rfl 23 _ 104 Tryz.underlying23 Tryz.inf37 rfl (by decide) #[.string P.name, .int .i64 P.entry, .int .i64 P.action, .int .i64 P.restarts, .int .i64 P.inputs, .int .i64 P.outputs, .slice (some ⟨G, 0, none⟩) RL M2, .slice (some ⟨G2, 0, none⟩) QL M5] rfl (by intro u hu; simp at hu; rcases hu with rfl | rfl | rfl | rfl | rfl | rfl | rfl | rfl <;> rfl) hn3' eu5 HJ.out.1 HJ.out.2.1
            have r10 : Z2.cell? ⟨R, 10, none⟩ = some (.slice d5 j c5) := by have := hIZ.room.cell (i := 10) rfl; rw [eu5] at this; exact this
            obtain ⟨X9, hX9⟩ : ∃ X9, X9 = W9.setCell ⟨R, 10, none⟩ (.slice d6 (j + 1) c6) := ⟨_, rfl⟩
            rw [← hX9] at hI9
            have HN : Hid (∃ O', LeI w x C A R lo N (.slice dC L pC) (.slice x.pa x.ps.length x.pc) (.slice d H p) O' X9 ∧ LP x (L + 24) (j + 1) O' ∧ O' 0 0 = o0 ∧ O' 0 1 = oC) := by
             refine ⟨_, hI9, ?_, ?_, ?_⟩
             ·
              have := HI.out.2.1.par (u3 := .slice d6 (j + 1) c6) (u4 := .slice d2 (j + 1) c2) (u5 := .slice d4 (j + 1) c4) (l := ⟨.slice (some ⟨G, 0, none⟩) M2 M2, M2, l3⟩) (q := ⟨.slice (some ⟨G2, 0, none⟩) M5 M5, M5, l6⟩) HX.out.1 HR3.out.2.2.1 hfl hl3 hl4 hl5
              have e3 : O5 0 3 = O 0 3 := by rw [hO5, updG_ne _ _ (by omega), hO4, updG_ne _ _ (by omega)]; exact e2 3
              have e5 : O4 0 5 = O 0 5 := by rw [hO4, updG_ne _ _ (by omega)]; exact e2 5
              rw [HX.out.2.1, HX.out.2.2.1] at this
              rw [e3, hO5, e5, hO4, e2 4, hO2]
              exact this
             ·
              rw [updG_ne _ _ (by omega), hO5, updG_ne _ _ (by omega), hO4, updG_ne _ _ (by omega), e2]; exact HI.out.2.2.1
             ·
              rw [updG_ne _ _ (by omega), hO5, updG_ne _ _ (by omega), hO4, updG_ne _ _ (by omega), e2]; exact HI.out.2.2.2
            have z0 := hBZ.cell (i := 0) rfl
            have z1 := hBZ.cell (i := 1) rfl
            have z2 := hBZ.cell (i := 2) rfl
            have z3 := hBZ.cell (i := 3) rfl
            have z4 := hBZ.cell (i := 4) rfl
            have z5 := hBZ.cell (i := 5) rfl
            have z6 := hBZ.cell (i := 6) rfl
            have z7 := hBZ.cell (i := 7) rfl
            have HCP : Hid (∀ ty, (Builtin.copy_ #[39, 39] ty #[.slice (some ⟨G2, 0, none⟩) M5 M5, .slice P.pa QL P.pc]).run Tryz.prog wr = .ok (goInt QL) W6) := hcp
            have HA1 : Hid _ := hr1
            have HA2 : Hid _ := hr2
            have HA3 : Hid _ := hr3
            have HX7 : Hid (X7 = W7.setCell ⟨R, 11, none⟩ (.slice d2 (j + 1) c2)) := hX7
            have HX8 : Hid (X8 = W8.setCell ⟨R, 12, none⟩ (.slice d4 (j + 1) c4)) := hX8
            have HZ1 : Hid (Z1 = X8.setCell ⟨Pb, 6, none⟩ (.slice (some ⟨G, 0, none⟩) RL M2)) := hZ1
            have HZ2 : Hid (Z2 = Z1.setCell ⟨Pb, 7, none⟩ (.slice (some ⟨G2, 0, none⟩) QL M5)) := hZ2
            have HX9 : Hid (X9 = W9.setCell ⟨R, 10, none⟩ (.slice d6 (j + 1) c6)) := hX9
            clear hI hKV hBP hfl hfx hKs hcp hW6 hl6 hB6 hK6 hl6n kV3 kW6 hGs hF1 hF2 hOu0 hOu1 hOu2 hI6 hO2 e2 hn4 hn5 hn3 hl4 hl5 hl3 hj24 hBP6 hPR hPlo eu1 hr1 hfr7 hK7 hI7 hOu7 hBP7 hX7 hBX7 hO4 hI7' hOu7' hn5' eu3 hr2 hfr8 hK8 hI8 hOu8 hBP8 hX8 hBX8 hO5 hI8' hOu8' hBZ hZ1 hBZ1 hZ2 kZ0 kZ hFZ hIZ hn3' eu5 hr3 hI9 hX9 hKq hBl hll hA2 hk hkm
            go_wp2_with (refine isCopy (.tmp 175) (.tmp 177) 39 39 rfl ?_; go_must (refine wpList_copy_run rfl (.tmp 175) (.tmp 177) 39 39 rfl (.slice (some ⟨G2, 0, none⟩) M5 M5) (.slice P.pa QL P.pc) (goInt QL) W6 rfl rfl HCP.out ?_; refine Hid.out ?_))
            unfold Hid
            clear HCP q7
            go_wp2_with (at_builtin; go_must (refine wpList_append_run rfl (.tmp 180) (.tmp 182) 27 27 rfl (.slice d1 j c1) (.slice (some ⟨W6.heap.size, 0, none⟩) 1 1) (.slice d2 (j + 1) c2) W7 rfl rfl HA1.out ?_; refine Hid.out ?_))
            unfold Hid
            clear HA1 r11
            go_upto_region 42 with fail
            rw [← HX7.out]
            clear HX7 b11 f11
            go_wp2_with (at_builtin; go_must (refine wpList_append_run rfl (.tmp 186) (.tmp 188) 28 28 rfl (.slice d3 j c3) (.slice (some ⟨X7.heap.size, 0, none⟩) 1 1) (.slice d4 (j + 1) c4) W8 rfl rfl HA2.out ?_; refine Hid.out ?_))
            unfold Hid
            clear HA2 r12
            go_upto_region 43 with fail
            rw [← HX8.out]
            clear HX8 b12 f12
            go_upto_region 44 with fail
            rw [← HZ1.out]
            clear HZ1 g6 g7 gf6
            go_upto_region 45 with fail
            rw [← HZ2.out]
            clear HZ2 y7 yf7
            go_wp2_with (at_builtin; go_must (refine wpList_append_run rfl (.tmp 204) (.tmp 206) 23 23 rfl (.slice d5 j c5) (.slice (some ⟨Z2.heap.size, 0, none⟩) 1 1) (.slice d6 (j + 1) c6) W9 rfl rfl HA3.out ?_; refine Hid.out ?_))
            unfold Hid
            clear HA3 r10 z0 z1 z2 z3 z4 z5 z6 z7
            go_wp2
            rw [← HX9.out]
            clear HX9 b10 f10
            go_roundw
            case rel => obtain ⟨O', h1, h2, h3, h4⟩ := HN.out; exact ⟨j + 1, O', by have := HJ.out.2.2; omega, by go_num, h1, h2, h3, h4⟩
            case measure => have := HJ.out.2.2; simp [intOf]; omega
      ·
       obtain rfl : j = K + 24 := by omega
       obtain ⟨dP, pP, eu, hcap, hpm⟩ := hI.fam.form 0 3
       rw [hP.n3] at eu hcap
       obtain ⟨MP, hMP⟩ : ∃ MP, K + 24 = MP := ⟨_, rfl⟩
       have r10 : wr.cell? ⟨R, 10, none⟩ = some (.slice dP MP pP) := by rw [← hMP, ← eu]; exact hI.room.cell (i := 10) rfl
       have r5 : wr.cell? ⟨R, 5, none⟩ = some (.slice x.pa x.ps.length x.pc) := hI.room.cell (i := 5) rfl
       have rf5 : wr.frozen? ⟨R, 5, none⟩ = false := hI.room.frozen 5
       have hI2 : LeI w x C A R lo N (.slice dC L pC) (.slice dP K pP) (.slice d H p) O (wr.setCell ⟨R, 5, none⟩ (.slice dP K pP)) := hI.put hI.fam (Keeps.refl _ _) 5 (.slice dP K pP) rfl
       obtain ⟨W2, hW2⟩ : ∃ W2, W2 = wr.setCell ⟨R, 5, none⟩ (.slice dP K pP) := ⟨_, rfl⟩
       rw [← hW2] at hI2
       have q1 : (K : Int) ≤ pP := by omega
       have q2 : (pP : Int) ≤ 9223372036854775807 := by unfold maxLen at hpm; omega
       have q3 : (K : Int) ≤ MP := by omega
       have hz : ¬ ((MP : Int) < (K : Int) + 24) := by omega
       obtain ⟨W3, hW3⟩ : ∃ W3, W3 = W2.setRow A (lentV x (.slice dC L pC) (.slice dP K pP) (.slice d H p) O).toArray := ⟨_, rfl⟩
       have hA3 : Blk W3 A (lentV x (.slice dC L pC) (.slice dP K pP) (.slice d H p) O) 30 := by rw [hW3]; exact hI2.res.setRow _
       have ho := hI2.ord
       have hFin : Hid (LendP x w (.returned (.agg (lentV x (.slice dC L pC) (.slice dP K pP) (.slice d H p) O).toArray)) W3) := by
        have hKA : Keeps (fun k => k = A) W2 W3 := by rw [hW3]; exact (Keeps.refl _ W2).setRow A _ fun _ => rfl
        refine ⟨O, lo, ?_, by rw [HH.out.2.1, HH.out.2.2]; exact hP, by rw [hO0]; exact HO.out.1, hI2.fam.keptLo hKA fun k e => by omega, by omega, hI2.keeps.trans hKA fun b hb e => by omega⟩
        rw [hOC, HOC.out.1, eu, hO0, HO.out.2.1, HH.out.1, HH.out.2.1, HH.out.2.2]
        rfl
       have HFIN := hFin
       have HRM : Hid (Blk W2 R (lentV x (.slice dC L pC) (.slice dP K pP) (.slice d H p) O) 30 ∧ Blk W2 A zLent 30 ∧ ((lentV x (.slice dC L pC) (.slice dP K pP) (.slice d H p) O).toArray).all (fun v => v.oneCell') = true) := ⟨hI2.room, hI2.res, lent_one hI2.fam x _ _ _ _ _ _ _ _ _⟩
       have HW3 : Hid (W3 = W2.setRow A (lentV x (.slice dC L pC) (.slice dP K pP) (.slice d H p) O).toArray ∧ Blk W3 A (lentV x (.slice dC L pC) (.slice dP K pP) (.slice d H p) O) 30) := ⟨hW3, hA3⟩
       have HW2 : Hid (W2 = wr.setCell ⟨R, 5, none⟩ (.slice dP K pP)) := hW2
       clear hI hP hO0 hOC hlt hj eu hcap hpm hI2 hW2 hW3 hA3 ho hFin
       rw [hMP]
       go_upto_region 47 with fail
       rw [← HW2.out]
       clear HW2 r10 r5 rf5 q1 q2 q3 hz c5
       go_wp2_with (first | (refine wpList_load_row rfl 30 (.tmp 3) rfl R (by rfl) 30 _ (0, 0) _ HRM.out.1 Tryz.underlying30 rfl Tryz.sz30 ?_; refine Hid.out ?_))
       unfold Hid
       go_wp2_with (refine wpList_store_row rfl 30 (.tmp 2) (.tmp 217) rfl A (lentV x (.slice dC L pC) (.slice dP K pP) (.slice d H p) O).toArray rfl rfl 30 zLent.toArray HRM.out.2.1 Tryz.sz30 rfl HRM.out.2.2 ?_; rw [← HW3.out.1]; refine Hid.out ?_)
       unfold Hid
       go_wp2
       refine bodyPost_ret (results_cell_row rfl _ _ A 30 (lentV x (.slice dC L pC) (.slice dP K pP) (.slice d H p) O).toArray (0, 0) _ rfl HW3.out.2 Tryz.underlying30 rfl Tryz.sz30) rfl ?_
       exact HFIN.out
end Go.Proofs.YtlnmlbkeemahcaaGreat
