import Derived.Test.YtlnmlbkeemahcaaGreatQo
namespace Go.Proofs.YtlnmlbkeemahcaaGreat
open Go.RowKit
set_option linter.unusedVariables false
set_option linter.unusedSimpArgs false
set_option maxRecDepth 6000
set_option maxHeartbeats 8000000 in
theorem regionQuestions_any (x : Cfg) (N p i : Nat) (P : Par) (r : Rgn) (hP : x.ps[p]? = some P) (hr : P.rs[i]? = some r) (h1 : 1 ≤ x.frames) (h2 : x.frames ≤ 1024) (hah : ∀ s ∈ P.rs.take i, s.okB x.frames = true) (hpv : ∀ Q ∈ x.ps.take p, ∀ s ∈ Q.rs, s.okB x.frames = true) :
  Makes 65 #[x.v, .int .i64 (p : Int), .int .i64 (i : Int)] (Env x N []) (firstF (rgnF x p P i r)) := by
 intro w hE
 have hPi := hE.cin.pin P (List.mem_of_getElem? hP)
 have hrf := hPi.rfine r (List.mem_of_getElem? hr)
 have hPlt := (List.getElem?_eq_some_iff.1 hP).1
 have hrlt := (List.getElem?_eq_some_iff.1 hr).1
 obtain ⟨g0, o0, hpa, hc0⟩ := hE.cin.par hP
 obtain ⟨g1, o1, hra, hc1⟩ := hPi.rseg.at hr
 obtain ⟨W, hW⟩ : ∃ W, W = (x.laid w).alloc (.cells #[.int .i64 (p : Int)] 3) := ⟨_, rfl⟩
 obtain ⟨C, hC⟩ : ∃ C, C = w.heap.size := ⟨_, rfl⟩
 obtain ⟨I, hI⟩ : ∃ I, I = w.heap.size + 1 := ⟨_, rfl⟩
 have hE1 : Env x N [(C, x.vs, 26)] (x.laid w) := by rw [hC]; exact hE.box _ _
 have hE2 : Env x N [(I, [.int .i64 (p : Int)], 3), (C, x.vs, 26)] W := by
  have := hE1.box [.int .i64 (p : Int)] 3
  rw [hW, hI]
  simpa [Cfg.laid] using this
 obtain ⟨PL, hPL⟩ : ∃ PL, x.ps.length = PL := ⟨_, rfl⟩
 obtain ⟨RL, hRL⟩ : ∃ RL, P.rs.length = RL := ⟨_, rfl⟩
 have HS : Hid (∀ w', Env x N [(I, [.int .i64 (p : Int)], 3), (C, x.vs, 26)] w' → (w'.cell? ⟨C, 5, none⟩ = some (.slice (some ⟨g0, o0, none⟩) PL x.pc) ∧ w'.cell? ⟨I, 0, none⟩ = some (.int .i64 (p : Int)) ∧ w'.cell? ⟨g0, o0 + p * 8 + 6, none⟩ = some (.slice (some ⟨g1, o1, none⟩) RL P.rc) ∧ w'.cell? ⟨g1, o1 + i * 4, none⟩ = some (.int .i64 r.page) ∧ w'.cell? ⟨g1, o1 + i * 4 + 1, none⟩ = some (.int .i64 r.pages) ∧ w'.cell? ⟨g1, o1 + i * 4 + 2, none⟩ = some (.int .i64 r.frame) ∧ w'.cell? ⟨g1, o1 + i * 4 + 3, none⟩ = some (.int .i64 r.rights))) := by
  intro w' h
  have hPi := h.cin.pin P (List.mem_of_getElem? hP)
  obtain ⟨g2, o2, e2, hc2⟩ := h.cin.par hP
  obtain ⟨g3, o3, e3, hc3⟩ := hPi.rseg.at hr
  rw [hpa] at e2
  cases e2
  rw [hra] at e3
  cases e3
  have z5 := (h.bl _ (.tail _ (.head _))).cell (i := 5) rfl
  have z6 := hc2 6 _ rfl
  have y0 := hc3 0 _ rfl
  rw [Nat.add_zero] at y0
  rw [hpa, hPL] at z5
  rw [hra, hRL] at z6
  exact ⟨z5, (h.bl _ (.head _)).cell (i := 0) rfl, z6, y0, hc3 1 _ rfl, hc3 2 _ rfl, hc3 3 _ rfl⟩
 have HO : Hid (Env x N [(I, [.int .i64 (p : Int)], 3), (C, x.vs, 26)] W ∧ KF w W ∧ True) := ⟨hE2, by rw [hW]; exact ((Keeps.refl _ _).alloc _).alloc _, trivial⟩
 have HF : Hid (∀ (A G H : Nat) (w' : World), Env x N ((A, [.int .i64 (p : Int), .int .i64 (i : Int)], 34) :: (H, [.slice (some ⟨g1, o1, none⟩) i P.rc], 38) :: (G, [.int .i64 r.page, .int .i64 r.pages, .int .i64 r.frame, .int .i64 r.rights], 54) :: [(I, [.int .i64 (p : Int)], 3), (C, x.vs, 26)]) w' → KF w w' →
   MkP (firstF (rgnF x p P i r)) w (.returned (.slice (some ⟨w'.heap.size, 0, none⟩) 4 4)) (w'.alloc (.cells #[.func (.func 93) #[] #[.pointer (some ⟨G, 0, none⟩), .pointer (some ⟨C, 0, none⟩), .pointer (some ⟨A, 0, none⟩)], .func (.func 95) #[] #[.pointer (some ⟨H, 0, none⟩), .pointer (some ⟨G, 0, none⟩), .pointer (some ⟨A, 0, none⟩)], .func (.func 97) #[] #[.pointer (some ⟨H, 0, none⟩), .pointer (some ⟨G, 0, none⟩), .pointer (some ⟨A, 0, none⟩)], .func (.func 98) #[] #[.pointer (some ⟨C, 0, none⟩), .pointer (some ⟨I, 0, none⟩), .pointer (some ⟨G, 0, none⟩), .pointer (some ⟨A, 0, none⟩)]] 81))) := by
  intro A G H w' h k
  rw [← hra] at h
  exact MkP.of (rgnQs x N p i P r C I G H A hP hr hrf h1 h2 hah hpv _ rfl) (k.trans ((Keeps.refl (fun _ => False) _).alloc _) fun _ _ h => h) (Blk.new _ _ _) (h.kept ((Keeps.refl _ _).alloc _)) rfl rfl
 have hb1 : (PL : Int) ≤ x.pc ∧ (x.pc : Int) ≤ 9223372036854775807 := by have := hE.cin.plen; unfold maxLen at this; omega
 have hb2 : (RL : Int) ≤ P.rc ∧ (P.rc : Int) ≤ 9223372036854775807 := by have := hPi.rlen; unfold maxLen at this; omega
 have hib : i ≤ P.rc := by have := hPi.rlen; omega
 rw [hPL] at hPlt
 rw [hRL] at hrlt
 clear hE hPi hrf hpa hc0 hra hc1 hE1 hE2 hPL hRL hah hpv h1 h2 hP hr
 unfold Cfg.laid at hW
 go_enter Tryz.func65, Tryz.ntmps65
 go_upto_region 1 with fail
 rw [← hW, ← hI, ← hC]
 clear hW hI hC
 refine wp_region_held_drew (S := (fun w' => w'.cell? ⟨C, 5, none⟩ = some (.slice (some ⟨g0, o0, none⟩) PL x.pc) ∧ w'.cell? ⟨I, 0, none⟩ = some (.int .i64 (p : Int)) ∧ w'.cell? ⟨g0, o0 + p * 8 + 6, none⟩ = some (.slice (some ⟨g1, o1, none⟩) RL P.rc) ∧ w'.cell? ⟨g1, o1 + i * 4, none⟩ = some (.int .i64 r.page) ∧ w'.cell? ⟨g1, o1 + i * 4 + 1, none⟩ = some (.int .i64 r.pages) ∧ w'.cell? ⟨g1, o1 + i * 4 + 2, none⟩ = some (.int .i64 r.frame) ∧ w'.cell? ⟨g1, o1 + i * 4 + 3, none⟩ = some (.int .i64 r.rights))) Tryz.mixd (HS.out _ (HO.out.1.kept ((Keeps.refl _ _).drew))) (fun hHeld => ?_)
 simp only [t1, t2, List.length_nil, Nat.reduceAdd, t4, Array.replicate_zero, t6, List.append_toArray, List.nil_append, t8]
 refine tk 0 (.pointer (some ⟨C, 5, none⟩)) hHeld ?_
 refine tk 1 (.slice (some ⟨g0, o0, none⟩) PL x.pc) hHeld ?_
 refine tk 2 (.int .i64 (p : Int)) hHeld ?_
 refine tk 3 (.pointer (some ⟨g0, o0 + p * 8, none⟩)) hHeld ?_
 refine tk 4 (.pointer (some ⟨g0, o0 + p * 8 + 6, none⟩)) hHeld ?_
 refine tk 5 (.slice (some ⟨g1, o1, none⟩) RL P.rc) hHeld ?_
 refine tk 6 (.int .i64 (i : Int)) hHeld ?_
 refine tk 7 (.pointer (some ⟨g1, o1 + i * 4, none⟩)) hHeld ?_
 refine tk 8 (.agg #[.int .i64 r.page, .int .i64 r.pages, .int .i64 r.frame, .int .i64 r.rights]) hHeld ?_
 refine tk 9 (.pointer (some ⟨C, 5, none⟩)) hHeld ?_
 refine tk 10 (.slice (some ⟨g0, o0, none⟩) PL x.pc) hHeld ?_
 refine tk 11 (.int .i64 (p : Int)) hHeld ?_
 refine tk 12 (.pointer (some ⟨g0, o0 + p * 8, none⟩)) hHeld ?_
 refine tk 13 (.pointer (some ⟨g0, o0 + p * 8 + 6, none⟩)) hHeld ?_
 refine tk 14 (.slice (some ⟨g1, o1, none⟩) RL P.rc) hHeld ?_
 refine tk 15 (.int .i64 (i : Int)) hHeld ?_
 refine tk 16 (.slice (some ⟨g1, o1, none⟩) i P.rc) hHeld ?_
 simp only [Act.put, s1, s2, s3]
 obtain ⟨w0, hw0⟩ : ∃ w0, w0 = W.drew := ⟨_, rfl⟩
 have hs0 : Env x N [(I, [.int .i64 (p : Int)], 3), (C, x.vs, 26)] w0 ∧ KF w w0 := by rw [hw0]; exact ⟨HO.out.1.kept ((Keeps.refl _ _).drew), HO.out.2.1.trans ((Keeps.refl (fun _ => False) _).drew) fun _ _ h => h⟩
 have hCI : C < w0.heap.size ∧ I < w0.heap.size := ⟨(hs0.1.bl _ (.tail _ (.head _))).lt, (hs0.1.bl _ (.head _)).lt⟩
 rw [← hw0]
 clear hw0
 refine wpAnyH_ready (rs := [17, 18]) (by kernel_rfl) (by simp) ?_
 refine (AllReadyH.cons (o := ⟨some 7, .alloc 54, 0, "partition.go:41", #[], none⟩) rfl (fun K hK => ?_) (AllReadyH.cons (o := ⟨some 8, .alloc 38, 0, "partition.go:41", #[], none⟩) rfl (fun K hK => ?_) AllReadyH.nil))
 ·
  go_simp
  obtain ⟨wa, hw⟩ : ∃ wa, wa = w0.alloc (.cells #[.int .i64 0, .int .i64 0, .int .i64 0, .int .i64 0] 54) := ⟨_, rfl⟩
  obtain ⟨G, hG⟩ : ∃ G, G = w0.heap.size := ⟨_, rfl⟩
  have ha : Env x N ((G, [.int .i64 0, .int .i64 0, .int .i64 0, .int .i64 0], 54) :: [(I, [.int .i64 (p : Int)], 3), (C, x.vs, 26)]) wa ∧ KF w wa := by rw [hw, hG]; exact ⟨hs0.1.box _ _, hs0.2.trans ((Keeps.refl (fun _ => False) _).alloc _) fun _ _ h => h⟩
  have hltG : w0.heap.size ≤ G ∧ w.heap.size ≤ G ∧ N ≤ G ∧ G < wa.heap.size := ⟨by rw [hG]; exact Nat.le_refl _, by rw [hG]; exact hs0.2.size, by rw [hG]; exact hs0.1.nn, (ha.1.bl _ (.head _)).lt⟩
  rw [← hw, ← hG]
  clear hw hG
  refine hK.out _ _ (HS.out _ (ha.1.sub fun b hb => List.mem_cons_of_mem _ hb)) (fun hHeld => ?_)
  simp only [Act.put, s1, s2, s3]
  refine rd 18 fun K hK => ?_
  have hltX : w0.heap.size < wa.heap.size := by omega
  go_simp
  obtain ⟨wb, hw⟩ : ∃ wb, wb = wa.alloc (.cells #[.slice none 0 0] 38) := ⟨_, rfl⟩
  obtain ⟨H, hH⟩ : ∃ H, H = wa.heap.size := ⟨_, rfl⟩
  have hb : Env x N ((H, [.slice none 0 0], 38) :: ((G, [.int .i64 0, .int .i64 0, .int .i64 0, .int .i64 0], 54) :: [(I, [.int .i64 (p : Int)], 3), (C, x.vs, 26)])) wb ∧ KF w wb := by rw [hw, hH]; exact ⟨ha.1.box _ _, ha.2.trans ((Keeps.refl (fun _ => False) _).alloc _) fun _ _ h => h⟩
  have hltH : w0.heap.size ≤ H ∧ w.heap.size ≤ H ∧ N ≤ H ∧ H < wb.heap.size := ⟨by rw [hH]; exact Nat.le_of_lt hltX, by rw [hH]; exact ha.2.size, by rw [hH]; exact ha.1.nn, (hb.1.bl _ (.head _)).lt⟩
  rw [← hw, ← hH]
  have hGH : G < H := by rw [hH]; exact hltG.2.2.2
  clear hw hH
  have hb2 : Env x N ((G, [.int .i64 0, .int .i64 0, .int .i64 0, .int .i64 0], 54) :: (H, [.slice none 0 0], 38) :: [(I, [.int .i64 (p : Int)], 3), (C, x.vs, 26)]) wb := hb.1.sub fun b hb => by simp only [List.mem_cons, List.not_mem_nil, or_false] at hb ⊢; rcases hb with h | h | h | h <;> simp [h]
  have HK0 : Hid (KF w wb) := hb.2
  refine hK.out _ _ (HS.out _ (hb2.sub fun b hb => List.mem_cons_of_mem _ (List.mem_cons_of_mem _ hb))) (fun hHeld => ?_)
  simp only [Act.put, s1, s2, s3]
  refine rd 19 fun K hK => ?_
  refine wp_store_row 54 _ _ rfl G #[.int .i64 r.page, .int .i64 r.pages, .int .i64 r.frame, .int .i64 r.rights] (by rfl) (by rfl) 54 _ (hb2.bl _ (.head _)) Tryz.size54 rfl (all39 ..) ?_
  obtain ⟨wc, hwc⟩ : ∃ wc, wc = wb.setRow G #[.int .i64 r.page, .int .i64 r.pages, .int .i64 r.frame, .int .i64 r.rights] := ⟨_, rfl⟩
  have hBc : Blk wc G [.int .i64 r.page, .int .i64 r.pages, .int .i64 r.frame, .int .i64 r.rights] 54 := by rw [hwc]; exact (hb2.bl _ (.head _)).setRow _
  have kc : Keeps (fun k => k = G) wb wc := by rw [hwc]; exact (Keeps.refl _ _).setRow _ _ fun _ => rfl
  have hc : Env x N ((G, [.int .i64 r.page, .int .i64 r.pages, .int .i64 r.frame, .int .i64 r.rights], 54) :: (H, [.slice none 0 0], 38) :: [(I, [.int .i64 (p : Int)], 3), (C, x.vs, 26)]) wc := hb2.put kc hBc hltG.2.2.1 fun b hb => by
   simp only [List.mem_cons, List.not_mem_nil, or_false] at hb
   rcases hb with rfl | rfl | rfl <;> dsimp only <;> omega
  have HK1 : Hid (KF w wc) := HK0.out.trans kc fun k hk e => by omega
  rw [← hwc]
  clear hwc kc hBc
  refine hK.out _ _ (HS.out _ (hc.sub fun b hb => List.mem_cons_of_mem _ (List.mem_cons_of_mem _ hb))) (fun hHeld => ?_)
  simp only [Act.put, s1, s2, s3]
  refine rd 20 fun K hK => ?_
  have e0 := (hc.bl _ (.tail _ (.head _))).cell (i := 0) rfl
  have e1 := (hc.bl _ (.tail _ (.head _))).frozen 0
  dsimp only at e0 e1
  go_simp
  obtain ⟨wd, hwd⟩ : ∃ wd, wd = wc.setCell ⟨H, 0, none⟩ (.slice (some ⟨g1, o1, none⟩) i P.rc) := ⟨_, rfl⟩
  have hBd : Blk wd H [.slice (some ⟨g1, o1, none⟩) i P.rc] 38 := by rw [hwd]; exact (hc.bl _ (.tail _ (.head _))).setCell 0 _
  have kd : Keeps (fun k => k = H) wc wd := by rw [hwd]; exact (Keeps.refl _ _).setCell ⟨H, 0, none⟩ _ fun _ => rfl
  have hd : Env x N ((H, [.slice (some ⟨g1, o1, none⟩) i P.rc], 38) :: (G, [.int .i64 r.page, .int .i64 r.pages, .int .i64 r.frame, .int .i64 r.rights], 54) :: [(I, [.int .i64 (p : Int)], 3), (C, x.vs, 26)]) wd := Env.put (cs := [.slice none 0 0]) (hc.sub fun b hb => by simp only [List.mem_cons, List.not_mem_nil, or_false] at hb ⊢; rcases hb with h | h | h | h <;> simp [h]) kd hBd hltH.2.2.1 fun b hb => by
   simp only [List.mem_cons, List.not_mem_nil, or_false] at hb
   rcases hb with rfl | rfl | rfl <;> dsimp only <;> omega
  have HK2 : Hid (KF w wd) := HK1.out.trans kd fun k hk e => by omega
  rw [← hwd]
  clear hwd kd hBd e0 e1
  refine hK.out _ _ (HS.out _ (hd.sub fun b hb => List.mem_cons_of_mem _ (List.mem_cons_of_mem _ hb))) (fun hHeld => ?_)
  simp only [Act.put, s1, s2, s3]
  refine wpAnyH_done (by kernel_rfl) ?_ _
  have HD : Hid (Env x N ((H, [.slice (some ⟨g1, o1, none⟩) i P.rc], 38) :: (G, [.int .i64 r.page, .int .i64 r.pages, .int .i64 r.frame, .int .i64 r.rights], 54) :: [(I, [.int .i64 (p : Int)], 3), (C, x.vs, 26)]) wd ∧ KF w wd) := ⟨hd, HK2.out⟩
  have i0 := (hd.bl _ (.tail _ (.tail _ (.head _)))).cell (i := 0) rfl
  dsimp only at i0
  clear hc hd hb hb2 ha hs0 HK0 HK1 HK2 hHeld hltG hltH hGH hCI hK
  obtain ⟨we, hwe⟩ : ∃ we, we = wd.alloc (.cells #[.int .i64 (p : Int), .int .i64 (i : Int)] 34) := ⟨_, rfl⟩
  obtain ⟨A, hA⟩ : ∃ A, A = wd.heap.size := ⟨_, rfl⟩
  have HE : Hid (Env x N ((A, [.int .i64 (p : Int), .int .i64 (i : Int)], 34) :: (H, [.slice (some ⟨g1, o1, none⟩) i P.rc], 38) :: (G, [.int .i64 r.page, .int .i64 r.pages, .int .i64 r.frame, .int .i64 r.rights], 54) :: [(I, [.int .i64 (p : Int)], 3), (C, x.vs, 26)]) we ∧ KF w we) := by rw [hwe, hA]; exact ⟨HD.out.1.box _ _, HD.out.2.trans ((Keeps.refl (fun _ => False) _).alloc _) fun _ _ h => h⟩
  go_upto_region 3 with fail
  rw [← hwe, ← hA]
  clear hwe hA i0
  go_wp2
  go_ret
  exact HF.out A G H we HE.out.1 HE.out.2
 ·
  go_simp
  obtain ⟨wa, hw⟩ : ∃ wa, wa = w0.alloc (.cells #[.slice none 0 0] 38) := ⟨_, rfl⟩
  obtain ⟨H, hH⟩ : ∃ H, H = w0.heap.size := ⟨_, rfl⟩
  have ha : Env x N ((H, [.slice none 0 0], 38) :: [(I, [.int .i64 (p : Int)], 3), (C, x.vs, 26)]) wa ∧ KF w wa := by rw [hw, hH]; exact ⟨hs0.1.box _ _, hs0.2.trans ((Keeps.refl (fun _ => False) _).alloc _) fun _ _ h => h⟩
  have hltH : w0.heap.size ≤ H ∧ w.heap.size ≤ H ∧ N ≤ H ∧ H < wa.heap.size := ⟨by rw [hH]; exact Nat.le_refl _, by rw [hH]; exact hs0.2.size, by rw [hH]; exact hs0.1.nn, (ha.1.bl _ (.head _)).lt⟩
  rw [← hw, ← hH]
  clear hw hH
  refine hK.out _ _ (HS.out _ (ha.1.sub fun b hb => List.mem_cons_of_mem _ hb)) (fun hHeld => ?_)
  simp only [Act.put, s1, s2, s3]
  refine rd 17 fun K hK => ?_
  have hltX : w0.heap.size < wa.heap.size := by omega
  go_simp
  obtain ⟨wb, hw⟩ : ∃ wb, wb = wa.alloc (.cells #[.int .i64 0, .int .i64 0, .int .i64 0, .int .i64 0] 54) := ⟨_, rfl⟩
  obtain ⟨G, hG⟩ : ∃ G, G = wa.heap.size := ⟨_, rfl⟩
  have hb : Env x N ((G, [.int .i64 0, .int .i64 0, .int .i64 0, .int .i64 0], 54) :: ((H, [.slice none 0 0], 38) :: [(I, [.int .i64 (p : Int)], 3), (C, x.vs, 26)])) wb ∧ KF w wb := by rw [hw, hG]; exact ⟨ha.1.box _ _, ha.2.trans ((Keeps.refl (fun _ => False) _).alloc _) fun _ _ h => h⟩
  have hltG : w0.heap.size ≤ G ∧ w.heap.size ≤ G ∧ N ≤ G ∧ G < wb.heap.size := ⟨by rw [hG]; exact Nat.le_of_lt hltX, by rw [hG]; exact ha.2.size, by rw [hG]; exact ha.1.nn, (hb.1.bl _ (.head _)).lt⟩
  rw [← hw, ← hG]
  have hGH : H < G := by rw [hG]; exact hltH.2.2.2
  clear hw hG
  have hb2 : Env x N ((G, [.int .i64 0, .int .i64 0, .int .i64 0, .int .i64 0], 54) :: (H, [.slice none 0 0], 38) :: [(I, [.int .i64 (p : Int)], 3), (C, x.vs, 26)]) wb := hb.1
  have HK0 : Hid (KF w wb) := hb.2
  refine hK.out _ _ (HS.out _ (hb2.sub fun b hb => List.mem_cons_of_mem _ (List.mem_cons_of_mem _ hb))) (fun hHeld => ?_)
  simp only [Act.put, s1, s2, s3]
  refine rd 19 fun K hK => ?_
  refine wp_store_row 54 _ _ rfl G #[.int .i64 r.page, .int .i64 r.pages, .int .i64 r.frame, .int .i64 r.rights] (by rfl) (by rfl) 54 _ (hb2.bl _ (.head _)) Tryz.size54 rfl (all39 ..) ?_
  obtain ⟨wc, hwc⟩ : ∃ wc, wc = wb.setRow G #[.int .i64 r.page, .int .i64 r.pages, .int .i64 r.frame, .int .i64 r.rights] := ⟨_, rfl⟩
  have hBc : Blk wc G [.int .i64 r.page, .int .i64 r.pages, .int .i64 r.frame, .int .i64 r.rights] 54 := by rw [hwc]; exact (hb2.bl _ (.head _)).setRow _
  have kc : Keeps (fun k => k = G) wb wc := by rw [hwc]; exact (Keeps.refl _ _).setRow _ _ fun _ => rfl
  have hc : Env x N ((G, [.int .i64 r.page, .int .i64 r.pages, .int .i64 r.frame, .int .i64 r.rights], 54) :: (H, [.slice none 0 0], 38) :: [(I, [.int .i64 (p : Int)], 3), (C, x.vs, 26)]) wc := hb2.put kc hBc hltG.2.2.1 fun b hb => by
   simp only [List.mem_cons, List.not_mem_nil, or_false] at hb
   rcases hb with rfl | rfl | rfl <;> dsimp only <;> omega
  have HK1 : Hid (KF w wc) := HK0.out.trans kc fun k hk e => by omega
  rw [← hwc]
  clear hwc kc hBc
  refine hK.out _ _ (HS.out _ (hc.sub fun b hb => List.mem_cons_of_mem _ (List.mem_cons_of_mem _ hb))) (fun hHeld => ?_)
  simp only [Act.put, s1, s2, s3]
  refine rd 20 fun K hK => ?_
  have e0 := (hc.bl _ (.tail _ (.head _))).cell (i := 0) rfl
  have e1 := (hc.bl _ (.tail _ (.head _))).frozen 0
  dsimp only at e0 e1
  go_simp
  obtain ⟨wd, hwd⟩ : ∃ wd, wd = wc.setCell ⟨H, 0, none⟩ (.slice (some ⟨g1, o1, none⟩) i P.rc) := ⟨_, rfl⟩
  have hBd : Blk wd H [.slice (some ⟨g1, o1, none⟩) i P.rc] 38 := by rw [hwd]; exact (hc.bl _ (.tail _ (.head _))).setCell 0 _
  have kd : Keeps (fun k => k = H) wc wd := by rw [hwd]; exact (Keeps.refl _ _).setCell ⟨H, 0, none⟩ _ fun _ => rfl
  have hd : Env x N ((H, [.slice (some ⟨g1, o1, none⟩) i P.rc], 38) :: (G, [.int .i64 r.page, .int .i64 r.pages, .int .i64 r.frame, .int .i64 r.rights], 54) :: [(I, [.int .i64 (p : Int)], 3), (C, x.vs, 26)]) wd := Env.put (cs := [.slice none 0 0]) (hc.sub fun b hb => by simp only [List.mem_cons, List.not_mem_nil, or_false] at hb ⊢; rcases hb with h | h | h | h <;> simp [h]) kd hBd hltH.2.2.1 fun b hb => by
   simp only [List.mem_cons, List.not_mem_nil, or_false] at hb
   rcases hb with rfl | rfl | rfl <;> dsimp only <;> omega
  have HK2 : Hid (KF w wd) := HK1.out.trans kd fun k hk e => by omega
  rw [← hwd]
  clear hwd kd hBd e0 e1
  refine hK.out _ _ (HS.out _ (hd.sub fun b hb => List.mem_cons_of_mem _ (List.mem_cons_of_mem _ hb))) (fun hHeld => ?_)
  simp only [Act.put, s1, s2, s3]
  refine wpAnyH_done (by kernel_rfl) ?_ _
  have HD : Hid (Env x N ((H, [.slice (some ⟨g1, o1, none⟩) i P.rc], 38) :: (G, [.int .i64 r.page, .int .i64 r.pages, .int .i64 r.frame, .int .i64 r.rights], 54) :: [(I, [.int .i64 (p : Int)], 3), (C, x.vs, 26)]) wd ∧ KF w wd) := ⟨hd, HK2.out⟩
  have i0 := (hd.bl _ (.tail _ (.tail _ (.head _)))).cell (i := 0) rfl
  dsimp only at i0
  clear hc hd hb hb2 ha hs0 HK0 HK1 HK2 hHeld hltG hltH hGH hCI hK
  obtain ⟨we, hwe⟩ : ∃ we, we = wd.alloc (.cells #[.int .i64 (p : Int), .int .i64 (i : Int)] 34) := ⟨_, rfl⟩
  obtain ⟨A, hA⟩ : ∃ A, A = wd.heap.size := ⟨_, rfl⟩
  have HE : Hid (Env x N ((A, [.int .i64 (p : Int), .int .i64 (i : Int)], 34) :: (H, [.slice (some ⟨g1, o1, none⟩) i P.rc], 38) :: (G, [.int .i64 r.page, .int .i64 r.pages, .int .i64 r.frame, .int .i64 r.rights], 54) :: [(I, [.int .i64 (p : Int)], 3), (C, x.vs, 26)]) we ∧ KF w we) := by rw [hwe, hA]; exact ⟨HD.out.1.box _ _, HD.out.2.trans ((Keeps.refl (fun _ => False) _).alloc _) fun _ _ h => h⟩
  go_upto_region 3 with fail
  rw [← hwe, ← hA]
  clear hwe hA i0
  go_wp2
  go_ret
  exact HF.out A G H we HE.out.1 HE.out.2
def prtF (x : Cfg) (p q : Nat) (t : Prt) : List Flt := [unl (inR t.ch 0 ((x.hs.length : Int) - 1)) ⟨414, p, q⟩]
theorem Tryz.size57 : (Tryz.prog.info? 57).map (·.size) = some 2 := by kernel_rfl
theorem all51 (n : Int) (b : Bool) : (#[Value.int .i64 n, .bool b] : Array Value).all (fun v => v.oneCell') = true := by kernel_rfl
set_option maxHeartbeats 4000000 in
theorem q88 (x : Cfg) (N : Nat) (p q : Nat) (t : Prt) (T C I J : Nat) : Ask 103 #[.pointer (some ⟨T, 0, none⟩), .pointer (some ⟨C, 0, none⟩), .pointer (some ⟨I, 0, none⟩), .pointer (some ⟨J, 0, none⟩)] (Env x N [(T, [.int .i64 t.ch, .bool t.src], 57), (C, x.vs, 26), (I, [.int .i64 (p : Int)], 3), (J, [.int .i64 (q : Int)], 3)]) (unl (inR t.ch 0 ((x.hs.length : Int) - 1)) ⟨414, p, q⟩) := by
 intro w hE
 have q1 : IntKind.i64.wrap ((x.hs.length : Int) - 1) = (x.hs.length : Int) - 1 := by have := hE.cin.hlen; unfold maxLen at this; rw [IntKind.wrap_i64]; omega
 have HEk : Hid (∀ w w', (Env x N [(T, [.int .i64 t.ch, .bool t.src], 57), (C, x.vs, 26), (I, [.int .i64 (p : Int)], 3), (J, [.int .i64 (q : Int)], 3)]) w → KF w w' → (Env x N [(T, [.int .i64 t.ch, .bool t.src], 57), (C, x.vs, 26), (I, [.int .i64 (p : Int)], 3), (J, [.int .i64 (q : Int)], 3)]) w') := fun _ _ h k => h.kept k
 have HS : Hid (∀ w', (Env x N [(T, [.int .i64 t.ch, .bool t.src], 57), (C, x.vs, 26), (I, [.int .i64 (p : Int)], 3), (J, [.int .i64 (q : Int)], 3)]) w' → (w'.cell? ⟨T, 0, none⟩ = some (.int .i64 t.ch) ∧ w'.cell? ⟨T, 1, none⟩ = some (.bool t.src) ∧ w'.cell? ⟨C, 0, none⟩ = some (.int .i64 x.frames) ∧ w'.cell? ⟨C, 1, none⟩ = some (.int .i64 x.major) ∧ w'.cell? ⟨C, 2, none⟩ = some (.int .i64 x.kernel) ∧ w'.cell? ⟨C, 3, none⟩ = some (.int .i64 x.room) ∧ w'.cell? ⟨C, 4, none⟩ = some (.slice x.ca x.cs.length x.cc) ∧ w'.cell? ⟨C, 5, none⟩ = some (.slice x.pa x.ps.length x.pc) ∧ w'.cell? ⟨C, 6, none⟩ = some (.slice x.ha x.hs.length x.hc) ∧ w'.cell? ⟨I, 0, none⟩ = some (.int .i64 (p : Int)) ∧ w'.cell? ⟨J, 0, none⟩ = some (.int .i64 (q : Int)))) := fun w' h => ⟨(h.bl _ (.head _)).cell (i := 0) rfl, (h.bl _ (.head _)).cell (i := 1) rfl, (h.bl _ (.tail _ (.head _))).cell (i := 0) rfl, (h.bl _ (.tail _ (.head _))).cell (i := 1) rfl, (h.bl _ (.tail _ (.head _))).cell (i := 2) rfl, (h.bl _ (.tail _ (.head _))).cell (i := 3) rfl, (h.bl _ (.tail _ (.head _))).cell (i := 4) rfl, (h.bl _ (.tail _ (.head _))).cell (i := 5) rfl, (h.bl _ (.tail _ (.head _))).cell (i := 6) rfl, (h.bl _ (.tail _ (.tail _ (.head _)))).cell (i := 0) rfl, (h.bl _ (.tail _ (.tail _ (.tail _ (.head _))))).cell (i := 0) rfl⟩
 obtain ⟨W, hW⟩ : ∃ W, W = w.alloc (.cells #[.int .i64 0, .int .i64 0, .int .i64 0] 65) := ⟨_, rfl⟩
 obtain ⟨R, hR⟩ : ∃ R, R = w.heap.size := ⟨_, rfl⟩
 have HO : Hid (ObI w (Env x N [(T, [.int .i64 t.ch, .bool t.src], 57), (C, x.vs, 26), (I, [.int .i64 (p : Int)], 3), (J, [.int .i64 (q : Int)], 3)]) R W) := by rw [hW, hR]; exact ⟨hE.kept ((Keeps.refl _ _).alloc _), Blk.new _ _ _, (Keeps.refl _ _).alloc _, Nat.le_refl _⟩
 have HE0 : Hid ((Env x N [(T, [.int .i64 t.ch, .bool t.src], 57), (C, x.vs, 26), (I, [.int .i64 (p : Int)], 3), (J, [.int .i64 (q : Int)], 3)]) w) := hE
 clear hE
 go_enter Tryz.func103, Tryz.ntmps103
 go_upto_region 1 with fail
 rw [← hW, ← hR]
 clear hW hR
 refine wp_region_held_drew (S := (fun w' => w'.cell? ⟨T, 0, none⟩ = some (.int .i64 t.ch) ∧ w'.cell? ⟨T, 1, none⟩ = some (.bool t.src) ∧ w'.cell? ⟨C, 0, none⟩ = some (.int .i64 x.frames) ∧ w'.cell? ⟨C, 1, none⟩ = some (.int .i64 x.major) ∧ w'.cell? ⟨C, 2, none⟩ = some (.int .i64 x.kernel) ∧ w'.cell? ⟨C, 3, none⟩ = some (.int .i64 x.room) ∧ w'.cell? ⟨C, 4, none⟩ = some (.slice x.ca x.cs.length x.cc) ∧ w'.cell? ⟨C, 5, none⟩ = some (.slice x.pa x.ps.length x.pc) ∧ w'.cell? ⟨C, 6, none⟩ = some (.slice x.ha x.hs.length x.hc) ∧ w'.cell? ⟨I, 0, none⟩ = some (.int .i64 (p : Int)) ∧ w'.cell? ⟨J, 0, none⟩ = some (.int .i64 (q : Int)))) Tryz.mixd (HS.out _ (HO.out.env.kept ((Keeps.refl _ _).drew))) (fun hHeld => ?_)
 simp only [t1, t2, List.length_nil, Nat.reduceAdd, t4, Array.replicate_zero, t6, List.append_toArray, List.nil_append, t8]
 refine tk 0 (.pointer (some ⟨T, 0, none⟩)) hHeld ?_
 refine tk 1 (.int .i64 t.ch) hHeld ?_
 refine tk 2 (.pointer (some ⟨C, 6, none⟩)) hHeld ?_
 refine tk 3 (.slice x.ha x.hs.length x.hc) hHeld ?_
 refine tk 4 (.int .i64 x.hs.length) hHeld ?_
 refine tk 5 (.int .i64 ((x.hs.length : Int) - 1)) hHeld ?_
 refine tk 7 (.int .i64 (p : Int)) hHeld ?_
 refine tk 8 (.int .i64 (q : Int)) hHeld ?_
 refine tk 9 (.agg #[.int .i64 (p : Int), .int .i64 (q : Int)]) hHeld ?_
 simp only [Act.put, s1, s2, s3]
 refine rd 6 fun K hK => ?_
 go_simp
 refine (within_k t.ch 0 ((x.hs.length : Int) - 1) W.drew).mono ?_
 rintro r w1 ⟨rfl, hKc⟩
 have HO1 : Hid (ObI w (Env x N [(T, [.int .i64 t.ch, .bool t.src], 57), (C, x.vs, 26), (I, [.int .i64 (p : Int)], 3), (J, [.int .i64 (q : Int)], 3)]) R w1) := HO.out.kept HEk.out (((Keeps.refl _ _).drew).trans hKc fun _ _ h => h)
 clear hKc
 refine hK.out _ _ (HS.out _ HO1.out.env) (fun hHeld => ?_)
 simp only [Act.put, s1, s2, s3]
 refine rd 10 fun K hK => ?_
 go_simp
 refine (unless_any (inR t.ch 0 ((x.hs.length : Int) - 1)) 414 p q w1).mono ?_
 rintro r w2 ⟨rfl, hKc⟩
 have HO2 : Hid (ObI w (Env x N [(T, [.int .i64 t.ch, .bool t.src], 57), (C, x.vs, 26), (I, [.int .i64 (p : Int)], 3), (J, [.int .i64 (q : Int)], 3)]) R w2) := HO1.out.kept HEk.out hKc
 clear hKc
 obtain ⟨Gz, hG⟩ : ∃ Gz : Flt, unl (inR t.ch 0 ((x.hs.length : Int) - 1)) ⟨414, p, q⟩ = Gz := ⟨_, rfl⟩
 rw [hG]
 have HG : Hid (unl (inR t.ch 0 ((x.hs.length : Int) - 1)) ⟨414, p, q⟩ = Gz) := hG
 clear hG
 refine hK.out _ _ (HS.out _ HO2.out.env) (fun hHeld => ?_)
 simp only [Act.put, s1, s2, s3]
 refine rd 11 fun K hK => ?_
 refine wp_store_row 65 _ _ rfl R #[.int .i64 Gz.n, .int .i64 Gz.a, .int .i64 Gz.b] (by rfl) (by rfl) 65 _ HO2.out.ans Tryz.size65 rfl (all53 ..) ?_
 obtain ⟨W5, hW5⟩ : ∃ W5, W5 = w2.setRow R #[.int .i64 Gz.n, .int .i64 Gz.a, .int .i64 Gz.b] := ⟨_, rfl⟩
 have hB5 : Blk W5 R [.int .i64 Gz.n, .int .i64 Gz.a, .int .i64 Gz.b] 65 := by rw [hW5]; exact HO2.out.ans.setRow _
 have k5 : Keeps (fun k => k = R) w2 W5 := by rw [hW5]; exact (Keeps.refl _ _).setRow _ _ fun _ => rfl
 have hlo := HO.out.lo
 have HO5 : Hid (Blk W5 R [.int .i64 Gz.n, .int .i64 Gz.a, .int .i64 Gz.b] 65 ∧ KF w W5) := ⟨hB5, HO2.out.keeps.trans k5 fun k hk e => by omega⟩
 have HE5 : Hid ((Env x N [(T, [.int .i64 t.ch, .bool t.src], 57), (C, x.vs, 26), (I, [.int .i64 (p : Int)], 3), (J, [.int .i64 (q : Int)], 3)]) W5) := Env.kept' (HE0.out) HO2.out.env hlo k5
 rw [← hW5]
 clear hW5 hB5 k5 hlo
 refine hK.out _ _ (HS.out _ HE5.out) (fun hHeld => ?_)
 simp only [Act.put, s1, s2, s3]
 refine wpAnyH_done (by kernel_rfl) ?_ _
 clear hHeld
 go_wp2
 (try simp only [Exit.inBlock, Exit.then])
 refine bodyPost_ret (results_cell_row rfl _ _ R 65 _ (0, 0) _ rfl HO5.out.1 Tryz.underlying65 rfl (by kernel_rfl)) rfl ?_
 exact ⟨by rw [HG.out], HO5.out.2⟩
theorem prtQs (x : Cfg) (N p q : Nat) (t : Prt) (C I J T : Nat) (L : List (Nat × List Value × TypeId)) (hL : L = (T, [.int .i64 t.ch, .bool t.src], 57) :: [(J, [.int .i64 (q : Int)], 3), (I, [.int .i64 (p : Int)], 3), (C, x.vs, 26)]) :
  Qs [(103, #[.pointer (some ⟨T, 0, none⟩), .pointer (some ⟨C, 0, none⟩), .pointer (some ⟨I, 0, none⟩), .pointer (some ⟨J, 0, none⟩)], unl (inR t.ch 0 ((x.hs.length : Int) - 1)) ⟨414, p, q⟩)] (Env x N L) := by
 refine ⟨fun _ _ h k => h.kept k, fun q hq args w => ?_, fun j q hj hpr => ?_, by simp⟩
 ·
  simp only [List.mem_cons, List.not_mem_nil, or_false] at hq
  rcases hq with rfl
  exact enter_fn Tryz.func103 rfl rfl args w
 ·
  match j, hj with
  | 0, hj =>
   cases hj
   exact (q88 x N p _ t T C I J).of fun w h => h.sub fun b hb => by rw [hL]; simp only [List.mem_cons, List.not_mem_nil, or_false] at hb ⊢; rcases hb with h | h | h | h <;> simp [h]
  | j + 1, hj => simp at hj
set_option maxHeartbeats 8000000 in
theorem portQuestions_any (x : Cfg) (N p q : Nat) (P : Par) (t : Prt) (hP : x.ps[p]? = some P) (hr : P.ps[q]? = some t) :
  Makes 71 #[x.v, .int .i64 (p : Int), .int .i64 (q : Int)] (Env x N []) (firstF (prtF x p q t)) := by
 intro w hE
 have hPi := hE.cin.pin P (List.mem_of_getElem? hP)
 have hPlt := (List.getElem?_eq_some_iff.1 hP).1
 have hrlt := (List.getElem?_eq_some_iff.1 hr).1
 obtain ⟨g0, o0, hpa, hc0⟩ := hE.cin.par hP
 obtain ⟨g1, o1, hra, hc1⟩ := hPi.pseg.at hr
 obtain ⟨W, hW⟩ : ∃ W, W = ((x.laid w).alloc (.cells #[.int .i64 (p : Int)] 3)).alloc (.cells #[.int .i64 (q : Int)] 3) := ⟨_, rfl⟩
 obtain ⟨C, hC⟩ : ∃ C, C = w.heap.size := ⟨_, rfl⟩
 obtain ⟨I, hI⟩ : ∃ I, I = w.heap.size + 1 := ⟨_, rfl⟩
 obtain ⟨J, hJ⟩ : ∃ J, J = w.heap.size + 1 + 1 := ⟨_, rfl⟩
 have hE1 : Env x N [(C, x.vs, 26)] (x.laid w) := by rw [hC]; exact hE.box _ _
 have hE2 : Env x N [(J, [.int .i64 (q : Int)], 3), (I, [.int .i64 (p : Int)], 3), (C, x.vs, 26)] W := by
  have := (hE1.box [.int .i64 (p : Int)] 3).box [.int .i64 (q : Int)] 3
  rw [hW, hI, hJ]
  simpa [Cfg.laid] using this
 obtain ⟨PL, hPL⟩ : ∃ PL, x.ps.length = PL := ⟨_, rfl⟩
 obtain ⟨RL, hRL⟩ : ∃ RL, P.ps.length = RL := ⟨_, rfl⟩
 have HS : Hid (∀ w', Env x N [(J, [.int .i64 (q : Int)], 3), (I, [.int .i64 (p : Int)], 3), (C, x.vs, 26)] w' → (w'.cell? ⟨C, 5, none⟩ = some (.slice (some ⟨g0, o0, none⟩) PL x.pc) ∧ w'.cell? ⟨I, 0, none⟩ = some (.int .i64 (p : Int)) ∧ w'.cell? ⟨J, 0, none⟩ = some (.int .i64 (q : Int)) ∧ w'.cell? ⟨g0, o0 + p * 8 + 7, none⟩ = some (.slice (some ⟨g1, o1, none⟩) RL P.pc) ∧ w'.cell? ⟨g1, o1 + q * 2, none⟩ = some (.int .i64 t.ch) ∧ w'.cell? ⟨g1, o1 + q * 2 + 1, none⟩ = some (.bool t.src))) := by
  intro w' h
  have hPi := h.cin.pin P (List.mem_of_getElem? hP)
  obtain ⟨g2, o2, e2, hc2⟩ := h.cin.par hP
  obtain ⟨g3, o3, e3, hc3⟩ := hPi.pseg.at hr
  rw [hpa] at e2
  cases e2
  rw [hra] at e3
  cases e3
  have z5 := (h.bl _ (.tail _ (.tail _ (.head _)))).cell (i := 5) rfl
  have z6 := hc2 7 _ rfl
  have y0 := hc3 0 _ rfl
  rw [Nat.add_zero] at y0
  rw [hpa, hPL] at z5
  rw [hra, hRL] at z6
  exact ⟨z5, (h.bl _ (.tail _ (.head _))).cell (i := 0) rfl, (h.bl _ (.head _)).cell (i := 0) rfl, z6, y0, hc3 1 _ rfl⟩
 have HO : Hid (Env x N [(J, [.int .i64 (q : Int)], 3), (I, [.int .i64 (p : Int)], 3), (C, x.vs, 26)] W ∧ KF w W ∧ True) := ⟨hE2, by rw [hW]; exact (((Keeps.refl _ _).alloc _).alloc _).alloc _, trivial⟩
 have HF : Hid (∀ (T : Nat) (w' : World), Env x N ((T, [.int .i64 t.ch, .bool t.src], 57) :: [(J, [.int .i64 (q : Int)], 3), (I, [.int .i64 (p : Int)], 3), (C, x.vs, 26)]) w' → KF w w' →
   MkP (firstF (prtF x p q t)) w (.returned (.slice (some ⟨w'.heap.size, 0, none⟩) 1 1)) (w'.alloc (.cells #[.func (.func 103) #[] #[.pointer (some ⟨T, 0, none⟩), .pointer (some ⟨C, 0, none⟩), .pointer (some ⟨I, 0, none⟩), .pointer (some ⟨J, 0, none⟩)]] 81))) := by
  intro T w' h k
  exact MkP.of (prtQs x N p q t C I J T _ rfl) (k.trans ((Keeps.refl (fun _ => False) _).alloc _) fun _ _ h => h) (Blk.new _ _ _) (h.kept ((Keeps.refl _ _).alloc _)) rfl rfl
 have hb1 : (PL : Int) ≤ x.pc ∧ (x.pc : Int) ≤ 9223372036854775807 := by have := hE.cin.plen; unfold maxLen at this; omega
 have hb2 : (RL : Int) ≤ P.pc ∧ (P.pc : Int) ≤ 9223372036854775807 := by have := hPi.plen; unfold maxLen at this; omega
 rw [hPL] at hPlt
 rw [hRL] at hrlt
 clear hE hPi hpa hc0 hra hc1 hE1 hE2 hPL hRL hP hr
 unfold Cfg.laid at hW
 go_enter Tryz.func71, Tryz.ntmps71
 go_upto_region 1 with fail
 rw [← hW, ← hJ, ← hI, ← hC]
 clear hW hI hC hJ
 refine wp_region_held_drew (S := (fun w' => w'.cell? ⟨C, 5, none⟩ = some (.slice (some ⟨g0, o0, none⟩) PL x.pc) ∧ w'.cell? ⟨I, 0, none⟩ = some (.int .i64 (p : Int)) ∧ w'.cell? ⟨J, 0, none⟩ = some (.int .i64 (q : Int)) ∧ w'.cell? ⟨g0, o0 + p * 8 + 7, none⟩ = some (.slice (some ⟨g1, o1, none⟩) RL P.pc) ∧ w'.cell? ⟨g1, o1 + q * 2, none⟩ = some (.int .i64 t.ch) ∧ w'.cell? ⟨g1, o1 + q * 2 + 1, none⟩ = some (.bool t.src))) Tryz.mixd (HS.out _ (HO.out.1.kept ((Keeps.refl _ _).drew))) (fun hHeld => ?_)
 simp only [t1, t2, List.length_nil, Nat.reduceAdd, t4, Array.replicate_zero, t6, List.append_toArray, List.nil_append, t8]
 refine tk 0 (.pointer (some ⟨C, 5, none⟩)) hHeld ?_
 refine tk 1 (.slice (some ⟨g0, o0, none⟩) PL x.pc) hHeld ?_
 refine tk 2 (.int .i64 (p : Int)) hHeld ?_
 refine tk 3 (.pointer (some ⟨g0, o0 + p * 8, none⟩)) hHeld ?_
 refine tk 4 (.pointer (some ⟨g0, o0 + p * 8 + 7, none⟩)) hHeld ?_
 refine tk 5 (.slice (some ⟨g1, o1, none⟩) RL P.pc) hHeld ?_
 refine tk 6 (.int .i64 (q : Int)) hHeld ?_
 refine tk 7 (.pointer (some ⟨g1, o1 + q * 2, none⟩)) hHeld ?_
 refine tk 8 (.agg #[.int .i64 t.ch, .bool t.src]) hHeld ?_
 simp only [Act.put, s1, s2, s3]
 obtain ⟨w0, hw0⟩ : ∃ w0, w0 = W.drew := ⟨_, rfl⟩
 have hs0 : Env x N [(J, [.int .i64 (q : Int)], 3), (I, [.int .i64 (p : Int)], 3), (C, x.vs, 26)] w0 ∧ KF w w0 := by rw [hw0]; exact ⟨HO.out.1.kept ((Keeps.refl _ _).drew), HO.out.2.1.trans ((Keeps.refl (fun _ => False) _).drew) fun _ _ h => h⟩
 have hCI : C < w0.heap.size ∧ I < w0.heap.size ∧ J < w0.heap.size := ⟨(hs0.1.bl _ (.tail _ (.tail _ (.head _)))).lt, (hs0.1.bl _ (.tail _ (.head _))).lt, (hs0.1.bl _ (.head _)).lt⟩
 rw [← hw0]
 clear hw0
 refine rd 9 fun K hK => ?_
 go_simp
 obtain ⟨wb, hw⟩ : ∃ wb, wb = w0.alloc (.cells #[.int .i64 0, .bool false] 57) := ⟨_, rfl⟩
 obtain ⟨T, hT⟩ : ∃ T, T = w0.heap.size := ⟨_, rfl⟩
 have hb : Env x N ((T, [.int .i64 0, .bool false], 57) :: [(J, [.int .i64 (q : Int)], 3), (I, [.int .i64 (p : Int)], 3), (C, x.vs, 26)]) wb ∧ KF w wb := by rw [hw, hT]; exact ⟨hs0.1.box _ _, hs0.2.trans ((Keeps.refl (fun _ => False) _).alloc _) fun _ _ h => h⟩
 have hltT : w0.heap.size ≤ T ∧ w.heap.size ≤ T ∧ N ≤ T := ⟨by rw [hT]; exact Nat.le_refl _, by rw [hT]; exact hs0.2.size, by rw [hT]; exact hs0.1.nn⟩
 rw [← hw, ← hT]
 clear hw hT
 refine hK.out _ _ (HS.out _ (hb.1.sub fun b hb => List.mem_cons_of_mem _ hb)) (fun hHeld => ?_)
 simp only [Act.put, s1, s2, s3]
 refine rd 10 fun K hK => ?_
 refine wp_store_row 57 _ _ rfl T #[.int .i64 t.ch, .bool t.src] (by rfl) (by rfl) 57 _ (hb.1.bl _ (.head _)) Tryz.size57 rfl (all51 ..) ?_
 obtain ⟨wd, hwc⟩ : ∃ wc, wc = wb.setRow T #[.int .i64 t.ch, .bool t.src] := ⟨_, rfl⟩
 have hBc : Blk wd T [.int .i64 t.ch, .bool t.src] 57 := by rw [hwc]; exact (hb.1.bl _ (.head _)).setRow _
 have kc : Keeps (fun k => k = T) wb wd := by rw [hwc]; exact (Keeps.refl _ _).setRow _ _ fun _ => rfl
 have hc : Env x N ((T, [.int .i64 t.ch, .bool t.src], 57) :: [(J, [.int .i64 (q : Int)], 3), (I, [.int .i64 (p : Int)], 3), (C, x.vs, 26)]) wd := hb.1.put kc hBc hltT.2.2 fun b hb => by
  simp only [List.mem_cons, List.not_mem_nil, or_false] at hb
  rcases hb with rfl | rfl | rfl <;> dsimp only <;> omega
 have HD : Hid (Env x N ((T, [.int .i64 t.ch, .bool t.src], 57) :: [(J, [.int .i64 (q : Int)], 3), (I, [.int .i64 (p : Int)], 3), (C, x.vs, 26)]) wd ∧ KF w wd) := ⟨hc, hb.2.trans kc fun k hk e => by omega⟩
 rw [← hwc]
 clear hwc kc hBc
 refine hK.out _ _ (HS.out _ (hc.sub fun b hb => List.mem_cons_of_mem _ hb)) (fun hHeld => ?_)
 simp only [Act.put, s1, s2, s3]
 refine wpAnyH_done (by kernel_rfl) ?_ _
 clear hc hb hs0 hHeld hltT hCI hK
 go_wp2
 go_ret
 exact HF.out T wd HD.out.1 HD.out.2
end Go.Proofs.YtlnmlbkeemahcaaGreat
