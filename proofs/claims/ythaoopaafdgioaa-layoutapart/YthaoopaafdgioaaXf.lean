import Derived.Test.YthaoopaafdgioaaXe
namespace Go.Proofs.Ythaoopaafdgioaa
open Go.RowKit
set_option linter.unusedVariables false
set_option linter.unusedSimpArgs false
set_option maxRecDepth 8000

theorem FOK.len {x : Cfg} {a b : Int} {F : Nat → PP} {T : Nat → List Int} (h : FOK x a b x.ps.length F T) {j : Nat} (hj : j < x.ps.length) : ∃ P, x.ps[j]? = some P ∧ (T j).length = cntT P.rs 16 := by
  obtain ⟨P, h1, _, h3⟩ := (h j hj).2.2.2 hj
  exact ⟨P, h1, by rw [h3, tabL_length]⟩
theorem GOK.len {x : Cfg} {b : Int} {G : Nat → CP} {D : Nat → List Dst} (h : GOK x b x.hs.length G D) {j : Nat} (hj : j < x.hs.length) : (D j).length = (dstsOf x j).length := by
  obtain ⟨s, c, _, _, _, _, _, _, h7⟩ := h j hj
  rw [h7]; simp [placed]

set_option maxHeartbeats 8000000 in
theorem wanted_any (x : Cfg) (hm : x.mayB = true) (A En : Int) (b1 b2 L H : Nat) (F : Nat → PP) (G : Nat → CP) (T : Nat → List Int) (D : Nat → List Dst) (hL : L = x.ps.length) (hH : H = x.hs.length) (w : World) (N : Nat) (hi : x.In w N) (hN : N ≤ w.heap.size)
    (hd : Duo w L H b1 b2 F G T D) (hF : FOK x (16 * x.kernel + 2) (rtB x (16 * x.kernel)) x.ps.length F T) (hG : GOK x (chB x (16 * x.kernel)) x.hs.length G D) :
    Calls Try.prog 21 #[x.v, .agg #[.int .i64 A, .slice (some ⟨b1, 0, none⟩) L L, .slice (some ⟨b2, 0, none⟩) H H, .int .i64 En]] w fun e w' => e = .returned (.tuple #[.agg #[.int .i64 0, .int .i64 0, .int .i64 (wantK x 2), .int .i64 (wantK x 3), .int .i64 (wantK x 4), .int .i64 (wantK x 5), .int .i64 (wantK x 6), .int .i64 (wantK x 7), .int .i64 (wantK x 8), .int .i64 (wantK x 9)], .bool true]) ∧ Keeps (fun _ => False) w w' := by
  have kk := Cfg.mayB_iff.1 hm
  obtain ⟨W, hW⟩ : ∃ W, W = (((x.laid w).alloc (.cells #[.int .i64 A, .slice (some ⟨b1, 0, none⟩) L L, .slice (some ⟨b2, 0, none⟩) H H, .int .i64 En] 30)).alloc (.cells #[.int .i64 0, .int .i64 0, .int .i64 0, .int .i64 0, .int .i64 0, .int .i64 0, .int .i64 0, .int .i64 0, .int .i64 0, .int .i64 0] 49)).alloc (.cells #[.int .i64 0, .int .i64 0, .int .i64 0, .int .i64 0, .int .i64 0, .int .i64 0, .int .i64 0, .int .i64 0, .int .i64 0, .int .i64 0] 49) := ⟨_, rfl⟩
  obtain ⟨C, hC⟩ : ∃ C, C = w.heap.size := ⟨_, rfl⟩
  obtain ⟨B, hBd⟩ : ∃ B, B = C + 1 := ⟨_, rfl⟩
  obtain ⟨R, hRd⟩ : ∃ R, R = B + 1 := ⟨_, rfl⟩
  obtain ⟨E, hEd⟩ : ∃ E, E = R + 1 := ⟨_, rfl⟩
  have HO : Hid (One w x C N W ∧ Blk W B [.int .i64 A, .slice (some ⟨b1, 0, none⟩) L L, .slice (some ⟨b2, 0, none⟩) H H, .int .i64 En] 30 ∧ Blk W R [.int .i64 0, .int .i64 0, .int .i64 0, .int .i64 0, .int .i64 0, .int .i64 0, .int .i64 0, .int .i64 0, .int .i64 0, .int .i64 0] 49 ∧ Blk W E [.int .i64 0, .int .i64 0, .int .i64 0, .int .i64 0, .int .i64 0, .int .i64 0, .int .i64 0, .int .i64 0, .int .i64 0, .int .i64 0] 49 ∧ Duo w L H b1 b2 F G T D ∧ b1 < C ∧ b2 < C ∧ B = C + 1 ∧ R = C + 2 ∧ E = C + 3) := by
    rw [hW, hEd, hRd, hBd, hC]
    refine ⟨(((One.mk' hi hN).kept ((Keeps.refl _ _).alloc _)).kept ((Keeps.refl _ _).alloc _)).kept ((Keeps.refl _ _).alloc _), ?_, ?_, ?_, hd, hd.p.lt, hd.c.lt, rfl, rfl, rfl⟩
    · have := ((Blk.new (x.laid w) #[.int .i64 A, .slice (some ⟨b1, 0, none⟩) L L, .slice (some ⟨b2, 0, none⟩) H H, .int .i64 En] 30).alloc (.cells #[.int .i64 0, .int .i64 0, .int .i64 0, .int .i64 0, .int .i64 0, .int .i64 0, .int .i64 0, .int .i64 0, .int .i64 0, .int .i64 0] 49)).alloc (.cells #[.int .i64 0, .int .i64 0, .int .i64 0, .int .i64 0, .int .i64 0, .int .i64 0, .int .i64 0, .int .i64 0, .int .i64 0, .int .i64 0] 49)
      simpa [Cfg.laid] using this
    · have := (Blk.new ((x.laid w).alloc (.cells #[.int .i64 A, .slice (some ⟨b1, 0, none⟩) L L, .slice (some ⟨b2, 0, none⟩) H H, .int .i64 En] 30)) #[.int .i64 0, .int .i64 0, .int .i64 0, .int .i64 0, .int .i64 0, .int .i64 0, .int .i64 0, .int .i64 0, .int .i64 0, .int .i64 0] 49).alloc (.cells #[.int .i64 0, .int .i64 0, .int .i64 0, .int .i64 0, .int .i64 0, .int .i64 0, .int .i64 0, .int .i64 0, .int .i64 0, .int .i64 0] 49)
      simpa [Cfg.laid] using this
    · have := Blk.new (((x.laid w).alloc (.cells #[.int .i64 A, .slice (some ⟨b1, 0, none⟩) L L, .slice (some ⟨b2, 0, none⟩) H H, .int .i64 En] 30)).alloc (.cells #[.int .i64 0, .int .i64 0, .int .i64 0, .int .i64 0, .int .i64 0, .int .i64 0, .int .i64 0, .int .i64 0, .int .i64 0, .int .i64 0] 49)) #[.int .i64 0, .int .i64 0, .int .i64 0, .int .i64 0, .int .i64 0, .int .i64 0, .int .i64 0, .int .i64 0, .int .i64 0, .int .i64 0] 49
      simpa [Cfg.laid] using this
  have HT : Hid (∀ j, j < L → ∃ ad cp, (F j).tv = .slice ad (T j).length cp ∧ (T j).length ≤ 16 ∧ rtAt x 0 (j + 1) = rtAt x 0 j + 16 * (1 + ((T j).length : Int)) ∧ (T j).length ≤ cp ∧ cp ≤ maxLen) := fun j hj => by
    obtain ⟨ad, cp, e1, e2⟩ := (hd.tr j hj).lst
    obtain ⟨P, e3, e4⟩ := hF.len (hL ▸ hj)
    have := cntT_le P.rs 16
    exact ⟨ad, cp, e1, by omega, by rw [rtAt_succ e3, e4]; omega, e2.len⟩
  have HD : Hid (∀ j, j < H → ∃ h ad cp, x.hs[j]? = some h ∧ (G j).dv = .slice ad (D j).length cp ∧ (D j).length = (dstsOf x j).length ∧ (D j).length ≤ cp ∧ cp ≤ maxLen) := fun j hj => by
    obtain ⟨ad, cp, e1, e2⟩ := (hd.dr j hj).lst
    obtain ⟨h, hh⟩ : ∃ h, x.hs[j]? = some h := ⟨_, List.getElem?_eq_getElem (by omega)⟩
    exact ⟨h, ad, cp, hh, e1, hG.len (hH ▸ hj), e2.len⟩
  have HLH : Hid (L = x.ps.length ∧ H = x.hs.length ∧ L ≤ 8 ∧ H ≤ 16) := ⟨hL, hH, by omega, by omega⟩
  have HM : Hid (x.mayB = true) := hm
  have HR : Hid (wantK x 2 = 2 ∧ wantK x 3 = 2 * L ∧ wantK x 4 = 17 * L ∧ wantK x 5 = 5 * L ∧ wantK x 6 = 2 * H ∧ wantK x 7 = stS x H ∧ wantK x 8 = ptS x H ∧ wantK x 9 = rtAt x 0 L) := by
    rw [hL, hH]; unfold wantK; exact ⟨rfl, rfl, rfl, rfl, rfl, rfl, rfl, rfl⟩
  have hhc : (H : Int) ≤ x.hc ∧ (x.hc : Int) ≤ 9223372036854775807 := by have := hi.hlen; unfold maxLen at this; omega
  have hLz : (L : Int) ≤ 8 := by omega
  have hHz : (H : Int) ≤ 16 := by omega
  clear hi hN hd hF hG hL hH kk hm
  unfold Cfg.laid at hW
  go_enter Try.func21, Try.ntmps21
  go_upto_region 2 with fail
  rw [← hW, ← hC, ← hBd, ← hRd, ← hEd]
  clear hW hC hBd hRd hEd
  obtain ⟨q0, q1, q2, q3, q4, q5, q6⟩ := HO.out.1.cells
  rw [← HLH.out.1] at q5
  rw [← HLH.out.2.1] at q6
  have hB := HO.out.2.1
  have hBE := HO.out.2.2.2.1
  have l1 := hB.cell (i := 1) rfl
  have l2 := hB.cell (i := 2) rfl
  have f2 := hBE.frozen 2
  have z2 := hBE.cell (i := 2) rfl
  have HE2 : Hid (Keeps (fun k => k = E) W (W.setCell ⟨E, 2, none⟩ (.int .i64 2)) ∧ Blk (W.setCell ⟨E, 2, none⟩ (.int .i64 2)) E [.int .i64 (0), .int .i64 (0), .int .i64 (2), .int .i64 (2 * ((0 : Nat) : Int)), .int .i64 (17 * ((0 : Nat) : Int)), .int .i64 (5 * ((0 : Nat) : Int)), .int .i64 (0), .int .i64 (0), .int .i64 (0), .int .i64 (rtAt x 0 0)] 49) := by
    refine ⟨(Keeps.refl _ _).setCell _ _ fun _ => rfl, ?_⟩
    have := hBE.setCell 2 (.int .i64 2)
    simpa [rtAt] using this
  clear hB hBE
  obtain ⟨W1, hW1⟩ : ∃ W1, W1 = W.setCell ⟨E, 2, none⟩ (.int .i64 2) := ⟨_, rfl⟩
  rw [← hW1] at HE2
  go_upto_region 5 with fail
  rw [← hW1]
  clear hW1 q0 q1 q2 q3 q4 q5 q6 l1 l2 f2 z2
  have HCL : Hid (∀ w', Keeps (fun k => k = E) W w' → One w x C N w' ∧ Blk w' B [.int .i64 A, .slice (some ⟨b1, 0, none⟩) L L, .slice (some ⟨b2, 0, none⟩) H H, .int .i64 En] 30 ∧ Blk w' R [.int .i64 0, .int .i64 0, .int .i64 0, .int .i64 0, .int .i64 0, .int .i64 0, .int .i64 0, .int .i64 0, .int .i64 0, .int .i64 0] 49 ∧ Duo w' L H b1 b2 F G T D) := fun w' hK => by
    obtain ⟨h1, h2, h3, h4, h5, h6, h7, h8, h9, h10⟩ := HO.out
    have hcw := h1.lo
    have h1' := h1.kept' hK (by omega) (fun k e => by have := h1.n; omega) (fun k e => by omega)
    exact ⟨h1', h2.kept hK (by omega), h3.kept hK (by omega), h5.grow h1'.keeps⟩
  have l1 := (HCL.out W1 HE2.out.1).2.1.cell (i := 1) rfl
  go_wp2
  clear l1
  go_loopw [33] (fun i wr => ∃ j : Nat, j ≤ L ∧ i = .int .i64 j ∧ Keeps (fun k => k = E) W wr ∧ Blk wr E [.int .i64 (0), .int .i64 (0), .int .i64 (2), .int .i64 (2 * (j : Int)), .int .i64 (17 * (j : Int)), .int .i64 (5 * (j : Int)), .int .i64 (0), .int .i64 (0), .int .i64 (0), .int .i64 (rtAt x 0 j)] 49) (fun i _ => L - (intOf i).toNat)
  case atStart => exact ⟨0, by omega, rfl, HE2.out⟩
  case round =>
    obtain ⟨j, hj, rfl, hK, hB⟩ := hrel
    by_cases hlt : j < L
    · obtain ⟨ad, cp, e1, e2, e3, e4⟩ := HT.out j hlt
      obtain ⟨t, ht⟩ : ∃ t, (T j).length = t := ⟨_, rfl⟩
      rw [ht] at e1 e2 e3 e4
      unfold maxLen at e4
      obtain ⟨_, hBL, _, hDu⟩ := HCL.out wr hK
      have l1 := hBL.cell (i := 1) rfl
      have r4 := hDu.pc hlt (k := 4) (by omega) (show (F j).vs[4]? = some (.slice ad t cp) by rw [← e1]; rfl)
      have n3 := hB.cell (i := 3) rfl
      have n4 := hB.cell (i := 4) rfl
      have n5 := hB.cell (i := 5) rfl
      have n9 := hB.cell (i := 9) rfl
      have g3 := hB.frozen 3
      have g4 := hB.frozen 4
      have g5 := hB.frozen 5
      have g9 := hB.frozen 9
      have hlt' : (j : Int) < L := by omega
      have hj8 : (j : Int) < 8 := by omega
      obtain ⟨m3, hm3⟩ : ∃ m, m = 2 * ((j + 1 : Nat) : Int) := ⟨_, rfl⟩
      have w3 : IntKind.i64.wrap (2 * (j : Int) + 2) = m3 := by rw [IntKind.wrap_i64]; omega
      obtain ⟨m4, hm4⟩ : ∃ m, m = 17 * ((j + 1 : Nat) : Int) := ⟨_, rfl⟩
      have w4 : IntKind.i64.wrap (17 * (j : Int) + 17) = m4 := by rw [IntKind.wrap_i64]; omega
      obtain ⟨m5, hm5⟩ : ∃ m, m = 5 * ((j + 1 : Nat) : Int) := ⟨_, rfl⟩
      have w5 : IntKind.i64.wrap (5 * (j : Int) + 5) = m5 := by rw [IntKind.wrap_i64]; omega
      have hbe : b1 ≠ E := by have := HO.out; omega
      have hBE' : B ≠ E := by have := HO.out; omega
      obtain ⟨W3, hW3⟩ : ∃ W3, W3 = ((wr.setCell ⟨E, 3, none⟩ (.int .i64 m3)).setCell ⟨E, 4, none⟩ (.int .i64 m4)).setCell ⟨E, 5, none⟩ (.int .i64 m5) := ⟨_, rfl⟩
      have HMM : Hid (m3 = 2 * ((j + 1 : Nat) : Int) ∧ m4 = 17 * ((j + 1 : Nat) : Int) ∧ m5 = 5 * ((j + 1 : Nat) : Int)) := ⟨hm3, hm4, hm5⟩
      clear hm3 hm4 hm5
      have H3 : Hid (Keeps (fun k => k = E) W W3 ∧ Blk W3 E [.int .i64 0, .int .i64 0, .int .i64 2, .int .i64 m3, .int .i64 m4, .int .i64 m5, .int .i64 0, .int .i64 0, .int .i64 0, .int .i64 (rtAt x 0 j)] 49) := by
        rw [hW3]
        refine ⟨((hK.setCell ⟨E, 3, none⟩ _ fun _ => rfl).setCell ⟨E, 4, none⟩ _ fun _ => rfl).setCell ⟨E, 5, none⟩ _ fun _ => rfl, ?_⟩
        exact ((hB.setCell 3 _).setCell 4 _).setCell 5 _
      clear hBL hDu
      go_wp2
      rw [← hW3]
      clear hW3 l1 r4 n3 n4 n5 n9 g3 g4 g5 g9 w3 w4 w5 hK hB
      obtain ⟨_, hBL, _, hDu⟩ := HCL.out W3 H3.out.1
      have l1 := hBL.cell (i := 1) rfl
      have r4 := hDu.pc hlt (k := 4) (by omega) (show (F j).vs[4]? = some (.slice ad t cp) by rw [← e1]; rfl)
      have n9 := H3.out.2.cell (i := 9) rfl
      have g9 := H3.out.2.frozen 9
      have hrb := rtAt_bd x 0 j
      obtain ⟨rj, hrj⟩ : ∃ v, rtAt x 0 j = v := ⟨_, rfl⟩
      obtain ⟨rk, hrk⟩ : ∃ v, rtAt x 0 (j + 1) = v := ⟨_, rfl⟩
      rw [hrj] at n9 hrb e3
      rw [hrk] at e3
      have w1 : IntKind.i64.wrap (1 + (t : Int)) = 1 + t := by rw [IntKind.wrap_i64]; omega
      have w2 : IntKind.i64.wrap (16 * (1 + (t : Int))) = 16 * (1 + t) := by rw [IntKind.wrap_i64]; omega
      have w3 : IntKind.i64.wrap (rj + 16 * (1 + (t : Int))) = rk := by rw [IntKind.wrap_i64, e3]; omega
      have HJ : Hid (j < L ∧ rtAt x 0 (j + 1) = rk) := ⟨hlt, hrk⟩
      clear hBL hDu e1 e3 hrb hrj hrk hj hlt
      have HN : Hid (Keeps (fun k => k = E) W ((W3.drewN 1).setCell ⟨E, 9, none⟩ (.int .i64 rk)) ∧ Blk ((W3.drewN 1).setCell ⟨E, 9, none⟩ (.int .i64 rk)) E [.int .i64 0, .int .i64 0, .int .i64 2, .int .i64 (2 * ((j + 1 : Nat) : Int)), .int .i64 (17 * ((j + 1 : Nat) : Int)), .int .i64 (5 * ((j + 1 : Nat) : Int)), .int .i64 0, .int .i64 0, .int .i64 0, .int .i64 (rtAt x 0 (j + 1))] 49) := by
        refine ⟨(H3.out.1.drewN 1).setCell ⟨E, 9, none⟩ _ fun _ => rfl, ?_⟩
        have := (H3.out.2.kept ((Keeps.refl (fun _ => False) W3).drewN 1) fun e => e).setCell 9 (.int .i64 rk)
        rw [HJ.out.2, ← HMM.out.1, ← HMM.out.2.1, ← HMM.out.2.2]
        exact this
      clear H3 HMM
      refine region_tail 13 (by kernel_rfl) ?_
      simp only [List.take_succ_cons, List.take_zero, List.drop_succ_cons, List.drop_zero]
      repeat still_step
      refine wpStill_nil ?_
      go_wp2_with fail
      exact ⟨⟨j + 1, by have := HJ.out; omega, by go_num, HN.out.1, HN.out.2⟩, by have := HJ.out; simp [intOf]; omega⟩
    · obtain rfl : L = j := by omega
      obtain ⟨K3, hK3⟩ : ∃ v, 2 * (L : Int) = v := ⟨_, rfl⟩
      obtain ⟨K4, hK4⟩ : ∃ v, 17 * (L : Int) = v := ⟨_, rfl⟩
      obtain ⟨K5, hK5⟩ : ∃ v, 5 * (L : Int) = v := ⟨_, rfl⟩
      obtain ⟨K9, hK9⟩ : ∃ v, rtAt x 0 L = v := ⟨_, rfl⟩
      rw [hK3, hK4, hK5, hK9] at hB
      have HKK : Hid (2 * (L : Int) = K3 ∧ 17 * (L : Int) = K4 ∧ 5 * (L : Int) = K5 ∧ rtAt x 0 L = K9) := ⟨hK3, hK4, hK5, hK9⟩
      obtain ⟨WL, hWL⟩ : ∃ WL, WL = wr := ⟨_, rfl⟩
      subst hWL
      have HB : Hid (Keeps (fun k => k = E) W WL ∧ Blk WL E [.int .i64 0, .int .i64 0, .int .i64 2, .int .i64 K3, .int .i64 K4, .int .i64 K5, .int .i64 (2 * (0 : Int)), .int .i64 (stS x 0), .int .i64 (ptS x 0), .int .i64 K9] 49) := ⟨hK, hB⟩
      have l2 := (HCL.out WL hK).2.1.cell (i := 2) rfl
      clear hK hB hK3 hK4 hK5 hK9 hj hlt
      go_wp2
      clear l2
      go_loopw [65] (fun i wr => ∃ k : Nat, k ≤ H ∧ i = .int .i64 k ∧ Keeps (fun k => k = E) W wr ∧ Blk wr E [.int .i64 0, .int .i64 0, .int .i64 2, .int .i64 K3, .int .i64 K4, .int .i64 K5, .int .i64 (2 * (k : Int)), .int .i64 (stS x k), .int .i64 (ptS x k), .int .i64 K9] 49) (fun i _ => H - (intOf i).toNat)
      case atStart => exact ⟨0, by omega, rfl, HB.out⟩
      case round =>
        obtain ⟨k, hk, rfl, hK, hB⟩ := hrel
        by_cases hlt : k < H
        · obtain ⟨h, ad, cp, hh, e1, e2, e4⟩ := HD.out k hlt
          obtain ⟨hsz, s1, s2, p1, p2, d1, d4⟩ := chn_bd HM.out hh
          obtain ⟨dl, hdl⟩ : ∃ t, (D k).length = t := ⟨_, rfl⟩
          rw [hdl] at e1 e2 e4
          rw [← e2] at d1 d4
          unfold maxLen at e4
          have hS1 : stS x (k + 1) = stS x k + h.stg := by show stS x k + _ = _; rw [hh]
          have hP1 : ptS x (k + 1) = ptS x k + (dl : Int) * h.prt := by show ptS x k + _ = _; rw [hh, e2]
          have hsb := stS_bd HM.out k
          have hpb := ptS_bd HM.out k
          have hm4 := mul4 d1 d4 ⟨p1, p2⟩
          have HSG : Hid (∀ w, Calls Try.prog 16 #[h.v] w fun e w' => e = .returned (.int .i64 h.stg) ∧ Keeps (fun _ => False) w w') := fun w => by rw [← Chn.stgO_yes hsz]; exact Stage_any h w
          have HPT : Hid (∀ w, Calls Try.prog 17 #[h.v] w fun e w' => e = .returned (.int .i64 h.prt) ∧ Keeps (fun _ => False) w w') := fun w => by rw [← Chn.prtO_yes hsz]; exact Port_any h w
          obtain ⟨st, hst⟩ : ∃ st, h.stg = st := ⟨_, rfl⟩
          obtain ⟨pt, hpt⟩ : ∃ pt, h.prt = pt := ⟨_, rfl⟩
          rw [hst] at hS1 HSG s1 s2
          rw [hpt] at hP1 HPT p1 p2 hm4
          obtain ⟨hO, _⟩ := HCL.out wr hK
          obtain ⟨hg, ho, ha, hgo⟩ := hO.cin.hseg.at hh
          have c6 : wr.cell? ⟨C, 6, none⟩ = some (.slice (some ⟨hg, ho, none⟩) H x.hc) := by have := hO.cfg.cell (i := 6) rfl; rw [← ha, HLH.out.2.1]; exact this
          have v0 := hgo 0 _ rfl
          rw [Nat.add_zero] at v0
          have v1 := hgo 1 _ rfl
          have v2 := hgo 2 _ rfl
          obtain ⟨W3, hW3⟩ : ∃ W3, W3 = wr.alloc (.cells #[.int .i64 h.kind, .int .i64 h.words, .int .i64 h.depth] 45) := ⟨_, rfl⟩
          obtain ⟨Q, hQ⟩ : ∃ Q, Q = wr.heap.size := ⟨_, rfl⟩
          have H3 : Hid (Keeps (fun k => k = E) W W3 ∧ Blk W3 E [.int .i64 0, .int .i64 0, .int .i64 2, .int .i64 K3, .int .i64 K4, .int .i64 K5, .int .i64 (2 * (k : Int)), .int .i64 (stS x k), .int .i64 (ptS x k), .int .i64 K9] 49 ∧ Blk W3 Q [.int .i64 h.kind, .int .i64 h.words, .int .i64 h.depth] 45) := by
            rw [hW3, hQ]; exact ⟨hK.alloc _, hB.alloc _, Blk.new _ _ _⟩
          have HJ : Hid (k < H ∧ stS x (k + 1) = stS x k + st ∧ ptS x (k + 1) = ptS x k + (dl : Int) * pt ∧ (G k).dv = .slice ad dl cp ∧ 0 ≤ stS x k ∧ stS x k ≤ 137 * k ∧ 0 ≤ ptS x k ∧ ptS x k ≤ 556 * k ∧ 4 ≤ (dl : Int) * pt ∧ (dl : Int) * pt ≤ 556 ∧ 3 ≤ st ∧ st ≤ 137 ∧ 4 ≤ pt ∧ pt ≤ 139) := ⟨hlt, hS1, hP1, e1, hsb.1, hsb.2, hpb.1, hpb.2, hm4.1, hm4.2, s1, s2, p1, p2⟩
          have hlt' : (k : Int) < H := by omega
          clear hO hgo ha hK hB hsz hh e1 e2 hdl hS1 hP1 hsb hpb hm4 hst hpt hk hlt s1 s2 p1 p2
          go_upto_region 17 with fail
          rw [← hW3, ← hQ]
          clear hW3 hQ c6 v0 v1 v2
          have d0 := H3.out.2.2.cell (i := 0) rfl
          have d1' := H3.out.2.2.cell (i := 1) rfl
          have d2 := H3.out.2.2.cell (i := 2) rfl
          have HX : Hid (Calls _ _ _ _ _) := HSG.out W3
          go_wp2_with fail
          refine HX.out.mono ?_
          rintro e w4 ⟨rfl, hK4⟩
          have H4 : Hid (Keeps (fun k => k = E) W w4 ∧ Blk w4 E [.int .i64 0, .int .i64 0, .int .i64 2, .int .i64 K3, .int .i64 K4, .int .i64 K5, .int .i64 (2 * (k : Int)), .int .i64 (stS x k), .int .i64 (ptS x k), .int .i64 K9] 49 ∧ Blk w4 Q [.int .i64 h.kind, .int .i64 h.words, .int .i64 h.depth] 45) :=
            ⟨H3.out.1.trans (hK4.mono fun _ _ e => e.elim) fun _ _ e => e, H3.out.2.1.kept hK4 fun e => e, H3.out.2.2.kept hK4 fun e => e⟩
          clear hK4 HX d0 d1' d2 H3
          have d0 := H4.out.2.2.cell (i := 0) rfl
          have d1' := H4.out.2.2.cell (i := 1) rfl
          have d2 := H4.out.2.2.cell (i := 2) rfl
          have HX : Hid (Calls _ _ _ _ _) := HPT.out w4
          go_wp2_with fail
          refine HX.out.mono ?_
          rintro e w5 ⟨rfl, hK5⟩
          have hK6 : Keeps (fun k => k = E) W w5 := H4.out.1.trans (hK5.mono fun _ _ e => e.elim) fun _ _ e => e
          have hB := H4.out.2.1.kept hK5 fun e => e
          clear hK5 HX d0 d1' d2 H4
          obtain ⟨_, hBL, _, hDu⟩ := HCL.out w5 hK6
          have l2 := hBL.cell (i := 2) rfl
          have r4 := hDu.cc HJ.out.1 (k := 4) (by omega) (show (G k).vs[4]? = some (.slice ad dl cp) by rw [← HJ.out.2.2.2.1]; rfl)
          have n6 := hB.cell (i := 6) rfl
          have n7 := hB.cell (i := 7) rfl
          have g6 := hB.frozen 6
          have g7 := hB.frozen 7
          obtain ⟨m6, hm6⟩ : ∃ m, m = 2 * ((k + 1 : Nat) : Int) := ⟨_, rfl⟩
          obtain ⟨m7, hm7⟩ : ∃ m, m = stS x (k + 1) := ⟨_, rfl⟩
          have w6 : IntKind.i64.wrap (2 * (k : Int) + 2) = m6 := by rw [IntKind.wrap_i64]; omega
          have w7 : IntKind.i64.wrap (stS x k + st) = m7 := by rw [IntKind.wrap_i64, hm7]; have := HJ.out; omega
          have hst2 : ¬ st < 2 := by have := HJ.out; omega
          have hpt3 : ¬ pt < 3 := by have := HJ.out; omega
          have hdl1 : ¬ (dl : Int) < 1 := by omega
          have hbe : b2 ≠ E := by have := HO.out; omega
          have hBE' : B ≠ E := by have := HO.out; omega
          obtain ⟨W6, hW6⟩ : ∃ W6, W6 = (w5.setCell ⟨E, 6, none⟩ (.int .i64 m6)).setCell ⟨E, 7, none⟩ (.int .i64 m7) := ⟨_, rfl⟩
          have HMM : Hid (m6 = 2 * ((k + 1 : Nat) : Int) ∧ m7 = stS x (k + 1)) := ⟨hm6, hm7⟩
          have H6 : Hid (Keeps (fun k => k = E) W W6 ∧ Blk W6 E [.int .i64 0, .int .i64 0, .int .i64 2, .int .i64 K3, .int .i64 K4, .int .i64 K5, .int .i64 m6, .int .i64 m7, .int .i64 (ptS x k), .int .i64 K9] 49) := by
            rw [hW6]
            exact ⟨(hK6.setCell ⟨E, 6, none⟩ _ fun _ => rfl).setCell ⟨E, 7, none⟩ _ fun _ => rfl, (hB.setCell 6 _).setCell 7 _⟩
          clear hBL hDu hm6 hm7 hK6 hB
          go_wp2
          rw [← hW6]
          clear hW6 l2 r4 n6 n7 g6 g7 w6 w7
          obtain ⟨_, hBL, _, hDu⟩ := HCL.out W6 H6.out.1
          have l2 := hBL.cell (i := 2) rfl
          have r4 := hDu.cc HJ.out.1 (k := 4) (by omega) (show (G k).vs[4]? = some (.slice ad dl cp) by rw [← HJ.out.2.2.2.1]; rfl)
          have n8 := H6.out.2.cell (i := 8) rfl
          have g8 := H6.out.2.frozen 8
          obtain ⟨mp, hmp⟩ : ∃ v, (dl : Int) * pt = v := ⟨_, rfl⟩
          obtain ⟨rj, hrj⟩ : ∃ v, ptS x k = v := ⟨_, rfl⟩
          obtain ⟨rk, hrk⟩ : ∃ v, ptS x (k + 1) = v := ⟨_, rfl⟩
          have w1 : IntKind.i64.wrap (pt * (dl : Int)) = mp := by rw [IntKind.wrap_i64, Int.mul_comm, hmp]; have := HJ.out; rw [hmp] at this; omega
          have w3 : IntKind.i64.wrap (rj + mp) = rk := by rw [IntKind.wrap_i64, ← hrk, ← hrj, HJ.out.2.2.1, hmp]; have := HJ.out; rw [hmp] at this; omega
          rw [hrj] at n8
          have HN : Hid (Keeps (fun k => k = E) W ((W6.drewN 1).setCell ⟨E, 8, none⟩ (.int .i64 rk)) ∧ Blk ((W6.drewN 1).setCell ⟨E, 8, none⟩ (.int .i64 rk)) E [.int .i64 0, .int .i64 0, .int .i64 2, .int .i64 K3, .int .i64 K4, .int .i64 K5, .int .i64 (2 * ((k + 1 : Nat) : Int)), .int .i64 (stS x (k + 1)), .int .i64 (ptS x (k + 1)), .int .i64 K9] 49) := by
            refine ⟨(H6.out.1.drewN 1).setCell ⟨E, 8, none⟩ _ fun _ => rfl, ?_⟩
            have := (H6.out.2.kept ((Keeps.refl (fun _ => False) W6).drewN 1) fun e => e).setCell 8 (.int .i64 rk)
            rw [hrk, ← HMM.out.1, ← HMM.out.2]
            exact this
          clear H6 HMM hBL hDu hmp hrj hrk
          refine region_tail 13 (by kernel_rfl) ?_
          simp only [List.take_succ_cons, List.take_zero, List.drop_succ_cons, List.drop_zero]
          repeat still_step
          refine wpStill_nil ?_
          go_wp2_with fail
          exact ⟨⟨k + 1, by have := HJ.out.1; omega, by go_num, HN.out.1, HN.out.2⟩, by have := HJ.out.1; simp [intOf]; omega⟩
        · obtain rfl : H = k := by omega
          obtain ⟨K6, hK6⟩ : ∃ v, 2 * (H : Int) = v := ⟨_, rfl⟩
          obtain ⟨K7, hK7⟩ : ∃ v, stS x H = v := ⟨_, rfl⟩
          obtain ⟨K8, hK8⟩ : ∃ v, ptS x H = v := ⟨_, rfl⟩
          rw [hK6, hK7, hK8] at hB
          have HK2 : Hid (2 * (H : Int) = K6 ∧ stS x H = K7 ∧ ptS x H = K8) := ⟨hK6, hK7, hK8⟩
          have hR := (HCL.out wr hK).2.2.1
          have n0 := hB.cell (i := 0) rfl
          have r0 := hR.cell (i := 0) rfl
          have g0 := hR.frozen 0
          have n1 := hB.cell (i := 1) rfl
          have r1 := hR.cell (i := 1) rfl
          have g1 := hR.frozen 1
          have n2 := hB.cell (i := 2) rfl
          have r2 := hR.cell (i := 2) rfl
          have g2 := hR.frozen 2
          have n3 := hB.cell (i := 3) rfl
          have r3 := hR.cell (i := 3) rfl
          have g3 := hR.frozen 3
          have n4 := hB.cell (i := 4) rfl
          have r4 := hR.cell (i := 4) rfl
          have g4 := hR.frozen 4
          have n5 := hB.cell (i := 5) rfl
          have r5 := hR.cell (i := 5) rfl
          have g5 := hR.frozen 5
          have n6 := hB.cell (i := 6) rfl
          have r6 := hR.cell (i := 6) rfl
          have g6 := hR.frozen 6
          have n7 := hB.cell (i := 7) rfl
          have r7 := hR.cell (i := 7) rfl
          have g7 := hR.frozen 7
          have n8 := hB.cell (i := 8) rfl
          have r8 := hR.cell (i := 8) rfl
          have g8 := hR.frozen 8
          have n9 := hB.cell (i := 9) rfl
          have r9 := hR.cell (i := 9) rfl
          have g9 := hR.frozen 9
          have hER : E ≠ R := by have := HO.out; omega
          have HF : Hid (Keeps (fun k => k = E) W wr) := hK
          have hKx : Keeps (fun k => k = E ∨ k = R) W wr := hK.mono fun _ _ e => .inl e
          obtain ⟨W9, hW9⟩ : ∃ W9, W9 = ((((((((((wr.setCell ⟨R, 0, none⟩ (.int .i64 0)).setCell ⟨R, 1, none⟩ (.int .i64 0)).setCell ⟨R, 2, none⟩ (.int .i64 2)).setCell ⟨R, 3, none⟩ (.int .i64 K3)).setCell ⟨R, 4, none⟩ (.int .i64 K4)).setCell ⟨R, 5, none⟩ (.int .i64 K5)).setCell ⟨R, 6, none⟩ (.int .i64 K6)).setCell ⟨R, 7, none⟩ (.int .i64 K7)).setCell ⟨R, 8, none⟩ (.int .i64 K8)).setCell ⟨R, 9, none⟩ (.int .i64 K9)) := ⟨_, rfl⟩
          have H9 : Hid (Keeps (fun _ => False) w W9 ∧ Blk W9 R [.int .i64 0, .int .i64 0, .int .i64 2, .int .i64 K3, .int .i64 K4, .int .i64 K5, .int .i64 K6, .int .i64 K7, .int .i64 K8, .int .i64 K9] 49) := by
            rw [hW9]
            refine ⟨HO.out.1.keeps.trans ((((((((((hKx.setCell ⟨R, 0, none⟩ _ fun _ => .inr rfl).setCell ⟨R, 1, none⟩ _ fun _ => .inr rfl).setCell ⟨R, 2, none⟩ _ fun _ => .inr rfl).setCell ⟨R, 3, none⟩ _ fun _ => .inr rfl).setCell ⟨R, 4, none⟩ _ fun _ => .inr rfl).setCell ⟨R, 5, none⟩ _ fun _ => .inr rfl).setCell ⟨R, 6, none⟩ _ fun _ => .inr rfl).setCell ⟨R, 7, none⟩ _ fun _ => .inr rfl).setCell ⟨R, 8, none⟩ _ fun _ => .inr rfl).setCell ⟨R, 9, none⟩ _ fun _ => .inr rfl) fun k hk e => ?_, ((((((((((hR.setCell 0 _).setCell 1 _).setCell 2 _).setCell 3 _).setCell 4 _).setCell 5 _).setCell 6 _).setCell 7 _).setCell 8 _).setCell 9 _)⟩
            have h1 := HO.out
            have h2 := h1.1.lo
            omega
          clear hR hB hK hK6 hK7 hK8 hk hlt hKx
          go_wp2
          rw [← hW9]
          clear hW9 n0 r0 g0 n1 r1 g1 n2 r2 g2 n3 r3 g3 n4 r4 g4 n5 r5 g5 n6 r6 g6 n7 r7 g7 n8 r8 g8 n9 r9 g9
          have y0 := H9.out.2.cell (i := 0) rfl
          have y1 := H9.out.2.cell (i := 1) rfl
          have y2 := H9.out.2.cell (i := 2) rfl
          have y3 := H9.out.2.cell (i := 3) rfl
          have y4 := H9.out.2.cell (i := 4) rfl
          have y5 := H9.out.2.cell (i := 5) rfl
          have y6 := H9.out.2.cell (i := 6) rfl
          have y7 := H9.out.2.cell (i := 7) rfl
          have y8 := H9.out.2.cell (i := 8) rfl
          have y9 := H9.out.2.cell (i := 9) rfl
          (try simp only [Exit.inBlock, Exit.then])
          refine bodyPost_ret (by simp [results, Try.results21, go_sem, y0, y1, y2, y3, y4, y5, y6, y7, y8, y9]; try rfl) rfl ?_
          refine ⟨?_, H9.out.1⟩
          obtain ⟨k2, k3, k4, k5, k6, k7, k8, k9⟩ := HR.out
          obtain ⟨j3, j4, j5, j9⟩ := HKK.out
          obtain ⟨j6, j7, j8⟩ := HK2.out
          rw [k2, k3, k4, k5, k6, k7, k8, k9, j3, j4, j5, j6, j7, j8, j9]
end Go.Proofs.Ythaoopaafdgioaa
