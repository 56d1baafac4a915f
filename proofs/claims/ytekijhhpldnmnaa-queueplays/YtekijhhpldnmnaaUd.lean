import Derived.Test.YtekijhhpldnmnaaUc
import Derived.Deep.CutBlock
import Derived.Deep.CutRange
namespace Go.Proofs.Ytekijhhpldnmnaa
open Go.RowKit
set_option linter.unusedVariables false
set_option linter.unusedSimpArgs false

theorem step_any (b g D M c : Nat) (xs : List UInt32) (kd p n d : Int) (pa : Option Addr) (pc : Nat) (ps : List Int) (ma : Option Addr) (mc : Nat) (ms : List UInt32) (w : World)
    (hm : Mm w b g xs) (hM : M = xs.length) (hm2 : M ≤ 256) (hB : Blk w D (wvs xs) 52) (hDg : D ≠ g) (hsi : ∀ wr, Keeps (· = g) w wr → SegI wr pa ps) (hsw : ∀ wr, Keeps (· = g) w wr → SegW wr ma ms)
    (hp : p ≤ 9223372036854775807) (hpp : ∀ q ∈ ps, q ≤ 9223372036854775807) (hz1 : ps.length ≤ 35184372087808) (hz2 : ms.length ≤ 35184372087808) :
    Calls Try.prog 12 #[.pointer (some ⟨b, 0, none⟩), .slice (some ⟨D, 0, none⟩) M c, .agg #[.int .i64 kd, .int .i64 p, .int .i64 n, .int .i64 d, .slice pa ps.length pc, .slice ma ms.length mc]] w fun e w' => StP w b g D M e w' := by
  by_cases h0 : kd = 0
  · subst h0; exact step_0 b g D M c xs p n d pa pc ps ma mc ms w hm hM hm2 hB hDg hsi hsw hp hpp hz1 hz2
  by_cases h1 : kd = 1
  · subst h1; exact step_1 b g D M c xs p n d pa pc ps ma mc ms w hm hM hm2 hB hDg hsi hsw hp hpp hz1 hz2
  by_cases h2 : kd = 2
  · subst h2; exact step_2 b g D M c xs p n d pa pc ps ma mc ms w hm hM hm2 hB hDg hsi hsw hp hpp hz1 hz2
  by_cases h3 : kd = 3
  · subst h3; exact step_3 b g D M c xs p n d pa pc ps ma mc ms w hm hM hm2 hB hDg hsi hsw hp hpp hz1 hz2
  by_cases h4 : kd = 4
  · subst h4; exact step_4 b g D M c xs p n d pa pc ps ma mc ms w hm hM hm2 hB hDg hsi hsw hp hpp hz1 hz2
  by_cases h5 : kd = 5
  · subst h5; exact step_5 b g D M c xs p n d pa pc ps ma mc ms w hm hM hm2 hB hDg hsi hsw hp hpp hz1 hz2
  exact step_n b g D M c xs p n d pa pc ps ma mc ms w hm hM hm2 hB hDg hsi hsw hp hpp hz1 hz2 kd (beq_eq_false_iff_ne.2 h0) (beq_eq_false_iff_ne.2 h1) (beq_eq_false_iff_ne.2 h2) (beq_eq_false_iff_ne.2 h3) (beq_eq_false_iff_ne.2 h4) (beq_eq_false_iff_ne.2 h5)

set_option maxRecDepth 40000 in
set_option maxHeartbeats 8000000 in
theorem queuePlays_any (c : Cas) (w : World) (hc : c.Ok w) (hz : ∀ o ∈ c.os, o.Sz) :
    Calls Try.prog 3 #[c.v] w fun e w' => e = .returned (.bool true) ∧ Keeps (fun _ => False) w w' := by
  obtain ⟨fr, fm, wa, wcap, ws, oa, oc, os⟩ := c
  obtain ⟨c1, c2, c3, c4, c5, c6, c7⟩ := hc
  simp only at c1 c2 c3 c4 c5 c6 c7 hz
  obtain ⟨WL, hWL⟩ : ∃ L, L = ws.length := ⟨_, rfl⟩
  obtain ⟨OL, hOL⟩ : ∃ L, L = os.length := ⟨_, rfl⟩
  have hF := fun W => fit_any ⟨fr, fm, wa, wcap, ws, oa, oc, os⟩ W
  unfold fitB at hF
  unfold Cas.v at hF ⊢
  simp only at hF
  simp only [← hWL, ← hOL] at hF ⊢
  obtain ⟨cv, hcv⟩ : ∃ cv : List Value, cv = [.int .i64 fr, .int .i64 fm, .slice wa WL wcap, .slice oa OL oc] := ⟨_, rfl⟩
  obtain ⟨W, hW⟩ : ∃ W, W = w.alloc (.cells #[.int .i64 fr, .int .i64 fm, .slice wa WL wcap, .slice oa OL oc] 25) := ⟨_, rfl⟩
  have hK : Keeps (fun _ => False) w W := by rw [hW]; exact (Keeps.refl _ w).alloc _
  have hB : Blk W w.heap.size cv 25 := by rw [hW, hcv]; exact Blk.new w _ 25
  obtain ⟨C0, hC0⟩ : ∃ C0, C0 = w.heap.size := ⟨_, rfl⟩
  rw [← hC0] at hB
  have HW : Hid (W = w.alloc (.cells #[.int .i64 fr, .int .i64 fm, .slice wa WL wcap, .slice oa OL oc] 25) ∧ C0 = w.heap.size ∧ Keeps (fun _ => False) w W ∧ Blk W C0 cv 25 ∧ cv = [.int .i64 fr, .int .i64 fm, .slice wa WL wcap, .slice oa OL oc]) := ⟨hW, hC0, hK, hB, hcv⟩
  have HCC : Hid (SegW w wa ws ∧ SegOpn w oa os ∧ (∀ o ∈ os, o.Ok w) ∧ (∀ o ∈ os, o.Sz) ∧ OL = os.length ∧ WL = ws.length ∧ ws.length ≤ maxLen) := ⟨c4, c6, c7, hz, hOL, hWL, by omega⟩
  have HFT : Hid (Calls _ _ _ _ _) := hF W
  clear hF hW hK hB hC0 c4 c6 c7 hz c3 c5 hcv
  by_cases hfit0 : 1 ≤ fr ∧ fr ≤ 16 ∧ OL ≤ 200
  case neg =>
    rw [decide_eq_false hfit0] at HFT
    clear hfit0 hOL hWL c1 c2
    go_enter Try.func3, Try.ntmps3
    go_wp2_with fail
    rw [← HW.out.1]
    refine HFT.out.mono ?_
    rintro e w1 ⟨rfl, hk1⟩
    have HK1 : Hid (Keeps _ _ _) := hk1
    clear hk1 HFT
    go_wp2
    go_ret
    exact ⟨rfl, HW.out.2.2.1.trans HK1.out fun _ _ e => e⟩
  rw [decide_eq_true hfit0] at HFT
  obtain ⟨f1, f2, f3⟩ := hfit0
  obtain ⟨F, rfl⟩ : ∃ F : Nat, fr = F := ⟨fr.toNat, by omega⟩
  have HLD : Hid (∀ w1, Keeps (fun _ => False) w w1 → Calls Try.prog 8 #[.agg #[.int .i64 F, .int .i64 fm, .slice wa WL wcap, .slice oa OL oc]] w1 fun e w' => ∃ B xs, w1.heap.size ≤ B ∧ e = .returned (.slice (some ⟨B, 0, none⟩) (16 * F) (16 * F)) ∧ List.length (α := UInt32) xs = 16 * F ∧ Blk w' B (wvs xs) 52 ∧ Keeps (fun _ => False) w1 w') := fun w1 k1 => by
    have q := laid_any F fm wa wcap ws (.slice oa OL oc) rfl oa OL oc rfl w1 (by omega) (by omega) (HCC.out.1.kept k1 fun _ _ e => e) HCC.out.2.2.2.2.2.2
    rw [← HCC.out.2.2.2.2.2.1] at q
    exact q
  obtain ⟨M, hM⟩ : ∃ M, M = 16 * F := ⟨_, rfl⟩
  rw [← hM] at HLD
  have HMF : Hid (M = 16 * F ∧ 1 ≤ F ∧ F ≤ 16) := ⟨hM, by omega, by omega⟩
  have f3z : (OL : Int) ≤ 200 := by omega
  clear hM hOL hWL c1 c2 f1 f2 f3
  go_enter Try.func3, Try.ntmps3
  go_wp2_with fail
  rw [← HW.out.1, ← HW.out.2.1]
  refine HFT.out.mono ?_
  rintro e w1 ⟨rfl, hk1⟩
  have hb1 := HW.out.2.2.2.1.kept hk1 fun e => e
  rw [HW.out.2.2.2.2] at hb1
  have q0 : w1.cell? ⟨C0, 0, none⟩ = some (.int .i64 F) := hb1.cell rfl
  have q1 : w1.cell? ⟨C0, 1, none⟩ = some (.int .i64 fm) := hb1.cell rfl
  have q2 : w1.cell? ⟨C0, 2, none⟩ = some (.slice wa WL wcap) := hb1.cell rfl
  have q3 : w1.cell? ⟨C0, 3, none⟩ = some (.slice oa OL oc) := hb1.cell rfl
  have HLD1 : Hid (Calls _ _ _ _ _) := HLD.out w1 (HW.out.2.2.1.trans hk1 fun _ _ e => e)
  have HK1 : Hid (Keeps (fun _ => False) w w1 ∧ Blk w1 C0 cv 25) := ⟨HW.out.2.2.1.trans hk1 fun _ _ e => e, HW.out.2.2.2.1.kept hk1 fun e => e⟩
  clear hk1 hb1 HFT HLD
  go_wp2_with fail
  refine HLD1.out.mono ?_
  rintro e w2 ⟨B, xs0, hBs, rfl, hxl, hb2, hk2⟩
  have HCP : Hid (Calls _ _ _ _ _) := copyLong_any (some ⟨B, 0, none⟩) M xs0 w2 (segW_of_blk hb2) (by rw [hxl, HMF.out.1]; have := HMF.out; omega)
  have HK2 : Hid (Keeps (fun _ => False) w w2 ∧ Blk w2 C0 cv 25 ∧ xs0.length = M ∧ Blk w2 B (wvs xs0) 52) := ⟨HK1.out.1.trans hk2 fun _ _ e => e, HK1.out.2.kept hk2 (fun e => e), hxl, hb2⟩
  rw [hxl] at HCP
  clear hk2 hb2 hxl hBs HLD1 q0 q1 q2 q3
  go_wp2_with fail
  refine HCP.out.mono ?_
  rintro e w4 ⟨rfl, hb4, hk4⟩
  have hOf := of_in (some ⟨w2.heap.size, 0, none⟩) M F xs0 w4 (segW_of_blk hb4) (by rw [HK2.out.2.2.1, HMF.out.1]; omega) HMF.out.2.1 (by have := HMF.out; omega)
  rw [HK2.out.2.2.1] at hOf
  have HOF : Hid (Calls _ _ _ _ _) := hOf
  have HK4 : Hid (Keeps (fun _ => False) w w4 ∧ Blk w4 C0 cv 25 ∧ Blk w4 B (wvs xs0) 52) := ⟨HK2.out.1.trans hk4 fun _ _ e => e, HK2.out.2.1.kept hk4 (fun e => e), HK2.out.2.2.2.kept hk4 fun e => e⟩
  clear hk4 hb4 hOf HCP
  go_wp2_with fail
  refine HOF.out.mono ?_
  rintro e w3 ⟨b, hb, rfl, hm3, hk3⟩
  obtain ⟨g, hg⟩ : ∃ g, g = w4.heap.size := ⟨_, rfl⟩
  rw [← hg] at hm3 hb
  have HK3 : Hid (Keeps (fun _ => False) w w3 ∧ Blk w3 C0 cv 25 ∧ Mm w3 b g xs0 ∧ g < b ∧ C0 < g ∧ w.heap.size ≤ g ∧ B < g ∧ Blk w3 B (wvs xs0) 52) := ⟨HK4.out.1.trans hk3 fun _ _ e => e, HK4.out.2.1.kept hk3 (fun e => e), hm3, hb, by have := HK4.out.2.1.lt; omega, by have := HK4.out.1.size; omega, by have := HK4.out.2.2.lt; omega, HK4.out.2.2.kept hk3 fun e => e⟩
  clear hk3 hm3 hb hg HOF
  go_wp2
  go_loopw [3, 6] (fun dv i wr => ∃ (j D cD : Nat) (xs : List UInt32), j ≤ OL ∧ dv = .slice (some ⟨D, 0, none⟩) M cD ∧ i = .int .i64 j ∧ xs.length = M ∧ Mm wr b g xs ∧ Blk wr D (wvs xs) 52 ∧ D ≠ g ∧ Blk wr C0 cv 25 ∧ Keeps (fun k => w.heap.size ≤ k) w wr) (fun _ i _ => OL - (intOf i).toNat)
  case atStart => exact ⟨0, B, M, xs0, by omega, rfl, rfl, HK2.out.2.2.1, HK3.out.2.2.1, HK3.out.2.2.2.2.2.2.2, (by have := HK3.out.2.2.2.2.2.2.1; omega), HK3.out.2.1, HK3.out.1.none⟩
  case round =>
    obtain ⟨j, D, cD, xs, hj, rfl, rfl, hxM, hmr, hbD, hDg, hbC, hkr⟩ := hrel
    have hbC2 := hbC
    rw [HW.out.2.2.2.2] at hbC2
    have q3 : wr.cell? ⟨C0, 3, none⟩ = some (.slice oa OL oc) := hbC2.cell rfl
    clear hbC2
    by_cases hlt : j < OL
    · have hlt' : (j : Int) < OL := by omega
      have hjx : j < os.length := by rw [← HCC.out.2.2.2.2.1]; exact hlt
      obtain ⟨o, ho⟩ : ∃ o, os[j]? = some o := ⟨_, List.getElem?_eq_getElem hjx⟩
      have hmem := List.mem_of_getElem? ho
      obtain ⟨go, oo, hoa, hoc⟩ : ∃ g o2, oa = some ⟨g, o2, none⟩ ∧ ∀ j x, os[j]? = some x → OpnAt w g (o2 + j * 6) x := by
        rcases HCC.out.2.1 with h0 | h
        · rw [h0] at hjx; simp at hjx
        · exact h
      have hat := hoc j o ho
      have hat' : ∀ i v, o.vs[i]? = some v → wr.cell? ⟨go, oo + j * 6 + i, none⟩ = some v := fun i v hv => by
        have h1 := hat i v hv
        exact cell_kept h1 hkr (by have := World.block_lt_of_cell? w _ h1; show ¬ w.heap.size ≤ go; have : go < w.heap.size := this; omega)
      have d0 := hat' 0 _ rfl
      have d1 := hat' 1 _ rfl
      have d2 := hat' 2 _ rfl
      have d3 := hat' 3 _ rfl
      have d4 := hat' 4 _ rfl
      have d5 := hat' 5 _ rfl
      rw [Nat.add_zero] at d0
      have hok := HCC.out.2.2.1 o hmem
      have hsz := HCC.out.2.2.2.1 o hmem
      obtain ⟨kd, p, n, d, pa, pc, ps, ma, mc, ms⟩ := o
      obtain ⟨o1, o2, o3, o4, o5, o6, o7, o8⟩ := hok
      simp only at d0 d1 d2 d3 d4 d5 o1 o2 o3 o5 o6 o8
      obtain ⟨PL, hPL⟩ : ∃ L, L = ps.length := ⟨_, rfl⟩
      obtain ⟨ML, hML⟩ : ∃ L, L = ms.length := ⟨_, rfl⟩
      rw [← hPL] at d4
      rw [← hML] at d5
      have HST : Hid (∀ wx, Keeps (fun _ => False) wr wx → Calls Try.prog 12 #[.pointer (some ⟨b, 0, none⟩), .slice (some ⟨D, 0, none⟩) M cD, .agg #[.int .i64 kd, .int .i64 p, .int .i64 n, .int .i64 d, .slice pa PL pc, .slice ma ML mc]] wx fun e w' => StP wx b g D M e w') := fun wx k => by
        have kx : Keeps (fun k => w.heap.size ≤ k) w wx := hkr.trans k.none fun _ _ e => e
        have hgl := HK3.out.2.2.2.2.2.1
        have kg : ∀ wy, Keeps (· = g) wx wy → Keeps (fun k => w.heap.size ≤ k) w wy := fun wy ky => kx.trans ky fun b hb e => (by omega)
        rw [hPL, hML]
        exact step_any b g D M cD xs kd p n d pa pc ps ma mc ms wx (hmr.kept k (fun e => e) (fun e => e)) hxM.symm (by have := HMF.out; omega) (hbD.kept k fun e => e) hDg (fun wy ky => o5.low (kg wy ky)) (fun wy ky => o8.low (kg wy ky)) o1.2 (fun q hq => (o6 q hq).2) (Nat.le_trans hsz.1 (by decide)) hsz.2
      have HAP : Hid (∀ (n' d' : Nat) wx, n = n' → d = d' → n' ≤ 16 → d' ≤ 8 → PL ≤ 4 → Keeps (fun _ => False) wr wx → Calls Try.prog 11 #[.int .i64 p, .int .i64 n', .int .i64 d', .slice pa PL pc] wx fun e w' => BoP wx e w') := fun n' d' wx e1 e2 e3 e4 e5 k => apart_any p n' d' pa PL pc ps wx (o5.low (hkr.trans k.none fun _ _ e => e)) hPL e5 e3 e4
      have HX : Hid (xs.length = M ∧ Mm wr b g xs ∧ D ≠ g ∧ Blk wr C0 cv 25 ∧ Keeps (fun k => w.heap.size ≤ k) w wr ∧ C0 < g ∧ g < wr.heap.size ∧ w.heap.size ≤ g) := ⟨hxM, hmr, hDg, hbC, hkr, HK3.out.2.2.2.2.1, hmr.row.lt, HK3.out.2.2.2.2.2.1⟩
      subst hoa
      clear hat hat' hoc ho hmem hjx hPL hML o1 o2 o3 o4 o5 o6 o7 o8 hsz hxM hj hmr hbD hDg hbC hkr hlt
      go_upto_region 11 with fail
      go_cut [8] from 36 to 93 (fun c wx => c = .bool (decide (1 ≤ n ∧ n ≤ 16 ∧ 1 ≤ d ∧ d ≤ 8)) ∧ wx = wr.alloc (.cells #[.int .i64 kd, .int .i64 p, .int .i64 n, .int .i64 d, .slice pa PL pc, .slice ma ML mc] 35))
      case first =>
        by_cases b1 : 1 ≤ n
        · by_cases b2 : n ≤ 16
          · by_cases b3 : 1 ≤ d
            · by_cases b4 : d ≤ 8
              · have b4' : decide (d ≤ 8) = true := decide_eq_true b4
                go_wp2
                go_meet
                exact ⟨congrArg Value.bool (decide_eq_true (p := 1 ≤ n ∧ n ≤ 16 ∧ 1 ≤ d ∧ d ≤ 8) (by omega)).symm, rfl⟩
              · have b4' : decide (d ≤ 8) = false := decide_eq_false b4
                go_wp2
                go_meet
                exact ⟨congrArg Value.bool (decide_eq_false (p := 1 ≤ n ∧ n ≤ 16 ∧ 1 ≤ d ∧ d ≤ 8) (by omega)).symm, rfl⟩
            · have b3' : decide (1 ≤ d) = false := decide_eq_false b3
              go_wp2
              go_meet
              exact ⟨congrArg Value.bool (decide_eq_false (p := 1 ≤ n ∧ n ≤ 16 ∧ 1 ≤ d ∧ d ≤ 8) (by omega)).symm, rfl⟩
          · have b2' : decide (n ≤ 16) = false := decide_eq_false b2
            go_wp2
            go_meet
            exact ⟨congrArg Value.bool (decide_eq_false (p := 1 ≤ n ∧ n ≤ 16 ∧ 1 ≤ d ∧ d ≤ 8) (by omega)).symm, rfl⟩
        · have b1' : decide (1 ≤ n) = false := decide_eq_false b1
          go_wp2
          go_meet
          exact ⟨congrArg Value.bool (decide_eq_false (p := 1 ≤ n ∧ n ≤ 16 ∧ 1 ≤ d ∧ d ≤ 8) (by omega)).symm, rfl⟩
      case rest =>
        obtain ⟨rfl, rfl⟩ := hcut
        obtain ⟨BB, hBB⟩ : ∃ BB, BB = decide (1 ≤ n ∧ n ≤ 16 ∧ 1 ≤ d ∧ d ≤ 8) := ⟨_, rfl⟩
        rw [← hBB]
        have HBB : Hid (BB = true → 1 ≤ n ∧ n ≤ 16 ∧ 1 ≤ d ∧ d ≤ 8) := fun h => by rw [hBB] at h; exact of_decide_eq_true h
        obtain ⟨W, hW⟩ : ∃ W, W = wr.alloc (.cells #[.int .i64 kd, .int .i64 p, .int .i64 n, .int .i64 d, .slice pa PL pc, .slice ma ML mc] 35) := ⟨_, rfl⟩
        obtain ⟨Q, hQ⟩ : ∃ Q, Q = wr.heap.size := ⟨_, rfl⟩
        have hkW : Keeps (fun _ => False) wr W := by rw [hW]; exact (Keeps.refl _ wr).alloc _
        have hQb : Blk W Q [.int .i64 kd, .int .i64 p, .int .i64 n, .int .i64 d, .slice pa PL pc, .slice ma ML mc] 35 := by rw [hW, hQ]; exact Blk.new wr _ 35
        have z0 := hQb.cell (i := 0) rfl
        have z1 := hQb.cell (i := 1) rfl
        have z2 := hQb.cell (i := 2) rfl
        have z3 := hQb.cell (i := 3) rfl
        have z4 := hQb.cell (i := 4) rfl
        have z5 := hQb.cell (i := 5) rfl
        have HQ : Hid (Blk W Q [.int .i64 kd, .int .i64 p, .int .i64 n, .int .i64 d, .slice pa PL pc, .slice ma ML mc] 35 ∧ Keeps (fun _ => False) wr W) := ⟨hQb, hkW⟩
        rw [← hW, ← hQ]
        clear hBB hW hQ hkW hQb d0 d1 d2 d3 d4 d5
        go_upto_region 12 with fail
        go_cut [77] from 54 to 93 (fun c wx => ∃ bb : Bool, c = .bool bb ∧ Keeps (fun _ => False) W wx)
        case first =>
          by_cases k2 : kd = 2
          · subst k2
            cases BB with
            | false =>
              go_wp2
              go_meet
              exact ⟨_, rfl, Keeps.refl _ _⟩
            | true =>
              obtain ⟨y1, y2, y3, y4⟩ := HBB.out rfl
              obtain ⟨n', rfl⟩ : ∃ k : Nat, n = k := ⟨n.toNat, by omega⟩
              obtain ⟨d', rfl⟩ : ∃ k : Nat, d = k := ⟨d.toNat, by omega⟩
              by_cases k4 : PL ≤ 4
              · have k4' : (PL : Int) ≤ 4 := by omega
                have HA : Hid (∀ wx, Keeps (fun _ => False) wr wx → Calls Try.prog 11 #[.int .i64 p, .int .i64 n', .int .i64 d', .slice pa PL pc] wx fun e w' => BoP wx e w') := fun wx k => HAP.out n' d' wx rfl rfl (by omega) (by omega) k4 k
                clear HAP y1 y2 y3 y4 HBB
                go_wp2_with fail
                refine (HA.out W HQ.out.2).mono ?_
                rintro e w5 ⟨⟨bb, rfl⟩, hk5⟩
                have HK5 : Hid (Keeps (fun _ => False) W w5) := hk5
                clear hk5
                go_wp2
                go_meet
                exact ⟨_, rfl, HK5.out⟩
              · have k4' : ¬ (PL : Int) ≤ 4 := by omega
                clear HAP y1 y2 y3 y4 HBB
                go_wp2
                go_meet
                exact ⟨_, rfl, Keeps.refl _ _⟩
          · have k2' : (kd == 2) = false := beq_eq_false_iff_ne.2 k2
            go_wp2
            go_meet
            exact ⟨_, rfl, Keeps.refl _ _⟩
        case rest =>
          obtain ⟨bb, rfl, hkx⟩ := hcut
          have kx : Keeps (fun _ => False) wr wc := HQ.out.2.trans hkx fun _ _ e => e
          have hQx := HQ.out.1.kept hkx fun e => e
          have y0 := hQx.cell (i := 0) rfl
          have y1 := hQx.cell (i := 1) rfl
          have y2 := hQx.cell (i := 2) rfl
          have y3 := hQx.cell (i := 3) rfl
          have y4 := hQx.cell (i := 4) rfl
          have y5 := hQx.cell (i := 5) rfl
          have HKX : Hid (Keeps (fun _ => False) wr wc) := kx
          clear z0 z1 z2 z3 z4 z5 hQx hkx kx HAP HBB q3
          cases bb with
          | true =>
            go_wp2
            go_ret
            exact ⟨rfl, (HX.out.2.2.2.2.1.trans HKX.out.none fun _ _ e => e).mono fun b hb e => by omega⟩
          | false =>
            have HS1 : Hid (Calls _ _ _ _ _) := HST.out wc HKX.out
            clear HST
            go_wp2_with fail
            refine HS1.out.mono ?_
            rintro e w5 ⟨D', c', xs', rfl, hD', hl', hm', hb', hk'⟩
            have hwd := words_any b g xs' w5 hm'
            rw [hl'] at hwd
            have HWD : Hid (Calls _ _ _ _ _) := hwd
            have H5 : Hid ((D' = D ∨ wc.heap.size ≤ D') ∧ xs'.length = M ∧ Mm w5 b g xs' ∧ Blk w5 D' (wvs xs') 52 ∧ Keeps (· = g) wc w5) := ⟨hD', hl', hm', hb', hk'⟩
            clear hD' hl' hm' hb' hk' hwd y0 y1 y2 y3 y4 y5 HS1
            go_wp2_with fail
            refine HWD.out.mono ?_
            rintro e w6 ⟨rfl, hb6, hk6⟩
            have hsm := same_any (some ⟨w5.heap.size, 0, none⟩) (some ⟨D', 0, none⟩) M c' xs' w6 (segW_of_blk hb6) (segW_of_blk (H5.out.2.2.2.1.kept hk6 fun e => e)) (by rw [H5.out.2.1]; have := HMF.out; omega)
            rw [H5.out.2.1] at hsm
            have HSM : Hid (Calls _ _ _ _ _) := hsm
            have HK6 : Hid (Keeps (fun _ => False) w5 w6) := hk6
            clear hsm hb6 hk6 HWD
            go_wp2_with fail
            refine HSM.out.mono ?_
            rintro e w7 ⟨rfl, hk7⟩
            have HR : Hid (xs'.length = M ∧ Mm w7 b g xs' ∧ Blk w7 D' (wvs xs') 52 ∧ D' ≠ g ∧ Blk w7 C0 cv 25 ∧ Keeps (fun k => w.heap.size ≤ k) w w7) := by
              obtain ⟨e1, e2, e3, e4, e5⟩ := H5.out
              obtain ⟨x1, x2, x3, x4, x5, x6, x7, x8⟩ := HX.out
              have k57 : Keeps (fun _ => False) w5 w7 := HK6.out.trans hk7 fun _ _ e => e
              have kr5 : Keeps (· = g) wr w5 := HKX.out.none.trans e5 fun _ _ e => e
              have s1 := HKX.out.size
              refine ⟨e2, e3.kept k57 (fun e => e) (fun e => e), e4.kept k57 fun e => e, ?_, (x4.kept kr5 (by omega)).kept k57 fun e => e, (x5.trans kr5 fun b hb e => (by omega)).trans k57.none fun _ _ e => e⟩
              rcases e1 with h | h
              · rw [h]; exact x3
              · omega
            clear hk7 HSM
            go_wp2
            go_roundw
            case rel => exact ⟨j + 1, D', c', xs', by omega, rfl, by go_num, HR.out⟩
            case measure => simp [intOf]; omega
    · obtain rfl : OL = j := by omega
      have HR : Hid (Keeps (fun k => w.heap.size ≤ k) w wr) := hkr
      clear hmr hbC hkr hxM hj hbD hDg
      go_wp2
      go_ret
      exact ⟨rfl, HR.out.mono fun b hb e => by omega⟩

end Go.Proofs.Ytekijhhpldnmnaa
