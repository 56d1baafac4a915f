import Derived.Test.YtekijhhpldnmnaaOa
import Derived.Deep.CutBlock
import Derived.Deep.CutRange
namespace Go.Proofs.Ytekijhhpldnmnaa
open Go.RowKit
set_option linter.unusedVariables false
set_option linter.unusedSimpArgs false

set_option maxRecDepth 40000 in
set_option maxHeartbeats 8000000 in
theorem queueOwn_any (c : Cas) (w : World) (hc : c.Ok w) (hz : ∀ o ∈ c.os, o.Sz) :
    Calls Try.prog 5 #[c.v] w fun e w' => e = .returned (.bool true) ∧ Keeps (fun _ => False) w w' := by
  obtain ⟨fr, fm, wa, wcap, ws, oa, oc, os⟩ := c
  obtain ⟨c1, c2, c3, c4, c5, c6, c7⟩ := hc
  simp only at c1 c2 c3 c4 c5 c6 c7 hz
  obtain ⟨WL, hWL⟩ : ∃ L, L = ws.length := ⟨_, rfl⟩
  obtain ⟨OL, hOL⟩ : ∃ L, L = os.length := ⟨_, rfl⟩
  have hF := fun W => fit_any ⟨fr, fm, wa, wcap, ws, oa, oc, os⟩ W
  unfold fitB at hF
  unfold Cas.v at hF ⊢
  simp only at hF
  simp only [← hWL, ← hOL] at hF ⊢
  obtain ⟨cv, hcv⟩ : ∃ cv : List Value, cv = [.int .i64 fr, .int .i64 fm, .slice wa WL wcap, .slice oa OL oc] := ⟨_, rfl⟩
  obtain ⟨W, hW⟩ : ∃ W, W = w.alloc (.cells #[.int .i64 fr, .int .i64 fm, .slice wa WL wcap, .slice oa OL oc] 25) := ⟨_, rfl⟩
  have hK : Keeps (fun _ => False) w W := by rw [hW]; exact (Keeps.refl _ w).alloc _
  have hB : Blk W w.heap.size cv 25 := by rw [hW, hcv]; exact Blk.new w _ 25
  obtain ⟨C0, hC0⟩ : ∃ C0, C0 = w.heap.size := ⟨_, rfl⟩
  rw [← hC0] at hB
  have HW : Hid (W = w.alloc (.cells #[.int .i64 fr, .int .i64 fm, .slice wa WL wcap, .slice oa OL oc] 25) ∧ C0 = w.heap.size ∧ Keeps (fun _ => False) w W ∧ Blk W C0 cv 25 ∧ cv = [.int .i64 fr, .int .i64 fm, .slice wa WL wcap, .slice oa OL oc]) := ⟨hW, hC0, hK, hB, hcv⟩
  have HCC : Hid (SegW w wa ws ∧ SegOpn w oa os ∧ (∀ o ∈ os, o.Ok w) ∧ (∀ o ∈ os, o.Sz) ∧ OL = os.length ∧ WL = ws.length ∧ ws.length ≤ maxLen) := ⟨c4, c6, c7, hz, hOL, hWL, by omega⟩
  have HFT : Hid (Calls _ _ _ _ _) := hF W
  clear hF hW hK hB hC0 c4 c6 c7 hz c3 c5 hcv
  by_cases hfit0 : 1 ≤ fr ∧ fr ≤ 16 ∧ OL ≤ 200
  case neg =>
    rw [decide_eq_false hfit0] at HFT
    clear hfit0 hOL hWL c1 c2
    go_enter Try.func5, Try.ntmps5
    go_wp2_with fail
    rw [← HW.out.1]
    refine HFT.out.mono ?_
    rintro e w1 ⟨rfl, hk1⟩
    have HK1 : Hid (Keeps _ _ _) := hk1
    clear hk1 HFT
    go_wp2
    go_ret
    exact ⟨rfl, HW.out.2.2.1.trans HK1.out fun _ _ e => e⟩
  rw [decide_eq_true hfit0] at HFT
  obtain ⟨f1, f2, f3⟩ := hfit0
  obtain ⟨F, rfl⟩ : ∃ F : Nat, fr = F := ⟨fr.toNat, by omega⟩
  have HLD : Hid (∀ w1, Keeps (fun _ => False) w w1 → Calls Try.prog 8 #[.agg #[.int .i64 F, .int .i64 fm, .slice wa WL wcap, .slice oa OL oc]] w1 fun e w' => ∃ B xs, w1.heap.size ≤ B ∧ e = .returned (.slice (some ⟨B, 0, none⟩) (16 * F) (16 * F)) ∧ List.length (α := UInt32) xs = 16 * F ∧ Blk w' B (wvs xs) 52 ∧ Keeps (fun _ => False) w1 w') := fun w1 k1 => by
    have q := laid_any F fm wa wcap ws (.slice oa OL oc) rfl oa OL oc rfl w1 (by omega) (by omega) (HCC.out.1.kept k1 fun _ _ e => e) HCC.out.2.2.2.2.2.2
    rw [← HCC.out.2.2.2.2.2.1] at q
    exact q
  obtain ⟨M, hM⟩ : ∃ M, M = 16 * F := ⟨_, rfl⟩
  rw [← hM] at HLD
  have HMF : Hid (M = 16 * F ∧ 1 ≤ F ∧ F ≤ 16) := ⟨hM, by omega, by omega⟩
  have f3z : (OL : Int) ≤ 200 := by omega
  clear hM hOL hWL c1 c2 f1 f2 f3
  go_enter Try.func5, Try.ntmps5
  go_wp2_with fail
  rw [← HW.out.1, ← HW.out.2.1]
  refine HFT.out.mono ?_
  rintro e w1 ⟨rfl, hk1⟩
  have hb1 := HW.out.2.2.2.1.kept hk1 fun e => e
  rw [HW.out.2.2.2.2] at hb1
  have q0 : w1.cell? ⟨C0, 0, none⟩ = some (.int .i64 F) := hb1.cell rfl
  have q1 : w1.cell? ⟨C0, 1, none⟩ = some (.int .i64 fm) := hb1.cell rfl
  have q2 : w1.cell? ⟨C0, 2, none⟩ = some (.slice wa WL wcap) := hb1.cell rfl
  have q3 : w1.cell? ⟨C0, 3, none⟩ = some (.slice oa OL oc) := hb1.cell rfl
  have HLD1 : Hid (Calls _ _ _ _ _) := HLD.out w1 (HW.out.2.2.1.trans hk1 fun _ _ e => e)
  have HK1 : Hid (Keeps (fun _ => False) w w1 ∧ Blk w1 C0 cv 25) := ⟨HW.out.2.2.1.trans hk1 fun _ _ e => e, HW.out.2.2.2.1.kept hk1 fun e => e⟩
  clear hk1 hb1 HFT HLD
  go_wp2_with fail
  refine HLD1.out.mono ?_
  rintro e w2 ⟨B, xs0, hBs, rfl, hxl, hb2, hk2⟩
  have hOf := of_in (some ⟨B, 0, none⟩) M F xs0 w2 (segW_of_blk hb2) (by rw [hxl, HMF.out.1]; omega) HMF.out.2.1 (by have := HMF.out; omega)
  rw [hxl] at hOf
  have HOF : Hid (Calls _ _ _ _ _) := hOf
  have HK2 : Hid (Keeps (fun _ => False) w w2 ∧ Blk w2 C0 cv 25 ∧ xs0.length = M ∧ w1.heap.size ≤ w2.heap.size) := ⟨HK1.out.1.trans hk2 fun _ _ e => e, HK1.out.2.kept hk2 (fun e => e), hxl, hk2.size⟩
  clear hk2 hb2 hxl hBs hOf HLD1 q0 q1 q2 q3
  go_wp2_with fail
  refine HOF.out.mono ?_
  rintro e w3 ⟨b, hb, rfl, hm3, hk3⟩
  obtain ⟨g, hg⟩ : ∃ g, g = w2.heap.size := ⟨_, rfl⟩
  rw [← hg] at hm3 hb
  have HK3 : Hid (Keeps (fun _ => False) w w3 ∧ Blk w3 C0 cv 25 ∧ Mm w3 b g xs0 ∧ g < b ∧ C0 < g ∧ w.heap.size ≤ g) := ⟨HK2.out.1.trans hk3 fun _ _ e => e, HK2.out.2.1.kept hk3 (fun e => e), hm3, hb, by have := HK2.out.2.1.lt; omega, by have := HK2.out.1.size; omega⟩
  clear hk3 hm3 hb hg HOF
  go_wp2
  go_loopw [5, 6, 7, 8, 9, 10, 11, 12, 13, 14, 15, 16, 17] (fun i _ _ _ _ _ _ _ _ _ _ _ _ wr => ∃ (j : Nat) (xs : List UInt32), j ≤ OL ∧ i = .int .i64 j ∧ xs.length = M ∧ Mm wr b g xs ∧ Blk wr C0 cv 25 ∧ Keeps (fun k => w.heap.size ≤ k) w wr) (fun i _ _ _ _ _ _ _ _ _ _ _ _ _ => OL - (intOf i).toNat)
  case atStart => exact ⟨0, xs0, by omega, rfl, HK2.out.2.2.1, HK3.out.2.2.1, HK3.out.2.1, HK3.out.1.none⟩
  case round =>
    obtain ⟨j, xs, hj, rfl, hxM, hmr, hbC, hkr⟩ := hrel
    have hbC2 := hbC
    rw [HW.out.2.2.2.2] at hbC2
    have q0 : wr.cell? ⟨C0, 0, none⟩ = some (.int .i64 F) := hbC2.cell rfl
    have q1 : wr.cell? ⟨C0, 1, none⟩ = some (.int .i64 fm) := hbC2.cell rfl
    have q2 : wr.cell? ⟨C0, 2, none⟩ = some (.slice wa WL wcap) := hbC2.cell rfl
    have q3 : wr.cell? ⟨C0, 3, none⟩ = some (.slice oa OL oc) := hbC2.cell rfl
    clear hbC2
    by_cases hlt : j < OL
    · have hlt' : (j : Int) < OL := by omega
      have hjx : j < os.length := by rw [← HCC.out.2.2.2.2.1]; exact hlt
      obtain ⟨o, ho⟩ : ∃ o, os[j]? = some o := ⟨_, List.getElem?_eq_getElem hjx⟩
      have hmem := List.mem_of_getElem? ho
      obtain ⟨go, oo, hoa, hoc⟩ : ∃ g o2, oa = some ⟨g, o2, none⟩ ∧ ∀ j x, os[j]? = some x → OpnAt w g (o2 + j * 6) x := by
        rcases HCC.out.2.1 with h0 | h
        · rw [h0] at hjx; simp at hjx
        · exact h
      have hat := hoc j o ho
      have hat' : ∀ i v, o.vs[i]? = some v → wr.cell? ⟨go, oo + j * 6 + i, none⟩ = some v := fun i v hv => by
        have h1 := hat i v hv
        exact cell_kept h1 hkr (by have := World.block_lt_of_cell? w _ h1; show ¬ w.heap.size ≤ go; have : go < w.heap.size := this; omega)
      have d0 := hat' 0 _ rfl
      have d1 := hat' 1 _ rfl
      have d2 := hat' 2 _ rfl
      have d3 := hat' 3 _ rfl
      have d4 := hat' 4 _ rfl
      have d5 := hat' 5 _ rfl
      rw [Nat.add_zero] at d0
      have hok := HCC.out.2.2.1 o hmem
      have hsz := HCC.out.2.2.2.1 o hmem
      obtain ⟨kd, p, n, d, pa, pc, ps, ma, mc, ms⟩ := o
      obtain ⟨o1, o2, o3, o4, o5, o6, o7, o8⟩ := hok
      simp only at d0 d1 d2 d3 d4 d5 o1 o2 o3 o8
      obtain ⟨PL, hPL⟩ : ∃ L, L = ps.length := ⟨_, rfl⟩
      obtain ⟨ML, hML⟩ : ∃ L, L = ms.length := ⟨_, rfl⟩
      rw [← hPL] at d4
      rw [← hML] at d5
      have HO : Hid (SegW w ma ms ∧ ms.length ≤ 35184372087808 ∧ True ∧ ML = ms.length) := ⟨o8, hsz.2, trivial, hML⟩
      have HO2 : Hid (p ≤ 9223372036854775807) := o1.2
      have HX : Hid (b ≠ g ∧ xs.length = M ∧ (g < b ∧ C0 < g ∧ w.heap.size ≤ g ∧ g < wr.heap.size)) := ⟨by have := HK3.out; omega, hxM, by have := HK3.out; omega, by have := HK3.out; omega, by have := HK3.out; omega, hmr.row.lt⟩
      have hC0 : w.heap.size ≤ C0 := by have := HW.out.2.1; omega
      subst hoa
      clear hat hat' hoc ho hmem hjx hPL hML o1 o4 o5 o6 o7 o8 hsz hxM hj
      have HO3 : Hid (True ∧ -9223372036854775808 ≤ n ∧ n ≤ 9223372036854775807 ∧ -9223372036854775808 ≤ d ∧ d ≤ 9223372036854775807) := ⟨trivial, o2.1, o2.2, o3.1, o3.2⟩
      clear o2 o3
      obtain ⟨n0, hn0⟩ : ∃ n0, n0 = n := ⟨_, rfl⟩
      obtain ⟨d9, hd9⟩ : ∃ n0, n0 = d := ⟨_, rfl⟩
      rw [← hn0] at d2
      rw [← hd9] at d3
      clear hn0 hd9 HO3
      clear n d
      obtain ⟨n, d, hnd⟩ : ∃ n d : Int, ((n0 < 1 ∨ 16 < n0 ∨ d9 < 1 ∨ 8 < d9) ∧ n = 1 ∧ d = 1) ∨ (¬ (n0 < 1 ∨ 16 < n0 ∨ d9 < 1 ∨ 8 < d9) ∧ n = n0 ∧ d = d9) := by
        by_cases hbad : n0 < 1 ∨ 16 < n0 ∨ d9 < 1 ∨ 8 < d9
        · exact ⟨1, 1, .inl ⟨hbad, rfl, rfl⟩⟩
        · exact ⟨n0, d9, .inr ⟨hbad, rfl, rfl⟩⟩
      have HND : Hid (((n0 < 1 ∨ 16 < n0 ∨ d9 < 1 ∨ 8 < d9) ∧ n = 1 ∧ d = 1) ∨ (¬ (n0 < 1 ∨ 16 < n0 ∨ d9 < 1 ∨ 8 < d9) ∧ n = n0 ∧ d = d9)) := hnd
      have n1 : ¬ n < 1 := by omega
      have n2 : ¬ 16 < n := by omega
      have n3 : ¬ d < 1 := by omega
      have n4 : ¬ 8 < d := by omega
      have hfit : fitE false n d = 0 := by unfold fitE; rw [if_neg (by decide), if_neg (by omega)]
      clear hnd
      go_upto_region 10 with fail
      go_cut [58] from 41 to 184 (fun c wx => c = .bool (decide (n0 < 1 ∨ 16 < n0 ∨ d9 < 1 ∨ 8 < d9)) ∧ wx = wr.alloc (.cells #[.int .i64 kd, .int .i64 p, .int .i64 n0, .int .i64 d9, .slice pa PL pc, .slice ma ML mc] 35))
      case first =>
        clear n1 n2 n3 n4 hfit HND
        by_cases b1 : n0 < 1
        · have b1' : decide (n0 < 1) = true := decide_eq_true b1
          go_wp2
          go_meet
          exact ⟨congrArg Value.bool (decide_eq_true (p := n0 < 1 ∨ 16 < n0 ∨ d9 < 1 ∨ 8 < d9) (by omega)).symm, rfl⟩
        · by_cases b2 : 16 < n0
          · have b2' : decide (16 < n0) = true := decide_eq_true b2
            go_wp2
            go_meet
            exact ⟨congrArg Value.bool (decide_eq_true (p := n0 < 1 ∨ 16 < n0 ∨ d9 < 1 ∨ 8 < d9) (by omega)).symm, rfl⟩
          · by_cases b3 : d9 < 1
            · have b3' : decide (d9 < 1) = true := decide_eq_true b3
              go_wp2
              go_meet
              exact ⟨congrArg Value.bool (decide_eq_true (p := n0 < 1 ∨ 16 < n0 ∨ d9 < 1 ∨ 8 < d9) (by omega)).symm, rfl⟩
            · by_cases b4 : 8 < d9
              · have b4' : decide (8 < d9) = true := decide_eq_true b4
                go_wp2
                go_meet
                exact ⟨congrArg Value.bool (decide_eq_true (p := n0 < 1 ∨ 16 < n0 ∨ d9 < 1 ∨ 8 < d9) (by omega)).symm, rfl⟩
              · have b4' : decide (8 < d9) = false := decide_eq_false b4
                go_wp2
                go_meet
                exact ⟨congrArg Value.bool (decide_eq_false (p := n0 < 1 ∨ 16 < n0 ∨ d9 < 1 ∨ 8 < d9) (by omega)).symm, rfl⟩
      case rest =>
      obtain ⟨rfl, rfl⟩ := hcut
      obtain ⟨BB, hBB⟩ : ∃ BB, BB = decide (n0 < 1 ∨ 16 < n0 ∨ d9 < 1 ∨ 8 < d9) := ⟨_, rfl⟩
      rw [← hBB]
      have HBB : Hid ((BB = true → n = 1 ∧ d = 1) ∧ (BB = false → n = n0 ∧ d = d9)) := by
        rw [hBB]
        rcases HND.out with ⟨h1, h2, h3⟩ | ⟨h1, h2, h3⟩
        · exact ⟨fun _ => ⟨h2, h3⟩, fun h => absurd h1 (of_decide_eq_false h)⟩
        · exact ⟨fun h => absurd (of_decide_eq_true h) h1, fun _ => ⟨h2, h3⟩⟩
      clear hBB HND
      go_upto_if 58 with fail
      go_cut [6] from 59 to 184 (fun v6 wx => v6 = .pointer (some ⟨wr.heap.size, 0, none⟩) ∧ wx = wr.alloc (.cells #[.int .i64 kd, .int .i64 p, .int .i64 n, .int .i64 d, .slice pa PL pc, .slice ma ML mc] 35))
      case first =>
        cases BB with
        | true =>
          obtain ⟨e1, e2⟩ := HBB.out.1 rfl
          subst e1 e2
          clear n1 n2 n3 n4 hfit HBB
          go_wp2
          go_meet
          exact ⟨rfl, rfl⟩
        | false =>
          obtain ⟨e1, e2⟩ := HBB.out.2 rfl
          subst e1 e2
          clear HBB
          go_wp2
          go_meet
          exact ⟨rfl, rfl⟩
      case rest =>
        obtain ⟨rfl, rfl⟩ := hcut
        clear d2 d3 HBB
        have HWD : Hid (∀ w3, Mm w3 b g xs → Calls Try.prog 14 #[.pointer (some ⟨b, 0, none⟩)] w3 fun e w' => e = .returned (.slice (some ⟨w3.heap.size, 0, none⟩) M M) ∧ Blk w' w3.heap.size (wvs xs) 52 ∧ Keeps (fun _ => False) w3 w') := fun w3 hm3 => by
          have q := words_any b g xs w3 hm3
          rw [HX.out.2.1] at q
          exact q
        obtain ⟨W3, hW3⟩ : ∃ W3, W3 = wr.alloc (.cells #[.int .i64 kd, .int .i64 p, .int .i64 n, .int .i64 d, .slice pa PL pc, .slice ma ML mc] 35) := ⟨_, rfl⟩
        have hk3 : Keeps (fun _ => False) wr W3 := by rw [hW3]; exact (Keeps.refl _ wr).alloc _
        have hb3 : Blk W3 wr.heap.size [.int .i64 kd, .int .i64 p, .int .i64 n, .int .i64 d, .slice pa PL pc, .slice ma ML mc] 35 := by rw [hW3]; exact Blk.new wr _ 35
        have hm3 := hmr.kept hk3 (fun e => e) (fun e => e)
        have HWC : Hid (Calls _ _ _ _ _) := HWD.out W3 hm3
        obtain ⟨Q, hQ⟩ : ∃ Q, Q = wr.heap.size := ⟨_, rfl⟩
        rw [← hQ] at hb3
        have H3 : Hid (W3 = wr.alloc (.cells #[.int .i64 kd, .int .i64 p, .int .i64 n, .int .i64 d, .slice pa PL pc, .slice ma ML mc] 35) ∧ Q = wr.heap.size ∧ Keeps (fun k => w.heap.size ≤ k) w W3 ∧ Blk W3 Q [.int .i64 kd, .int .i64 p, .int .i64 n, .int .i64 d, .slice pa PL pc, .slice ma ML mc] 35 ∧ Mm W3 b g xs ∧ Blk W3 C0 cv 25 ∧ w.heap.size ≤ C0 ∧ C0 < wr.heap.size) := ⟨hW3, hQ, hkr.trans hk3 fun _ _ e => e.elim, hb3, hm3, hbC.kept hk3 (fun e => e), hC0, hbC.lt⟩
        obtain ⟨T0, hT0⟩ : ∃ T0, T0 = IntKind.i64.wrap (p + 3) := ⟨_, rfl⟩
        obtain ⟨KK, hKK⟩ : ∃ KK : Int, KK = d * (1 + n) := ⟨_, rfl⟩
        obtain ⟨T1, hT1⟩ : ∃ T1, T1 = IntKind.i64.wrap (T0 + KK) := ⟨_, rfl⟩
        obtain ⟨T2, hT2⟩ : ∃ T2, T2 = IntKind.i64.wrap (T1 - 2) := ⟨_, rfl⟩
        have x0 : IntKind.i64.wrap (p + 3) = T0 := hT0.symm
        have xK : d * (1 + n) = KK := hKK.symm
        have x1 : IntKind.i64.wrap (T0 + KK) = T1 := by rw [hT1]
        have x2 : IntKind.i64.wrap (T1 - 2) = T2 := hT2.symm
        have hr1 : (rsz 1 n d : Int) = 1 + KK := by
          rw [hKK]
          have := (fit_rsz (nil := false) (h := 1) (n := n) (d := d) (by omega) hfit).1; omega
        have hr3 : (rsz 3 n d : Int) = 3 + KK := by
          rw [hKK]
          have := (fit_rsz (nil := false) (h := 3) (n := n) (d := d) (by omega) hfit).1; omega
        have hKb : 0 ≤ KK ∧ KK ≤ 140 := by
          have := (fit_rsz (nil := false) (h := 1) (n := n) (d := d) (by omega) hfit); omega
        have hxl : xs.length ≤ 16384 := hmr.small
        have HT : Hid ((0 ≤ p → p + (rsz 1 n d : Int) ≤ xs.length → T2 = p + (rsz 1 n d : Int)) ∧ (0 ≤ p → p + (rsz 3 n d : Int) ≤ xs.length → T1 = p + (rsz 3 n d : Int))) := by
          constructor
          · intro h1 h2
            have e0 : T0 = p + 3 := by rw [hT0, IntKind.wrap_i64]; omega
            have e1 : T1 = p + 3 + KK := by rw [hT1, e0, IntKind.wrap_i64]; omega
            rw [hT2, e1, IntKind.wrap_i64]; omega
          · intro h1 h2
            have e0 : T0 = p + 3 := by rw [hT0, IntKind.wrap_i64]; omega
            rw [hT1, e0, IntKind.wrap_i64]; omega
        have HLN : Hid (xs.length = M ∧ M ≤ 16384) := ⟨HX.out.2.1, by have := HX.out.2.1; omega⟩
        have kb1 : 0 ≤ KK := hKb.1
        have kb2 : KK ≤ 140 := hKb.2
        clear hT0 hKK hT1 hT2 hr1 hr3 hKb hxl hk3 hb3 hm3 hmr hkr hbC hC0 hW3 hQ
        go_wp2_with fail
        rw [← H3.out.1, ← H3.out.2.1]
        refine HWC.out.mono ?_
        rintro e w4 ⟨rfl, hb4, hk4⟩
        have HS : Hid (∀ w', Keeps (· = g) w4 w' → w'.cell? ⟨Q, 0, none⟩ = some (.int .i64 kd) ∧ w'.cell? ⟨Q, 1, none⟩ = some (.int .i64 p) ∧ w'.cell? ⟨Q, 2, none⟩ = some (.int .i64 n) ∧ w'.cell? ⟨Q, 3, none⟩ = some (.int .i64 d) ∧ w'.cell? ⟨Q, 4, none⟩ = some (.slice pa PL pc) ∧ w'.cell? ⟨Q, 5, none⟩ = some (.slice ma ML mc)) := fun w' k => by
          have q := (H3.out.2.2.2.1.kept hk4 fun e => e).kept k (by have := H3.out.2.2.2.2.1.row.lt; have h5 := HX.out.2.2; have := H3.out.2.1; omega)
          exact ⟨q.cell rfl, q.cell rfl, q.cell rfl, q.cell rfl, q.cell rfl, q.cell rfl⟩
        have hS := HS.out w4 (Keeps.refl _ _)
        have hm4 := H3.out.2.2.2.2.1.kept hk4 (fun e => e) (fun e => e)
        obtain ⟨A, hA⟩ : ∃ A, A = W3.heap.size := ⟨_, rfl⟩
        rw [← hA] at hb4 ⊢
        have H4 : Hid (Keeps (fun k => w.heap.size ≤ k) w w4 ∧ Blk w4 A (wvs xs) 52 ∧ Mm w4 b g xs ∧ Blk w4 C0 cv 25 ∧ g < A ∧ C0 ≠ g ∧ w.heap.size ≤ g) := ⟨H3.out.2.2.1.trans hk4 fun _ _ e => e.elim, hb4, hm4, H3.out.2.2.2.2.2.1.kept hk4 (fun e => e), by have := H3.out.2.2.2.2.1.row.lt; omega, by have := HX.out.2.2; omega, by have := HX.out.2.2; omega⟩
        have HCW : Hid (∀ w', Keeps (fun _ => False) w4 w' → Calls Try.prog 10 #[.slice ma ML mc] w' fun e w'' => ∃ G5, e = .returned (.slice (some ⟨G5, 0, none⟩) ML ML) ∧ Blk w'' G5 (wvs ms) 52 ∧ Keeps (fun _ => False) w4 w'') := fun w' k => by
          have q := copyLong_any ma mc ms w' (HO.out.1.low (H4.out.1.trans k fun _ _ e => e.elim)) HO.out.2.1
          rw [← HO.out.2.2.2] at q
          exact q.mono fun e w'' ⟨h1, h2, h3⟩ => ⟨_, h1, h2, k.trans h3 fun _ _ e => e⟩
        obtain ⟨B1, hB1⟩ : ∃ B1, B1 = ptB false xs p n d ML := ⟨_, rfl⟩
        obtain ⟨E1, hE1⟩ : ∃ E1, E1 = ptE false xs p n d ML := ⟨_, rfl⟩
        obtain ⟨B2, hB2⟩ : ∃ B1, B1 = hdB false xs p n d := ⟨_, rfl⟩
        obtain ⟨E2, hE2⟩ : ∃ E1, E1 = lkE false xs p 3 n d := ⟨_, rfl⟩
        have HPT : Hid (∀ w5 G5, Keeps (fun _ => False) w4 w5 → Blk w5 G5 (wvs ms) 52 → Calls Try.prog 16 #[.pointer (some ⟨b, 0, none⟩), .int .i64 p, .int .i64 n, .int .i64 d, .slice (some ⟨G5, 0, none⟩) ML ML] w5 fun e w' => e = .returned (.tuple #[.bool B1, .int .i64 E1]) ∧ Mm w' b g (ptX false xs p n d ms) ∧ Keeps (· = g) w4 w') := fun w5 G5 k5 hb5 => by
          have q := put_any false b g xs p n d w5 (H4.out.2.2.1.kept k5 (fun e => e) (fun e => e)) HO2.out (some ⟨G5, 0, none⟩) ML ms (segW_of_blk hb5)
          rw [← HO.out.2.2.2, ← hB1, ← hE1] at q
          exact q.mono fun e w' ⟨h1, h2, h3⟩ => ⟨h1, h2, k5.none.trans h3 fun _ _ e => e⟩
        have HTK : Hid (Calls Try.prog 19 #[.pointer (some ⟨b, 0, none⟩), .int .i64 p, .int .i64 n, .int .i64 d] w4 fun e w' => e = .returned (.tuple #[.bool B2, .int .i64 E2]) ∧ Mm w' b g (tkX false xs p n d) ∧ Keeps (· = g) w4 w') := by
          have q := tak_any false b g xs p n d w4 H4.out.2.2.1 HO2.out
          rw [← hB2, ← hE2] at q
          exact q
        have HLK : Hid (Calls Try.prog 18 #[.pointer (some ⟨b, 0, none⟩), .int .i64 p, .int .i64 n, .int .i64 d] w4 fun e w' => ∃ v, e = .returned v ∧ Keeps (fun _ => False) w4 w') :=
          (look3_any false b g xs p n d w4 H4.out.2.2.1 HO2.out).mono fun e w' ⟨a, h1, _, h2⟩ => ⟨_, h1, h2⟩
        have HCN : Hid (Calls Try.prog 20 #[.pointer (some ⟨b, 0, none⟩), .int .i64 p, .int .i64 n, .int .i64 d] w4 fun e w' => ∃ v, e = .returned v ∧ Keeps (fun _ => False) w4 w') :=
          (count3_any false b g xs p n d w4 H4.out.2.2.1 HO2.out).mono fun e w' ⟨h1, h2⟩ => ⟨_, h1, h2⟩
        have HST : Hid (Calls Try.prog 21 #[.pointer (some ⟨b, 0, none⟩), .int .i64 p, .int .i64 n, .int .i64 d] w4 fun e w' => ∃ v, e = .returned v ∧ Keeps (fun _ => False) w4 w') :=
          (staged_any false b g xs p n d w4 H4.out.2.2.1 HO2.out).mono fun e w' ⟨h1, h2⟩ => ⟨_, h1, h2⟩
        have HEB : Hid ((B1 = true → E1 = 0) ∧ (B2 = true → E2 = 0)) := by
          rw [hB1, hE1, hB2, hE2]
          exact ⟨fun h => by unfold ptB at h; simp only [Bool.and_eq_true, decide_eq_true_iff] at h; exact h.1, fun h => by unfold hdB at h; simp only [Bool.and_eq_true, decide_eq_true_iff] at h; exact h.1⟩
        have HOW : Hid (OwnP xs (ptX false xs p n d ms) B1 p T2 ∧ OwnP xs (tkX false xs p n d) B2 p T1) := by
          rw [hB1, hB2]
          have q := put_own xs p n d ms T2 HT.out.1
          rw [← HO.out.2.2.2] at q
          exact ⟨q, tak_own xs p n d T1 HT.out.2⟩
        clear hB1 hE1 hB2 hE2 hm4 hA hb4 hk4 HWC HWD
        obtain ⟨q0, q1, q2, q3, q4, q5⟩ := hS
        go_upto_block 2 with fail
        go_cut [8, 10, 11, 12, 13, 14] from 29 to 184 (fun tv dn _ _ _ _ wx => ∃ (Db : Bool) (T : Int) (ys : List UInt32), dn = .bool Db ∧ tv = .int .i64 T ∧ OwnP xs ys Db p T ∧ Mm wx b g ys ∧ Keeps (· = g) w4 wx)
        case first =>
          as_aux_lemma =>
            by_cases k0 : kd = 0
            · have k0' : (kd == 0) = true := beq_iff_eq.2 k0
              clear k0
              go_wp2
              have hS := HS.out w4 (Keeps.refl _ _)
              refine wp_region_held_drew (S := (fun w' => w'.cell? ⟨Q, 0, none⟩ = some (.int .i64 kd) ∧ w'.cell? ⟨Q, 1, none⟩ = some (.int .i64 p) ∧ w'.cell? ⟨Q, 2, none⟩ = some (.int .i64 n) ∧ w'.cell? ⟨Q, 3, none⟩ = some (.int .i64 d) ∧ w'.cell? ⟨Q, 4, none⟩ = some (.slice pa PL pc) ∧ w'.cell? ⟨Q, 5, none⟩ = some (.slice ma ML mc))) Try.mixd hS (fun hHeld => ?_)
              simp only [List.size_toArray, List.length_cons, List.length_nil, Nat.reduceAdd, Array.replicate_succ, Array.replicate_zero, List.push_toArray, List.append_toArray, List.nil_append, List.cons_append]
              refine wpAnyH_take (i := 0) (oi := { dst := some 88, op := Op.move (Operand.tmp 3), type := 28, pos := "law.go:220", after := #[], guard := none }) (v := .pointer (some ⟨b, 0, none⟩)) rfl (by kernel_rfl) (by kernel_rfl) (by kernel_rfl) (fun _ _ _ h => h) (Or.inl ⟨by kernel_rfl, by (intro w hSw; (try dsimp only at hSw); go_simp; try omega)⟩) hHeld ?_
              simp only [Act.put, List.setIfInBounds_toArray, List.set_cons_zero, List.set_cons_succ]
              refine wpAnyH_take (i := 1) (oi := { dst := some 89, op := Op.fieldAddr 35 (Operand.tmp 6) 1, type := 0, pos := "law.go:220", after := #[], guard := none }) (v := .pointer (some ⟨Q, 1, none⟩)) rfl (by kernel_rfl) (by kernel_rfl) (by kernel_rfl) (fun _ _ _ h => h) (Or.inl ⟨by kernel_rfl, by (intro w hSw; (try dsimp only at hSw); go_simp; try omega)⟩) hHeld ?_
              simp only [Act.put, List.setIfInBounds_toArray, List.set_cons_zero, List.set_cons_succ]
              refine wpAnyH_take (i := 2) (oi := { dst := some 90, op := Op.load 3 (Operand.tmp 89), type := 3, pos := "law.go:220", after := #[{ on := 1, ground := Ground.data }], guard := none }) (v := .int .i64 p) rfl (by kernel_rfl) (by kernel_rfl) (by kernel_rfl) (fun _ _ _ h => h) (Or.inl ⟨by kernel_rfl, by (intro w hSw; (try dsimp only at hSw); go_simp; try omega)⟩) hHeld ?_
              simp only [Act.put, List.setIfInBounds_toArray, List.set_cons_zero, List.set_cons_succ]
              refine wpAnyH_take (i := 3) (oi := { dst := some 91, op := Op.fieldAddr 35 (Operand.tmp 6) 2, type := 0, pos := "law.go:220", after := #[], guard := none }) (v := .pointer (some ⟨Q, 2, none⟩)) rfl (by kernel_rfl) (by kernel_rfl) (by kernel_rfl) (fun _ _ _ h => h) (Or.inl ⟨by kernel_rfl, by (intro w hSw; (try dsimp only at hSw); go_simp; try omega)⟩) hHeld ?_
              simp only [Act.put, List.setIfInBounds_toArray, List.set_cons_zero, List.set_cons_succ]
              refine wpAnyH_take (i := 4) (oi := { dst := some 92, op := Op.load 3 (Operand.tmp 91), type := 3, pos := "law.go:220", after := #[{ on := 3, ground := Ground.data }], guard := none }) (v := .int .i64 n) rfl (by kernel_rfl) (by kernel_rfl) (by kernel_rfl) (fun _ _ _ h => h) (Or.inl ⟨by kernel_rfl, by (intro w hSw; (try dsimp only at hSw); go_simp; try omega)⟩) hHeld ?_
              simp only [Act.put, List.setIfInBounds_toArray, List.set_cons_zero, List.set_cons_succ]
              refine wpAnyH_take (i := 5) (oi := { dst := some 93, op := Op.fieldAddr 35 (Operand.tmp 6) 3, type := 0, pos := "law.go:220", after := #[], guard := none }) (v := .pointer (some ⟨Q, 3, none⟩)) rfl (by kernel_rfl) (by kernel_rfl) (by kernel_rfl) (fun _ _ _ h => h) (Or.inl ⟨by kernel_rfl, by (intro w hSw; (try dsimp only at hSw); go_simp; try omega)⟩) hHeld ?_
              simp only [Act.put, List.setIfInBounds_toArray, List.set_cons_zero, List.set_cons_succ]
              refine wpAnyH_take (i := 6) (oi := { dst := some 94, op := Op.load 3 (Operand.tmp 93), type := 3, pos := "law.go:220", after := #[{ on := 5, ground := Ground.data }], guard := none }) (v := .int .i64 d) rfl (by kernel_rfl) (by kernel_rfl) (by kernel_rfl) (fun _ _ _ h => h) (Or.inl ⟨by kernel_rfl, by (intro w hSw; (try dsimp only at hSw); go_simp; try omega)⟩) hHeld ?_
              simp only [Act.put, List.setIfInBounds_toArray, List.set_cons_zero, List.set_cons_succ]
              refine wpAnyH_take (i := 7) (oi := { dst := some 95, op := Op.fieldAddr 35 (Operand.tmp 6) 5, type := 0, pos := "law.go:220", after := #[], guard := none }) (v := .pointer (some ⟨Q, 5, none⟩)) rfl (by kernel_rfl) (by kernel_rfl) (by kernel_rfl) (fun _ _ _ h => h) (Or.inl ⟨by kernel_rfl, by (intro w hSw; (try dsimp only at hSw); go_simp; try omega)⟩) hHeld ?_
              simp only [Act.put, List.setIfInBounds_toArray, List.set_cons_zero, List.set_cons_succ]
              refine wpAnyH_take (i := 8) (oi := { dst := some 96, op := Op.load 22 (Operand.tmp 95), type := 22, pos := "law.go:220", after := #[{ on := 7, ground := Ground.data }], guard := none }) (v := .slice ma ML mc) rfl (by kernel_rfl) (by kernel_rfl) (by kernel_rfl) (fun _ _ _ h => h) (Or.inl ⟨by kernel_rfl, by (intro w hSw; (try dsimp only at hSw); go_simp; try omega)⟩) hHeld ?_
              simp only [Act.put, List.setIfInBounds_toArray, List.set_cons_zero, List.set_cons_succ]
              refine wpAnyH_ready (rs := [9]) (by kernel_rfl) (by simp) ?_
              refine AllReadyH.cons (o := { dst := some 97, op := Op.call { callee := Callee.value (Operand.func 10), args := #[Operand.tmp 96], argTypes := #[22] }, type := 22, pos := "law.go:220", after := #[{ on := 8, ground := Ground.data }], guard := none }) rfl (fun Kq hK => ?_) AllReadyH.nil
              go_simp
              refine (HCW.out _ (Keeps.refl _ w4).drew).mono ?_
              rintro e w5 ⟨G5, rfl, hB5, hk5⟩
              refine hK.out _ _ (HS.out w5 hk5.none) (fun hHeld => ?_)
              simp only [Act.put, List.setIfInBounds_toArray, List.set_cons_zero, List.set_cons_succ]
              refine wpAnyH_ready (rs := [10]) (by kernel_rfl) (by simp) ?_
              refine AllReadyH.cons (o := { dst := some 98, op := Op.call { callee := Callee.value (Operand.func 16), args := #[Operand.tmp 88, Operand.tmp 90, Operand.tmp 92, Operand.tmp 94, Operand.tmp 97], argTypes := #[28, 3, 3, 3, 22] }, type := 46, pos := "law.go:220", after := #[{ on := 0, ground := Ground.data }, { on := 2, ground := Ground.data }, { on := 4, ground := Ground.data }, { on := 6, ground := Ground.data }, { on := 9, ground := Ground.data }, { on := 9, ground := Ground.chain }], guard := none }) rfl (fun Kq hK => ?_) AllReadyH.nil
              go_simp
              refine (HPT.out w5 G5 hk5 hB5).mono ?_
              rintro e w6 ⟨rfl, hm6, hk6⟩
              refine hK.out _ _ (HS.out w6 hk6) (fun hHeld => ?_)
              simp only [Act.put, List.setIfInBounds_toArray, List.set_cons_zero, List.set_cons_succ]
              refine wpAnyH_take (i := 11) (oi := { dst := some 87, op := Op.move (Operand.tmp 98), type := 46, pos := "law.go:220", after := #[{ on := 10, ground := Ground.data }], guard := none }) (v := .tuple #[.bool B1, .int .i64 E1]) rfl (by kernel_rfl) (by kernel_rfl) (by kernel_rfl) (fun _ _ _ h => h) (Or.inl ⟨by kernel_rfl, by (intro w hSw; (try dsimp only at hSw); go_simp; try omega)⟩) hHeld ?_
              simp only [Act.put, List.setIfInBounds_toArray, List.set_cons_zero, List.set_cons_succ]
              refine wpAnyH_take (i := 12) (oi := { dst := some 99, op := Op.extract (Operand.tmp 87) 0, type := 4, pos := "law.go:220", after := #[{ on := 11, ground := Ground.data }], guard := none }) (v := .bool B1) rfl (by kernel_rfl) (by kernel_rfl) (by kernel_rfl) (fun _ _ _ h => h) (Or.inl ⟨by kernel_rfl, by (intro w hSw; (try dsimp only at hSw); go_simp; try omega)⟩) hHeld ?_
              simp only [Act.put, List.setIfInBounds_toArray, List.set_cons_zero, List.set_cons_succ]
              refine wpAnyH_take (i := 13) (oi := { dst := some 100, op := Op.extract (Operand.tmp 87) 1, type := 29, pos := "law.go:220", after := #[{ on := 11, ground := Ground.data }, { on := 14, ground := Ground.gcOnly Departure.lateStores }], guard := none }) (v := .int .i64 E1) rfl (by kernel_rfl) (by kernel_rfl) (by kernel_rfl) (fun _ _ _ h => h) (Or.inl ⟨by kernel_rfl, by (intro w hSw; (try dsimp only at hSw); go_simp; try omega)⟩) hHeld ?_
              simp only [Act.put, List.setIfInBounds_toArray, List.set_cons_zero, List.set_cons_succ]
              refine wpAnyH_take (i := 14) (oi := { dst := some 11, op := Op.assign (Operand.tmp 99), type := 4, pos := "law.go:220", after := #[{ on := 12, ground := Ground.data }, { on := 10, ground := Ground.chain }, { on := 0, ground := Ground.phase }, { on := 1, ground := Ground.phase }, { on := 2, ground := Ground.phase }, { on := 3, ground := Ground.phase }, { on := 4, ground := Ground.phase }, { on := 5, ground := Ground.phase }, { on := 6, ground := Ground.phase }, { on := 7, ground := Ground.phase }, { on := 8, ground := Ground.phase }, { on := 9, ground := Ground.phase }, { on := 10, ground := Ground.phase }, { on := 11, ground := Ground.phase }, { on := 12, ground := Ground.phase }, { on := 13, ground := Ground.textOnly Departure.lateStores }], guard := none }) (v := .bool B1) rfl (by kernel_rfl) (by kernel_rfl) (by kernel_rfl) (fun _ _ _ h => h) (Or.inl ⟨by kernel_rfl, by (intro w hSw; (try dsimp only at hSw); go_simp; try omega)⟩) hHeld ?_
              simp only [Act.put, List.setIfInBounds_toArray, List.set_cons_zero, List.set_cons_succ]
              refine wpAnyH_take (i := 15) (oi := { dst := some 12, op := Op.assign (Operand.tmp 100), type := 29, pos := "law.go:220", after := #[{ on := 13, ground := Ground.data }, { on := 14, ground := Ground.chain }, { on := 0, ground := Ground.phase }, { on := 1, ground := Ground.phase }, { on := 2, ground := Ground.phase }, { on := 3, ground := Ground.phase }, { on := 4, ground := Ground.phase }, { on := 5, ground := Ground.phase }, { on := 6, ground := Ground.phase }, { on := 7, ground := Ground.phase }, { on := 8, ground := Ground.phase }, { on := 9, ground := Ground.phase }, { on := 10, ground := Ground.phase }, { on := 11, ground := Ground.phase }, { on := 12, ground := Ground.phase }, { on := 13, ground := Ground.phase }, { on := 14, ground := Ground.phase }], guard := none }) (v := .int .i64 E1) rfl (by kernel_rfl) (by kernel_rfl) (by kernel_rfl) (fun _ _ _ h => h) (Or.inl ⟨by kernel_rfl, by (intro w hSw; (try dsimp only at hSw); go_simp; try omega)⟩) hHeld ?_
              simp only [Act.put, List.setIfInBounds_toArray, List.set_cons_zero, List.set_cons_succ]
              refine wpAnyH_done (by kernel_rfl) ?_ _
              clear hHeld
              clear hS
              cases B1 with
              | true =>
                have hE := HEB.out.1 rfl
                subst hE
                have HF : Hid (OwnP xs (ptX false xs p n d ms) true p T2 ∧ Mm w6 b g (ptX false xs p n d ms) ∧ Keeps (· = g) w4 w6) := ⟨HOW.out.1, hm6, hk6⟩
                clear hm6 hk6 hB5 hk5
                go_wp2
                go_meet
                exact ⟨true, T2, _, rfl, rfl, HF.out⟩
              | false =>
                have HF : Hid (OwnP xs (ptX false xs p n d ms) false p T2 ∧ Mm w6 b g (ptX false xs p n d ms) ∧ Keeps (· = g) w4 w6) := ⟨HOW.out.1, hm6, hk6⟩
                clear hm6 hk6 hB5 hk5
                go_wp2
                go_meet
                exact ⟨false, T2, _, rfl, rfl, HF.out⟩
            · have k0' : (kd == 0) = false := beq_eq_false_iff_ne.2 k0
              clear k0
              by_cases k4 : kd = 4
              · have k4' : (kd == 4) = true := beq_iff_eq.2 k4
                clear k4
                go_wp2_with fail
                refine HTK.out.mono ?_
                rintro e w6 ⟨rfl, hm6, hk6⟩
                cases B2 with
                | true =>
                  have hE := HEB.out.2 rfl
                  subst hE
                  have HF : Hid (OwnP xs (tkX false xs p n d) true p T1 ∧ Mm w6 b g (tkX false xs p n d) ∧ Keeps (· = g) w4 w6) := ⟨HOW.out.2, hm6, hk6⟩
                  clear hm6 hk6
                  go_wp2
                  go_meet
                  exact ⟨true, T1, _, rfl, rfl, HF.out⟩
                | false =>
                  have HF : Hid (OwnP xs (tkX false xs p n d) false p T1 ∧ Mm w6 b g (tkX false xs p n d) ∧ Keeps (· = g) w4 w6) := ⟨HOW.out.2, hm6, hk6⟩
                  clear hm6 hk6
                  go_wp2
                  go_meet
                  exact ⟨false, T1, _, rfl, rfl, HF.out⟩
              · have k4' : (kd == 4) = false := beq_eq_false_iff_ne.2 k4
                by_cases k3 : kd = 3
                · have k3' : (kd == 3) = true := beq_iff_eq.2 k3
                  clear k3 k4
                  go_wp2_with fail
                  refine HLK.out.mono ?_
                  rintro e w6 ⟨v6, rfl, hk6⟩
                  have HF : Hid (Mm w6 b g xs ∧ Keeps (· = g) w4 w6) := ⟨H4.out.2.2.1.kept hk6 (fun e => e) (fun e => e), hk6.none⟩
                  clear hk6
                  go_wp2
                  go_meet
                  exact ⟨false, T1, xs, rfl, rfl, same_own _ _ _, HF.out⟩
                · have k3' : (kd == 3) = false := beq_eq_false_iff_ne.2 k3
                  by_cases k5 : kd = 5
                  · have k5' : (kd == 5) = true := beq_iff_eq.2 k5
                    clear k5 k3 k4
                    go_wp2_with fail
                    refine HCN.out.mono ?_
                    rintro e w6 ⟨v6, rfl, hk6⟩
                    have HF : Hid (Mm w6 b g xs ∧ Keeps (· = g) w4 w6) := ⟨H4.out.2.2.1.kept hk6 (fun e => e) (fun e => e), hk6.none⟩
                    clear hk6
                    go_wp2
                    go_meet
                    exact ⟨false, T1, xs, rfl, rfl, same_own _ _ _, HF.out⟩
                  · have k5' : (kd == 5) = false := beq_eq_false_iff_ne.2 k5
                    clear k3 k4 k5
                    go_wp2_with fail
                    refine HST.out.mono ?_
                    rintro e w6 ⟨v6, rfl, hk6⟩
                    have HF : Hid (Mm w6 b g xs ∧ Keeps (· = g) w4 w6) := ⟨H4.out.2.2.1.kept hk6 (fun e => e) (fun e => e), hk6.none⟩
                    clear hk6
                    go_wp2
                    go_meet
                    exact ⟨false, T1, xs, rfl, rfl, same_own _ _ _, HF.out⟩
        case rest =>
          as_aux_lemma =>
            obtain ⟨Db, T, ys, rfl, rfl, hOw, hmc, hkc⟩ := hcut
            have HWB : Hid (Calls Try.prog 14 #[.pointer (some ⟨b, 0, none⟩)] wc fun e w' => e = .returned (.slice (some ⟨wc.heap.size, 0, none⟩) M M) ∧ Blk w' wc.heap.size (wvs ys) 52 ∧ Keeps (fun _ => False) wc w') := by
              have q := words_any b g ys wc hmc
              rw [hOw.len, HX.out.2.1] at q
              exact q
            have HC1 : Hid (OwnP xs ys Db p T ∧ Mm wc b g ys ∧ Keeps (· = g) w4 wc) := ⟨hOw, hmc, hkc⟩
            clear hOw hmc hkc HPT HTK HLK HCN HST HCW HEB HOW HS q0 q1 q2 q3 q4 q5 x0 x1 x2 kb1 kb2 d0 d1 d4 d5 xK n1 n2 n3 n4 hfit
            go_wp2_with fail
            refine HWB.out.mono ?_
            rintro e w7 ⟨rfl, hb7, hk7⟩
            obtain ⟨Z, hZ⟩ : ∃ Z, Z = wc.heap.size := ⟨_, rfl⟩
            rw [← hZ] at hb7 ⊢
            have H7 : Hid (Blk w7 A (wvs xs) 52 ∧ Blk w7 Z (wvs ys) 52 ∧ Mm w7 b g ys ∧ Blk w7 C0 cv 25 ∧ Keeps (fun k => w.heap.size ≤ k) w w7 ∧ OwnP xs ys Db p T ∧ xs.length = M ∧ ys.length = M) := by
              have k1 := HC1.out.2.2
              refine ⟨(H4.out.2.1.kept k1 (by have := H4.out; omega)).kept hk7 (fun e => e), hb7, HC1.out.2.1.kept hk7 (fun e => e) (fun e => e), (H4.out.2.2.2.1.kept k1 (by have := H4.out; omega)).kept hk7 (fun e => e), (H4.out.1.trans k1 fun b hb e => by have := H4.out; omega).trans hk7 fun _ _ e => e.elim, HC1.out.1, HX.out.2.1, by rw [HC1.out.1.len]; exact HX.out.2.1⟩
            have hMz : (M : Int) ≤ 16384 := by have := HLN.out; omega
            clear hb7 hk7 hZ HWB HC1
            go_wp2
            go_loopw [16, 17] (fun ch i wx => ∃ (k : Nat) (cb : Bool), k ≤ M ∧ ch = .bool cb ∧ i = .int .i64 k ∧ (cb = true ↔ ∃ j, j < k ∧ wd xs j ≠ wd ys j) ∧ Keeps (fun _ => False) w7 wx) (fun _ i _ => M - (intOf i).toNat)
            case atStart => exact ⟨0, false, by omega, rfl, rfl, ⟨fun h => (by cases h), fun ⟨j, hj, _⟩ => (by omega)⟩, Keeps.refl _ _⟩
            case round =>
              obtain ⟨k, cb, hk, rfl, rfl, hcb, hkx⟩ := hrel
              by_cases hlt : k < M
              · have hlt' : (k : Int) < (M : Int) := by omega
                have c1 := (H7.out.1.kept hkx fun e => e).cell (wvs_wd (l := xs) (i := k) (by have := H7.out.2.2.2.2.2.2.1; omega))
                have c2 := (H7.out.2.1.kept hkx fun e => e).cell (wvs_wd (l := ys) (i := k) (by have := H7.out.2.2.2.2.2.2.2; omega))
                by_cases he : wd xs k = wd ys k
                · have HR : Hid ((cb = true ↔ ∃ j, j < k + 1 ∧ wd xs j ≠ wd ys j) ∧ Keeps (fun _ => False) w7 wr) := by
                    refine ⟨hcb.trans ⟨fun ⟨j, h1, h2⟩ => ⟨j, by omega, h2⟩, fun ⟨j, h1, h2⟩ => ⟨j, ?_, h2⟩⟩, hkx⟩
                    by_cases hjk : j = k
                    · subst hjk; exact absurd he h2
                    · omega
                  rw [he] at c1
                  obtain ⟨u, hu⟩ : ∃ u, u = (wd ys k).toNat := ⟨_, rfl⟩
                  rw [← hu] at c1 c2
                  clear hcb hkx he hu hk
                  go_wp2
                  go_quiet (fail)
                  go_wp2
                  go_roundw
                  case rel => exact ⟨k + 1, cb, by omega, rfl, by go_num, HR.out.1, HR.out.2.drewN _⟩
                  case measure => simp [intOf]; omega
                · have hDt : Db = true := by
                    cases hD : Db with
                    | true => rfl
                    | false =>
                      have := H7.out.2.2.2.2.2.1.no hD
                      rw [this] at he
                      exact absurd rfl he
                  have hin := H7.out.2.2.2.2.2.1.inn hDt k (by have := H7.out.2.2.2.2.2.2.1; omega) he
                  have HR : Hid (Keeps (fun _ => False) w7 wr ∧ wd xs k ≠ wd ys k) := ⟨hkx, he⟩
                  have hne : ((((wd xs k).toNat : Nat) : Int) == (((wd ys k).toNat : Nat) : Int)) = false := beq_eq_false_iff_ne.2 fun e => he (UInt32.toNat_inj.1 (by omega))
                  obtain ⟨u, hu⟩ : ∃ u, u = (wd xs k).toNat := ⟨_, rfl⟩
                  obtain ⟨v, hv⟩ : ∃ u, u = (wd ys k).toNat := ⟨_, rfl⟩
                  rw [← hu] at c1 hne
                  rw [← hv] at c2 hne
                  have i1 : ¬ (k : Int) < p := by omega
                  have i2 : ¬ T ≤ (k : Int) := by omega
                  subst hDt
                  clear hcb hkx he hu hv hk hin
                  go_wp2
                  go_quiet (fail)
                  go_wp2
                  go_roundw
                  case rel => exact ⟨k + 1, true, by omega, rfl, by go_num, ⟨fun _ => ⟨k, by omega, HR.out.2⟩, fun _ => rfl⟩, HR.out.1.drewN _⟩
                  case measure => simp [intOf]; omega
              · obtain rfl : M = k := by omega
                have HR : Hid (Mm wr b g ys ∧ Blk wr C0 cv 25 ∧ Keeps (fun k => w.heap.size ≤ k) w wr ∧ ys.length = M) := ⟨H7.out.2.2.1.kept hkx (fun e => e) (fun e => e), H7.out.2.2.2.1.kept hkx (fun e => e), H7.out.2.2.2.2.1.trans hkx fun _ _ e => e.elim, H7.out.2.2.2.2.2.2.2⟩
                have hDc : Db = true → cb = true := fun hD => by
                  obtain ⟨j, h1, h2⟩ := H7.out.2.2.2.2.2.1.yes hD
                  exact hcb.2 ⟨j, by have := H7.out.2.2.2.2.2.2.1; omega, h2⟩
                clear hcb hkx hk
                cases Db with
                | false =>
                  clear hDc
                  go_wp2
                  go_roundw
                  case rel => exact ⟨j + 1, ys, by omega, by go_num, HR.out.2.2.2, HR.out.1, HR.out.2.1, HR.out.2.2.1⟩
                  case measure => simp [intOf]; omega
                | true =>
                  have hcb := hDc rfl
                  subst hcb
                  clear hDc
                  go_wp2
                  go_roundw
                  case rel => exact ⟨j + 1, ys, by omega, by go_num, HR.out.2.2.2, HR.out.1, HR.out.2.1, HR.out.2.2.1⟩
                  case measure => simp [intOf]; omega
    · obtain rfl : OL = j := by omega
      have HAW : Hid (Calls _ _ _ _ _) := awake_any wr
      have HR : Hid (Keeps (fun k => w.heap.size ≤ k) w wr) := hkr
      clear hmr hbC hkr hxM hj
      go_wp2_with fail
      refine HAW.out.mono ?_
      rintro e w9 ⟨rfl, hk9⟩
      have HK9 : Hid (Keeps _ _ _) := hk9
      clear hk9 HAW
      go_wp2
      go_ret
      exact ⟨rfl, (HR.out.trans HK9.out fun _ _ e => e.elim).mono fun b hb e => by omega⟩

end Go.Proofs.Ytekijhhpldnmnaa
