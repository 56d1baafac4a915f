import Derived.Test.YthaoopaafdgioaaKf
namespace Go.Proofs.Ythaoopaafdgioaa
open Go.RowKit
set_option linter.unusedVariables false
set_option linter.unusedSimpArgs false
set_option maxRecDepth 8000

set_option maxHeartbeats 16000000 in
theorem layoutKeeps_any (x : Cfg) (w : World) (N : Nat) (hi : x.In w N) (hN : N ≤ w.heap.size) :
    Calls Try.prog 8 #[x.v] w fun e w' => e = .returned (.bool true) ∧ Keeps (fun _ => False) w w' := by
  obtain ⟨W, hW⟩ : ∃ W, W = x.laid w := ⟨_, rfl⟩
  obtain ⟨C, hC⟩ : ∃ C, C = w.heap.size := ⟨_, rfl⟩
  have HO : Hid (One w x C N W) := by rw [hW, hC]; exact One.mk' hi hN
  clear hi hN
  unfold Cfg.laid at hW
  go_enter Try.func8, Try.ntmps8
  go_upto_region 1 with fail
  rw [← hW, ← hC]
  clear hW hC
  obtain ⟨q0, q1, q2, q3, q4, q5, q6⟩ := HO.out.cells
  have HC1 : Hid (Calls Try.prog 10 #[x.v] W (OfP x W)) := rOf_any x W N HO.out.cin HO.out.nn
  go_wp2_with fail
  refine HC1.out.mono ?_
  rintro e w1 hP
  have hK := hP.1
  obtain ⟨A0, E0, er, z1, L0, z2, H0, F0, G0, T0, D0, rfl, hR⟩ := hP.lettersC
  obtain ⟨W1, hW1⟩ : ∃ W1, W1 = w1.alloc (.cells #[.int .i64 A0, .slice z1 L0 L0, .slice z2 H0 H0, .int .i64 E0] 30) := ⟨_, rfl⟩
  obtain ⟨E1, hE1⟩ : ∃ E, E = w1.heap.size := ⟨_, rfl⟩
  have HW1 : Hid (One w x C N W1 ∧ LC x W.heap.size A0 E0 er z1 L0 z2 H0 F0 G0 T0 D0 W1 ∧ Blk W1 E1 [.int .i64 A0, .slice z1 L0 L0, .slice z2 H0 H0, .int .i64 E0] 30) := by
    have k1 : Keeps (fun _ => False) w1 W1 := by rw [hW1]; exact (Keeps.refl _ _).alloc _
    exact ⟨(HO.out.kept hK).kept k1, hR.grow k1, by rw [hW1, hE1]; exact Blk.new _ _ _⟩
  clear hP hK hR HC1 q0 q1 q2 q3 q4 q5 q6
  go_upto_region 2 with fail
  rw [← hW1, ← hE1]
  clear hW1 hE1 HO
  obtain ⟨q0, q1, q2, q3, q4, q5, q6⟩ := HW1.out.1.cells
  have HC2 : Hid (Calls Try.prog 9 #[x.v] W1 (OfQ x W1)) := Of_anyQ x W1 N HW1.out.1.cin HW1.out.1.nn
  go_wp2_with fail
  refine HC2.out.mono ?_
  rintro e w2 hP
  have hK := hP.1
  obtain ⟨A, En, er2, a1, L, a2, H, F, G, T, D, rfl, hR, hpf, hpg⟩ := hP.lettersC
  have e12 := (hR.same (HW1.out.2.1.grow hK)).1
  subst e12
  obtain ⟨W2, hW2⟩ : ∃ W2, W2 = w2.alloc (.cells #[.int .i64 A, .slice a1 L L, .slice a2 H H, .int .i64 En] 30) := ⟨_, rfl⟩
  obtain ⟨E2, hE2⟩ : ∃ E, E = w2.heap.size := ⟨_, rfl⟩
  have HW2 : Hid (Keeps (fun _ => False) W1 W2 ∧ LC x W1.heap.size A En er2 a1 L a2 H F G T D W2 ∧ Blk W2 E2 [.int .i64 A, .slice a1 L L, .slice a2 H H, .int .i64 En] 30 ∧ PwF L F ∧ PwG H G) := by
    have k1 : Keeps (fun _ => False) w2 W2 := by rw [hW2]; exact (Keeps.refl _ _).alloc _
    exact ⟨hK.trans k1 fun _ _ e => e, hR.grow k1, by rw [hW2, hE2]; exact Blk.new _ _ _, hpf, hpg⟩
  clear hP hK hR HC2 q0 q1 q2 q3 q4 q5 q6 hpf hpg
  go_upto_region 3 with fail
  rw [← hW2, ← hE2]
  clear hW2 hE2
  have HO2 : Hid (One w x C N W2) := HW1.out.1.kept HW2.out.1
  obtain ⟨q0, q1, q2, q3, q4, q5, q6⟩ := HO2.out.cells
  have HC3 : Hid (Calls Try.prog 9 #[x.v] W2 (OfQ x W2)) := Of_anyQ x W2 N HO2.out.cin HO2.out.nn
  go_wp2_with fail
  refine HC3.out.mono ?_
  rintro e w3 hP
  have hK := hP.1
  obtain ⟨B, Fn, er3, d1, L2, d2, H2, F2, G2, T2, D2, rfl, hR, _, _⟩ := hP.lettersC
  have e12 := (hR.same (HW2.out.2.1.grow hK)).1
  subst e12
  obtain ⟨W3, hW3⟩ : ∃ W3, W3 = w3.alloc (.cells #[.int .i64 B, .slice d1 L2 L2, .slice d2 H2 H2, .int .i64 Fn] 30) := ⟨_, rfl⟩
  obtain ⟨E3, hE3⟩ : ∃ E, E = w3.heap.size := ⟨_, rfl⟩
  have HW3 : Hid (Keeps (fun _ => False) W2 W3 ∧ LC x W2.heap.size B Fn er3 d1 L2 d2 H2 F2 G2 T2 D2 W3 ∧ Blk W3 E3 [.int .i64 B, .slice d1 L2 L2, .slice d2 H2 H2, .int .i64 Fn] 30) := by
    have k1 : Keeps (fun _ => False) w3 W3 := by rw [hW3]; exact (Keeps.refl _ _).alloc _
    exact ⟨hK.trans k1 fun _ _ e => e, hR.grow k1, by rw [hW3, hE3]; exact Blk.new _ _ _⟩
  clear hP hK hR HC3 q0 q1 q2 q3 q4 q5 q6
  go_upto_region 4 with fail
  rw [← hW3, ← hE3]
  clear hW3 hE3 HO2

  obtain ⟨kw13, hwB⟩ : Keeps (fun _ => False) W1 W3 ∧ True := ⟨HW2.out.1.trans HW3.out.1 fun _ _ e => e, trivial⟩
  have HS1 : Hid (Calls Try.prog 13 #[.agg #[.int .i64 A, .slice a1 L L, .slice a2 H H, .int .i64 En], .agg #[.int .i64 A0, .slice z1 L0 L0, .slice z2 H0 H0, .int .i64 E0]] W3 fun e w' => e = .returned (.bool true) ∧ Keeps (fun _ => False) W3 w') := ((HW2.out.2.1.grow HW3.out.1).same (HW1.out.2.1.grow kw13)).2
  have bz := HW1.out.2.2.kept kw13 fun e => e
  have ba := HW2.out.2.2.1.kept HW3.out.1 fun e => e
  have z0 := bz.cell (i := 0) rfl
  have z1' := bz.cell (i := 1) rfl
  have z2' := bz.cell (i := 2) rfl
  have z3 := bz.cell (i := 3) rfl
  have s0 := ba.cell (i := 0) rfl
  have s1 := ba.cell (i := 1) rfl
  have s2 := ba.cell (i := 2) rfl
  have s3 := ba.cell (i := 3) rfl
  clear bz ba kw13 hwB
  go_wp2_with fail
  refine HS1.out.mono ?_
  rintro e w4 ⟨rfl, hK4⟩
  obtain ⟨lt, hlt⟩ : ∃ lt : Nat → Nat, lt = fun i => (T i).length := ⟨_, rfl⟩
  obtain ⟨ld, hld⟩ : ∃ ld : Nat → Nat, ld = fun i => (D i).length := ⟨_, rfl⟩
  obtain ⟨of, hof⟩ : ∃ of : Nat → Nat, of = fun i => sumN lt (min i L) := ⟨_, rfl⟩
  obtain ⟨og, hog⟩ : ∃ og : Nat → Nat, og = fun i => sumN lt L + sumN ld (min i H) := ⟨_, rfl⟩
  have k24 : Keeps (fun _ => False) W2 w4 := HW3.out.1.trans hK4 fun _ _ e => e
  have hLC4 := HW2.out.2.1.grow k24
  have hrw := hLC4.rows
  have hLH : L ≤ 8 ∧ H ≤ 16 := ⟨hrw.2.2.2.1, hrw.2.2.2.2.1⟩
  have HFN : Hid ((∀ i, i < L → lt i ≤ 16) ∧ (∀ i, i < H → ld i ≤ 4) ∧ of 0 = 0 ∧ (∀ i, i < L → of (i + 1) = of i + lt i) ∧ og 0 = of L ∧ (∀ i, i < H → og (i + 1) = og i + ld i) ∧ (∀ i, of i ≤ 1000) ∧ (∀ i, og i ≤ 1000)) := by
    have b1 : ∀ i, i < L → lt i ≤ 16 := fun i hi => by rw [hlt]; exact hrw.2.2.2.2.2.1 i hi
    have b2 : ∀ i, i < H → ld i ≤ 4 := fun i hi => by rw [hld]; exact hrw.2.2.2.2.2.2 i hi
    have c1 : ∀ i, sumN lt (min i L) ≤ 128 := fun i => by
      have := sumN_le (f := lt) (n := min i L) fun q hq => b1 q (by omega)
      omega
    have c2 : ∀ i, sumN ld (min i H) ≤ 64 := fun i => by
      have := sumN_le (f := ld) (n := min i H) fun q hq => b2 q (by omega)
      omega
    refine ⟨b1, b2, by rw [hof]; simp [sumN], fun i hi => ?_, by rw [hog, hof]; simp [sumN], fun i hi => ?_, fun i => by rw [hof]; have := c1 i; dsimp only; omega, fun i => by rw [hog]; have := c1 L; have := c2 i; rw [Nat.min_self] at *; dsimp only; omega⟩
    · rw [hof]; dsimp only; rw [Nat.min_eq_left (by omega), Nat.min_eq_left (by omega)]; rfl
    · rw [hog]; dsimp only; rw [Nat.min_eq_left (by omega), Nat.min_eq_left (by omega)]; show sumN lt L + (sumN ld i + ld i) = _; omega
  have HLC : Hid (LC x W1.heap.size A En er3 a1 L a2 H F G T D w4 ∧ PwF L F ∧ PwG H G ∧ Keeps (fun _ => False) W1 w4 ∧ LC x W2.heap.size B Fn er3 d1 L2 d2 H2 F2 G2 T2 D2 w4 ∧ Blk w4 E2 [.int .i64 A, .slice a1 L L, .slice a2 H H, .int .i64 En] 30 ∧ Blk w4 E3 [.int .i64 B, .slice d1 L2 L2, .slice d2 H2 H2, .int .i64 Fn] 30 ∧ ∀ b, InB L H F G b → W1.heap.size ≤ b ∧ b < W2.heap.size) :=
    ⟨hLC4, HW2.out.2.2.2.1, HW2.out.2.2.2.2, HW2.out.1.trans k24 fun _ _ e => e, HW3.out.2.1.grow hK4, HW2.out.2.2.1.kept k24 fun e => e, HW3.out.2.2.kept hK4 fun e => e, HW2.out.2.1.rows.2.2.1⟩
  have HM0 : Hid (Mk w4 L H F G lt ld of og 0 0 0 0 w4) := ⟨fun i hi => ⟨_, by rw [hlt]; exact hrw.1 i hi, fun q _ h => by omega⟩, fun i hi => ⟨_, by rw [hld]; exact hrw.2.1 i hi, fun q _ h => by omega⟩, Keeps.refl _ _⟩
  have HCA : Hid (∀ w', Keeps (InB L H F G) w4 w' → Blk w' E2 [.int .i64 A, .slice a1 L L, .slice a2 H H, .int .i64 En] 30 ∧ (∀ i, i < L → ∃ b1, a1 = some ⟨b1, 0, none⟩ ∧ w'.cell? ⟨b1, i * 5 + 4, none⟩ = some (F i).tv) ∧ (∀ i, i < H → ∃ b2, a2 = some ⟨b2, 0, none⟩ ∧ w'.cell? ⟨b2, i * 5 + 4, none⟩ = some (G i).dv)) := fun w' hK => by
    have ho := HLC.out.1.outer hK
    refine ⟨HLC.out.2.2.2.2.2.1.kept hK fun hI => ?_, fun i hi => ?_, fun i hi => ?_⟩
    · rcases hI with ⟨i, hi, e⟩ | ⟨i, hi, e⟩
      · exact own_blk_ne (HLC.out.1.rows.1 i hi) HLC.out.2.2.2.2.2.1 (by decide) e
      · exact own_blk_ne (HLC.out.1.rows.2.1 i hi) HLC.out.2.2.2.2.2.1 (by decide) e
    · obtain ⟨b, e, hB⟩ := ho.2.2.1 i hi
      exact ⟨b, e, hB.cell (by rw [row5_get (fun i => PP.vs5 _) hi (by omega)]; rfl)⟩
    · obtain ⟨b, e, hB⟩ := ho.2.2.2 i hi
      exact ⟨b, e, hB.cell (by rw [row5_get (fun i => CP.vs5 _) hi (by omega)]; rfl)⟩
  have hL8 : (L : Int) ≤ 8 := by omega
  have hH16 : (H : Int) ≤ 16 := by omega
  clear hK4 HS1 z0 z1' z2' z3 s0 s1 s2 s3 hrw hLC4 k24 hlt hld hof hog hLH HW2 HW3
  have s1 := (HCA.out w4 (Keeps.refl _ _)).1.cell (i := 1) rfl
  go_wp2
  clear s1

  go_loopw [9, 48] (fun n i wr => ∃ j : Nat, j ≤ L ∧ i = .int .i64 j ∧ n = .int .i64 ((of j : Nat) : Int) ∧ Mk w4 L H F G lt ld of og j 0 0 0 wr) (fun _ i _ => L - (intOf i).toNat)
  case atStart => exact ⟨0, by omega, rfl, by rw [HFN.out.2.2.1]; rfl, HM0.out⟩
  case round =>
    obtain ⟨j, hj, rfl, rfl, hMr⟩ := hrel
    by_cases hltj : j < L
    · obtain ⟨hBC, hc1, hc2⟩ := HCA.out wr hMr.kp
      have l1 := hBC.cell (i := 1) rfl
      obtain ⟨bb, ha1, r4⟩ := hc1 j hltj
      rw [ha1] at l1
      obtain ⟨tl, htl⟩ : ∃ tl, lt j = tl := ⟨_, rfl⟩
      obtain ⟨fj, hfj⟩ : ∃ fj, of j = fj := ⟨_, rfl⟩
      have oU : ∃ Y, wr.ownsRow 0 3 1 (F j).tv (lt j) Y := by obtain ⟨Y, h1, _⟩ := hMr.t j hltj; exact ⟨Y, h1⟩
      obtain ⟨Y0, hY0⟩ := oU
      obtain ⟨ta, tcap, hU, htc1, htc2⟩ := own_slice hY0
      rw [htl] at hU htc1
      rw [hU] at r4
      unfold maxLen at htc2
      have hll := HFN.out.1 j hltj
      have hfb := HFN.out.2.2.2.2.2.2.1 j
      have hfs := HFN.out.2.2.2.1 j hltj
      rw [htl] at hll hfs
      rw [hfj] at hfb hfs ⊢
      have HJ : Hid (j < L ∧ of (j + 1) = fj + tl ∧ fj ≤ 1000 ∧ tl ≤ 16 ∧ lt j = tl ∧ of j = fj ∧ a1 = some ⟨bb, 0, none⟩ ∧ (F j).tv = .slice ta tl tcap) := ⟨hltj, hfs, by omega, by omega, htl, hfj, ha1, hU⟩
      have HMs : Hid (Mk w4 L H F G lt ld of og j 0 0 0 wr) := hMr
      have hltj' : (j : Int) < L := by omega
      have htc : (tl : Int) ≤ tcap ∧ (tcap : Int) ≤ 9223372036854775807 := by omega
      obtain ⟨Wj, hWj⟩ : ∃ Wj, Wj = wr := ⟨_, rfl⟩
      subst hWj
      clear hBC hc1 hc2 ha1 hY0 hU htl hfj htc1 htc2 hll hfb hfs hMr
      go_wp2
      clear l1 r4
      go_loopw [9, 58] (fun n i wr => ∃ k : Nat, k ≤ tl ∧ i = .int .i64 k ∧ n = .int .i64 ((fj + k : Nat) : Int) ∧ Mk w4 L H F G lt ld of og j k 0 0 wr) (fun _ i _ => tl - (intOf i).toNat)
      case atStart => exact ⟨0, by omega, rfl, rfl, HMs.out⟩
      case round =>
        obtain ⟨k, hk, rfl, rfl, hMk⟩ := hrel
        have HMr : Hid (Mk w4 L H F G lt ld of og j k 0 0 wr) := hMk
        by_cases hltk : k < tl
        · have hltk' : (k : Int) < tl := by omega
          obtain ⟨hBC, hc1, hc2⟩ := HCA.out wr hMk.kp
          have l1 := hBC.cell (i := 1) rfl
          obtain ⟨b3, ha3, r4⟩ := hc1 j HJ.out.1
          rw [HJ.out.2.2.2.2.2.2.1] at ha3 l1
          obtain rfl : bb = b3 := by injection ha3 with q; injection q
          obtain ⟨nv, hnv⟩ : ∃ nv : Int, ((of j + k + 1 : Nat) : Int) = nv := ⟨_, rfl⟩
          obtain ⟨n0, hn0⟩ : ∃ n0 : Int, ((fj + k : Nat) : Int) = n0 := ⟨_, rfl⟩
          rw [hn0]
          have w1 : IntKind.i64.wrap (n0 + 1) = nv := by rw [IntKind.wrap_i64]; have := HJ.out; omega
          have w2 : IntKind.i64.wrap (-nv) = -nv := by rw [IntKind.wrap_i64]; have := HJ.out; omega
          have hltk : k < lt j := by rw [HJ.out.2.2.2.2.1]; exact hltk
          obtain ⟨g, cap, hv, ⟨v0, y0⟩, g0, hM2⟩ := HMr.out.setT HLC.out.2.1 HJ.out.1 hltk
          rw [hnv] at hM2
          have HM2 : Hid (Mk w4 L H F G lt ld of og j (k + 1) 0 0 (wr.setCell ⟨g, k, none⟩ (.int .i64 (-nv)))) := hM2
          have hv2 := HJ.out.2.2.2.2.2.2.2
          rw [hv, HJ.out.2.2.2.2.1] at hv2
          rw [hv, HJ.out.2.2.2.2.1] at r4
          injection hv2 with q1 q2 q3
          subst q1 q3
          have HNV : Hid (nv = ((fj + (k + 1) : Nat) : Int) ∧ k < tl) := ⟨by have := HJ.out; omega, by have := HJ.out; omega⟩
          clear hBC hc1 hc2 ha3 hv hnv hn0 hk hltk hMk hM2
          go_wp2
          go_roundw
          case rel => exact ⟨k + 1, by have := HNV.out.2; omega, by go_num, by rw [HNV.out.1], HM2.out⟩
          case measure => have := HNV.out.2; simp [intOf]; omega
        · obtain rfl : tl = k := by omega
          have HMn : Hid (Mk w4 L H F G lt ld of og (j + 1) 0 0 0 wr) := by
            have h1 := hMk
            rw [← HJ.out.2.2.2.2.1] at h1
            exact h1.nextT
          clear hk hltk hMk HMr
          go_wp2
          go_roundw
          case rel => exact ⟨j + 1, by have := HJ.out; omega, by go_num, by rw [HJ.out.2.1], HMn.out⟩
          case measure => have := HJ.out; simp [intOf]; omega
    · obtain rfl : L = j := by omega
      have HM1 : Hid (Mk w4 L H F G lt ld of og L 0 0 0 wr) := hMr
      have s2 := (HCA.out wr hMr.kp).1.cell (i := 2) rfl
      have hogL : of L = og 0 := HFN.out.2.2.2.2.1.symm
      rw [hogL]
      clear hj hltj hMr hogL
      obtain ⟨Wm, hWm⟩ : ∃ Wm, Wm = wr := ⟨_, rfl⟩
      subst hWm
      obtain ⟨og0, hog0⟩ : ∃ v, og 0 = v := ⟨_, rfl⟩
      rw [hog0]
      have HOG : Hid (og 0 = og0) := hog0
      clear hog0
      go_wp2
      clear s2
      go_loopw [9, 78] (fun n i wr => ∃ j : Nat, j ≤ H ∧ i = .int .i64 j ∧ n = .int .i64 ((og j : Nat) : Int) ∧ Mk w4 L H F G lt ld of og L 0 j 0 wr) (fun _ i _ => H - (intOf i).toNat)
      case atStart => exact ⟨0, by omega, rfl, by rw [HOG.out], HM1.out⟩
      case round =>
        obtain ⟨j, hj, rfl, rfl, hMr⟩ := hrel
        by_cases hltj : j < H
        · obtain ⟨hBC, hc1, hc2⟩ := HCA.out wr hMr.kp
          have l1 := hBC.cell (i := 2) rfl
          obtain ⟨bb, ha1, r4⟩ := hc2 j hltj
          rw [ha1] at l1
          obtain ⟨tl, htl⟩ : ∃ tl, ld j = tl := ⟨_, rfl⟩
          obtain ⟨fj, hfj⟩ : ∃ fj, og j = fj := ⟨_, rfl⟩
          have oU : ∃ Y, wr.ownsRow 0 63 3 (G j).dv (ld j) Y := by obtain ⟨Y, h1, _⟩ := hMr.d j hltj; exact ⟨Y, h1⟩
          obtain ⟨Y0, hY0⟩ := oU
          obtain ⟨ta, tcap, hU, htc1, htc2⟩ := own_slice hY0
          rw [htl] at hU htc1
          rw [hU] at r4
          unfold maxLen at htc2
          have hll := HFN.out.2.1 j hltj
          have hfb := HFN.out.2.2.2.2.2.2.2 j
          have hfs := HFN.out.2.2.2.2.2.1 j hltj
          rw [htl] at hll hfs
          rw [hfj] at hfb hfs ⊢
          have HJ : Hid (j < H ∧ og (j + 1) = fj + tl ∧ fj ≤ 1000 ∧ tl ≤ 16 ∧ ld j = tl ∧ og j = fj ∧ a2 = some ⟨bb, 0, none⟩ ∧ (G j).dv = .slice ta tl tcap) := ⟨hltj, hfs, by omega, by omega, htl, hfj, ha1, hU⟩
          have HMs : Hid (Mk w4 L H F G lt ld of og L 0 j 0 wr) := hMr
          have hltj' : (j : Int) < H := by omega
          have htc : (tl : Int) ≤ tcap ∧ (tcap : Int) ≤ 9223372036854775807 := by omega
          obtain ⟨Wj, hWj⟩ : ∃ Wj, Wj = wr := ⟨_, rfl⟩
          subst hWj
          clear hBC hc1 hc2 ha1 hY0 hU htl hfj htc1 htc2 hll hfb hfs hMr
          go_wp2
          clear l1 r4
          go_loopw [9, 88] (fun n i wr => ∃ k : Nat, k ≤ tl ∧ i = .int .i64 k ∧ n = .int .i64 ((fj + k : Nat) : Int) ∧ Mk w4 L H F G lt ld of og L 0 j k wr) (fun _ i _ => tl - (intOf i).toNat)
          case atStart => exact ⟨0, by omega, rfl, rfl, HMs.out⟩
          case round =>
            obtain ⟨k, hk, rfl, rfl, hMk⟩ := hrel
            have HMr : Hid (Mk w4 L H F G lt ld of og L 0 j k wr) := hMk
            by_cases hltk : k < tl
            · have hltk' : (k : Int) < tl := by omega
              obtain ⟨hBC, hc1, hc2⟩ := HCA.out wr hMk.kp
              have l1 := hBC.cell (i := 2) rfl
              obtain ⟨b3, ha3, r4⟩ := hc2 j HJ.out.1
              rw [HJ.out.2.2.2.2.2.2.1] at ha3 l1
              obtain rfl : bb = b3 := by injection ha3 with q; injection q
              obtain ⟨nv, hnv⟩ : ∃ nv : Int, ((og j + k + 1 : Nat) : Int) = nv := ⟨_, rfl⟩
              obtain ⟨n0, hn0⟩ : ∃ n0 : Int, ((fj + k : Nat) : Int) = n0 := ⟨_, rfl⟩
              rw [hn0]
              have w1 : IntKind.i64.wrap (n0 + 1) = nv := by rw [IntKind.wrap_i64]; have := HJ.out; omega
              have w2 : IntKind.i64.wrap (-nv) = -nv := by rw [IntKind.wrap_i64]; have := HJ.out; omega
              have hltk : k < ld j := by rw [HJ.out.2.2.2.2.1]; exact hltk
              obtain ⟨g, cap, hv, ⟨v0, y0⟩, ⟨v1, y1⟩, ⟨v2, y2⟩, g0, g1, g2, hM2⟩ := HMr.out.setD HLC.out.2.2.1 HJ.out.1 hltk
              rw [hnv] at hM2
              have HM2 : Hid (Mk w4 L H F G lt ld of og L 0 j (k + 1) (((wr.setCell ⟨g, k * 3, none⟩ (.int .i64 (-nv))).setCell ⟨g, k * 3 + 1, none⟩ (.int .i64 0)).setCell ⟨g, k * 3 + 2, none⟩ (.int .i64 0))) := hM2
              have hv2 := HJ.out.2.2.2.2.2.2.2
              rw [hv, HJ.out.2.2.2.2.1] at hv2
              rw [hv, HJ.out.2.2.2.2.1] at r4
              injection hv2 with q1 q2 q3
              subst q1 q3
              have HNV : Hid (nv = ((fj + (k + 1) : Nat) : Int) ∧ k < tl) := ⟨by have := HJ.out; omega, by have := HJ.out; omega⟩
              clear hBC hc1 hc2 ha3 hv hnv hn0 hk hltk hMk hM2
              go_wp2
              go_roundw
              case rel => exact ⟨k + 1, by have := HNV.out.2; omega, by go_num, by rw [HNV.out.1], HM2.out⟩
              case measure => have := HNV.out.2; simp [intOf]; omega
            · obtain rfl : tl = k := by omega
              have HMn : Hid (Mk w4 L H F G lt ld of og L 0 (j + 1) 0 wr) := by
                have h1 := hMk
                rw [← HJ.out.2.2.2.2.1] at h1
                exact h1.nextD
              clear hk hltk hMk HMr
              go_wp2
              go_roundw
              case rel => exact ⟨j + 1, by have := HJ.out; omega, by go_num, by rw [HJ.out.2.1], HMn.out⟩
              case measure => have := HJ.out; simp [intOf]; omega
        · obtain rfl : H = j := by omega
          obtain ⟨w5, hw5⟩ : ∃ w5, w5 = wr := ⟨_, rfl⟩
          subst hw5
          clear hj hltj
          have HM5 : Hid (Mk w4 L H F G lt ld of og L 0 H 0 w5) := hMr
          have ba := (HCA.out w5 hMr.kp).1
          have s0 := ba.cell (i := 0) rfl
          have s1 := ba.cell (i := 1) rfl
          have s2 := ba.cell (i := 2) rfl
          have s3 := ba.cell (i := 3) rfl
          obtain ⟨XT, hXT⟩ := choose_lists hMr.t
          obtain ⟨XD, hXD⟩ := choose_lists hMr.d
          have HG : Hid (Calls Try.prog 27 #[.agg #[.int .i64 A, .slice a1 L L, .slice a2 H H, .int .i64 En]] w5 fun e w' => e = .returned (.bool true) ∧ Keeps (InB L H F G) w5 w') := by
            have hf := HFN.out
            have ho := HLC.out.1.outer hMr.kp
            exact grown_any A En a1 a2 L H F G lt ld XT XD of og ⟨by omega, by omega⟩ (fun i hi => by have := hf.1 i hi; omega) (fun i hi => by have := hf.2.1 i hi; omega) hf.2.2.1 hf.2.2.2.1 hf.2.2.2.2.1 hf.2.2.2.2.2.1 (fun i => by have := hf.2.2.2.2.2.2.1 i; omega) (fun i => by have := hf.2.2.2.2.2.2.2 i; omega)
              (fun i hi k hk => (hXT i hi).2 k hk (.inl hi)) (fun i hi k hk => (hXD i hi).2 k hk (.inl hi)) w5 ho.2.2.1 ho.2.2.2 (fun i hi => (hXT i hi).1) (fun i hi => (hXD i hi).1) HLC.out.2.1 HLC.out.2.2.1
          clear hMr ba hXT hXD
          go_wp2_with fail
          refine HG.out.mono ?_
          rintro e w6 ⟨rfl, hK6⟩
          have hK46 : Keeps (InB L H F G) w4 w6 := HM5.out.kp.trans hK6 fun _ _ e => e
          have HW6 : Hid (Keeps (InB L H F G) w4 w6 ∧ Keeps (fun _ => False) W1 w6 ∧ LC x W2.heap.size B Fn er3 d1 L2 d2 H2 F2 G2 T2 D2 w6 ∧ Blk w6 E2 [.int .i64 A, .slice a1 L L, .slice a2 H H, .int .i64 En] 30 ∧ Blk w6 E3 [.int .i64 B, .slice d1 L2 L2, .slice d2 H2 H2, .int .i64 Fn] 30) := by
            refine ⟨hK46, HLC.out.2.2.2.1.trans hK46 fun k hk e => ?_, HLC.out.2.2.2.2.1.keptS hK46 fun k hk => (HLC.out.2.2.2.2.2.2.2 k hk).2, (HCA.out w6 hK46).1, HLC.out.2.2.2.2.2.2.1.kept hK46 fun hI => ?_⟩
            · have := (HLC.out.2.2.2.2.2.2.2 k e).1; omega
            · rcases hI with ⟨i, hi, e⟩ | ⟨i, hi, e⟩
              · exact own_blk_ne (HLC.out.1.rows.1 i hi) HLC.out.2.2.2.2.2.2.1 (by decide) e
              · exact own_blk_ne (HLC.out.1.rows.2.1 i hi) HLC.out.2.2.2.2.2.2.1 (by decide) e
          clear s0 s1 s2 s3 HG hK6 hK46 HM5
          have s0 := HW6.out.2.2.2.1.cell (i := 0) rfl
          have s1 := HW6.out.2.2.2.1.cell (i := 1) rfl
          have s2 := HW6.out.2.2.2.1.cell (i := 2) rfl
          have s3 := HW6.out.2.2.2.1.cell (i := 3) rfl
          have t0 := HW6.out.2.2.2.2.cell (i := 0) rfl
          have t1 := HW6.out.2.2.2.2.cell (i := 1) rfl
          have t2 := HW6.out.2.2.2.2.cell (i := 2) rfl
          have t3 := HW6.out.2.2.2.2.cell (i := 3) rfl
          have HOU : Hid (Calls Try.prog 28 #[.agg #[.int .i64 A, .slice a1 L L, .slice a2 H H, .int .i64 En], .agg #[.int .i64 B, .slice d1 L2 L2, .slice d2 H2 H2, .int .i64 Fn]] w6 fun e w' => e = .returned (.bool true) ∧ Keeps (fun _ => False) w6 w') := by
            obtain ⟨⟨vP, hP⟩, ⟨vH, hH⟩, _⟩ := HLC.out.1.outer HW6.out.1
            obtain ⟨⟨vQ, hQ⟩, ⟨vI, hI⟩, _⟩ := HW6.out.2.2.1.outer (Keeps.refl _ _)
            have hr := HW6.out.2.2.1.rows
            exact outer_any A En B Fn a1 a2 d1 d2 L H L2 H2 vP vH vQ vI ⟨by omega, by omega, by omega, by omega⟩ w6 hP hH hQ hI
          go_wp2_with fail
          refine HOU.out.mono ?_
          rintro e w7 ⟨rfl, hK7⟩
          have HW7 : Hid (Keeps (fun _ => False) W1 w7 ∧ LC x W2.heap.size B Fn er3 d1 L2 d2 H2 F2 G2 T2 D2 w7 ∧ Blk w7 E3 [.int .i64 B, .slice d1 L2 L2, .slice d2 H2 H2, .int .i64 Fn] 30) := ⟨HW6.out.2.1.trans hK7 fun _ _ e => e, HW6.out.2.2.1.grow hK7, HW6.out.2.2.2.2.kept hK7 fun e => e⟩
          clear s0 s1 s2 s3 t0 t1 t2 t3 HOU hK7 HW6 HLC HCA HFN HM1 HOG HM0
          have HO7 : Hid (One w x C N w7) := HW1.out.1.kept HW7.out.1
          obtain ⟨q0, q1, q2, q3, q4, q5, q6⟩ := HO7.out.cells
          have HC9 : Hid (Calls Try.prog 9 #[x.v] w7 (OfP x w7)) := Of_any x w7 N HO7.out.cin HO7.out.nn
          go_wp2_with fail
          refine HC9.out.mono ?_
          rintro e w8 hP
          have hK := hP.1
          obtain ⟨B3, F3n, er4, y1, L3, y2, H3, F3, G3, T3, D3, rfl, hR⟩ := hP.lettersC
          have e12 := (hR.same (HW7.out.2.1.grow hK)).1
          subst e12
          obtain ⟨W8, hW8⟩ : ∃ W8, W8 = w8.alloc (.cells #[.int .i64 B3, .slice y1 L3 L3, .slice y2 H3 H3, .int .i64 F3n] 30) := ⟨_, rfl⟩
          obtain ⟨E4, hE4⟩ : ∃ E, E = w8.heap.size := ⟨_, rfl⟩
          have HW8 : Hid (Keeps (fun _ => False) W1 W8 ∧ LC x w7.heap.size B3 F3n er4 y1 L3 y2 H3 F3 G3 T3 D3 W8 ∧ Blk W8 E4 [.int .i64 B3, .slice y1 L3 L3, .slice y2 H3 H3, .int .i64 F3n] 30 ∧ LC x W2.heap.size B Fn er4 d1 L2 d2 H2 F2 G2 T2 D2 W8 ∧ Blk W8 E3 [.int .i64 B, .slice d1 L2 L2, .slice d2 H2 H2, .int .i64 Fn] 30) := by
            have k1 : Keeps (fun _ => False) w8 W8 := by rw [hW8]; exact (Keeps.refl _ _).alloc _
            have k2 : Keeps (fun _ => False) w7 W8 := hK.trans k1 fun _ _ e => e
            exact ⟨HW7.out.1.trans k2 fun _ _ e => e, hR.grow k1, by rw [hW8, hE4]; exact Blk.new _ _ _, HW7.out.2.1.grow k2, HW7.out.2.2.kept k2 fun e => e⟩
          clear hP hK hR HC9 q0 q1 q2 q3 q4 q5 q6 HW7 HO7
          go_upto_region 30 with fail
          rw [← hW8, ← hE4]
          clear hW8 hE4
          have HS1 : Hid (Calls Try.prog 13 #[.agg #[.int .i64 B, .slice d1 L2 L2, .slice d2 H2 H2, .int .i64 Fn], .agg #[.int .i64 A0, .slice z1 L0 L0, .slice z2 H0 H0, .int .i64 E0]] W8 fun e w' => e = .returned (.bool true) ∧ Keeps (fun _ => False) W8 w') := (HW8.out.2.2.2.1.same (HW1.out.2.1.grow HW8.out.1)).2
          have bz := HW1.out.2.2.kept HW8.out.1 fun e => e
          have u0 := bz.cell (i := 0) rfl
          have u1 := bz.cell (i := 1) rfl
          have u2 := bz.cell (i := 2) rfl
          have u3 := bz.cell (i := 3) rfl
          have t0 := HW8.out.2.2.2.2.cell (i := 0) rfl
          have t1 := HW8.out.2.2.2.2.cell (i := 1) rfl
          have t2 := HW8.out.2.2.2.2.cell (i := 2) rfl
          have t3 := HW8.out.2.2.2.2.cell (i := 3) rfl
          clear bz
          go_wp2_with fail
          refine HS1.out.mono ?_
          rintro e w9 ⟨rfl, hK9⟩
          have HW9 : Hid (Keeps (fun _ => False) W1 w9 ∧ LC x w7.heap.size B3 F3n er4 y1 L3 y2 H3 F3 G3 T3 D3 w9 ∧ Blk w9 E4 [.int .i64 B3, .slice y1 L3 L3, .slice y2 H3 H3, .int .i64 F3n] 30) := ⟨HW8.out.1.trans hK9 fun _ _ e => e, HW8.out.2.1.grow hK9, HW8.out.2.2.1.kept hK9 fun e => e⟩
          clear u0 u1 u2 u3 t0 t1 t2 t3 HS1 hK9 HW8
          have HS2 : Hid (Calls Try.prog 13 #[.agg #[.int .i64 B3, .slice y1 L3 L3, .slice y2 H3 H3, .int .i64 F3n], .agg #[.int .i64 A0, .slice z1 L0 L0, .slice z2 H0 H0, .int .i64 E0]] w9 fun e w' => e = .returned (.bool true) ∧ Keeps (fun _ => False) w9 w') := (HW9.out.2.1.same (HW1.out.2.1.grow HW9.out.1)).2
          have bz := HW1.out.2.2.kept HW9.out.1 fun e => e
          have u0 := bz.cell (i := 0) rfl
          have u1 := bz.cell (i := 1) rfl
          have u2 := bz.cell (i := 2) rfl
          have u3 := bz.cell (i := 3) rfl
          have t0 := HW9.out.2.2.cell (i := 0) rfl
          have t1 := HW9.out.2.2.cell (i := 1) rfl
          have t2 := HW9.out.2.2.cell (i := 2) rfl
          have t3 := HW9.out.2.2.cell (i := 3) rfl
          clear bz
          go_wp2_with fail
          refine HS2.out.mono ?_
          rintro e w10 ⟨rfl, hK10⟩
          have HF : Hid (Keeps (fun _ => False) w w10) := (HW1.out.1.keeps.trans HW9.out.1 fun _ _ e => e).trans hK10 fun _ _ e => e
          clear u0 u1 u2 u3 t0 t1 t2 t3 HS2 hK10 HW9
          go_wp2
          go_ret
          exact ⟨rfl, HF.out⟩
end Go.Proofs.Ythaoopaafdgioaa
