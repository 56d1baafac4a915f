import Derived.Test.YthaoopaafdgioaaXf
namespace Go.Proofs.Ythaoopaafdgioaa
open Go.RowKit
set_option linter.unusedVariables false
set_option linter.unusedSimpArgs false
set_option maxRecDepth 8000

set_option maxHeartbeats 8000000 in
theorem layoutApart_any (x : Cfg) (w : World) (N : Nat) (hi : x.In w N) (hN : N ≤ w.heap.size) :
    Calls Try.prog 6 #[x.v] w fun e w' => e = .returned (.bool true) ∧ Keeps (fun _ => False) w w' := by
  obtain ⟨W, hW⟩ : ∃ W, W = x.laid w := ⟨_, rfl⟩
  obtain ⟨C, hC⟩ : ∃ C, C = w.heap.size := ⟨_, rfl⟩
  have HO : Hid (One w x C N W) := by rw [hW, hC]; exact One.mk' hi hN
  clear hi hN
  unfold Cfg.laid at hW
  go_enter Try.func6, Try.ntmps6
  go_upto_region 1 with fail
  rw [← hW, ← hC]
  clear hW hC
  obtain ⟨q0, q1, q2, q3, q4, q5, q6⟩ := HO.out.cells
  have HC0 : Hid (Calls Try.prog 20 #[x.v] W fun e w' => (e = .returned (.bool false) ∨ e = .returned (.bool true) ∧ Fit x) ∧ Keeps (fun _ => False) W w') := fits_any x W N HO.out.cin HO.out.nn
  go_wp2_with fail
  refine HC0.out.mono ?_
  rintro e w0 ⟨hP, hK0⟩
  have HO0 : Hid (One w x C N w0) := HO.out.kept hK0
  clear hK0 HC0 q0 q1 q2 q3 q4 q5 q6
  obtain ⟨q0, q1, q2, q3, q4, q5, q6⟩ := HO0.out.cells
  have HC1 : Hid (Calls Try.prog 9 #[x.v] w0 (OfP x w0)) := Of_any x w0 N HO0.out.cin HO0.out.nn
  rcases hP with rfl | ⟨rfl, hf⟩
  · go_wp2_with fail
    refine HC1.out.mono ?_
    rintro e w1 hP
    have hK := hP.1
    obtain ⟨A, En, er, a1, n1, c1, a2, n2, c2, rfl, hR⟩ := hP.letters2
    have HO1 : Hid (One w x C N w1 ∧ OfS x w0.heap.size A En er a1 n1 c1 a2 n2 c2 w1) := ⟨HO0.out.kept hK, hR⟩
    clear hP hK hR HC1 q0 q1 q2 q3 q4 q5 q6
    obtain ⟨W1, hW1⟩ : ∃ W1, W1 = w1.alloc (.cells #[.int .i64 A, .slice a1 n1 c1, .slice a2 n2 c2, .int .i64 En] 30) := ⟨_, rfl⟩
    obtain ⟨E, hE⟩ : ∃ E, E = w1.heap.size := ⟨_, rfl⟩
    have HW1 : Hid (One w x C N W1 ∧ OfS x w0.heap.size A En er a1 n1 c1 a2 n2 c2 W1 ∧ Blk W1 E [.int .i64 A, .slice a1 n1 c1, .slice a2 n2 c2, .int .i64 En] 30) := by
      have k1 : Keeps (fun _ => False) w1 W1 := by rw [hW1]; exact (Keeps.refl _ _).alloc _
      exact ⟨HO1.out.1.kept k1, HO1.out.2.grow k1, by rw [hW1, hE]; exact Blk.new _ _ _⟩
    go_upto_region 3 with fail
    rw [← hW1, ← hE]
    clear hW1 hE HO1
    obtain ⟨q0, q1, q2, q3, q4, q5, q6⟩ := HW1.out.1.cells
    have HC2 : Hid (Calls Try.prog 10 #[x.v] W1 (OfP x W1)) := rOf_any x W1 N HW1.out.1.cin HW1.out.1.nn
    go_wp2_with fail
    refine HC2.out.mono ?_
    rintro e w2 hP
    have hK := hP.1
    obtain ⟨B, Fn, er2, d1, m1, f1, d2, m2, f2, rfl, hR⟩ := hP.letters2
    obtain ⟨W3, hW3⟩ : ∃ W3, W3 = w2.alloc (.cells #[.int .i64 B, .slice d1 m1 f1, .slice d2 m2 f2, .int .i64 Fn] 30) := ⟨_, rfl⟩
    obtain ⟨E3, hE3⟩ : ∃ E, E = w2.heap.size := ⟨_, rfl⟩
    have k1 : Keeps (fun _ => False) w2 W3 := by rw [hW3]; exact (Keeps.refl _ _).alloc _
    have k2 : Keeps (fun _ => False) W1 W3 := hK.trans k1 fun _ _ e => e
    have HER : Hid (er = er2 ∧ (er = 0 ∨ er ≠ 0 ∧ En = 0)) := by
      rcases HW1.out.2.1 with ⟨h1, rfl, _, _, rfl, _⟩ | ⟨h1, rfl, _⟩
      · rcases hR with ⟨_, rfl, _⟩ | ⟨h2, _⟩
        · exact ⟨rfl, .inr ⟨by decide, rfl⟩⟩
        · rw [h1] at h2; cases h2
      · rcases hR with ⟨h2, _⟩ | ⟨_, rfl, _⟩
        · rw [h1] at h2; cases h2
        · exact ⟨rfl, .inl rfl⟩
    have HF : Hid (Keeps (fun _ => False) w W3) := HW1.out.1.keeps.trans k2 fun _ _ e => e
    have s3 := (HW1.out.2.2.kept k2 fun e => e).cell (i := 3) rfl
    obtain ⟨e12, hcase⟩ := HER.out
    subst e12
    clear hP hK hR HC2 q0 q1 q2 q3 q4 q5 q6 k1 k2 HER HW1
    go_upto_region 4 with fail
    rw [← hW3, ← hE3]
    clear hW3 hE3
    rcases hcase with rfl | ⟨hne, rfl⟩
    · go_wp2
      go_ret
      exact ⟨rfl, HF.out⟩
    · go_wp2
      go_ret
      exact ⟨rfl, HF.out⟩
  · go_wp2_with fail
    refine HC1.out.mono ?_
    rintro e w1 hP
    have hK := hP.1
    obtain ⟨A, En, er, a1, n1, c1, a2, n2, c2, rfl, hR⟩ := hP.letters2
    rcases hR with ⟨h1, _⟩ | ⟨h1, rfl, hA, hEn, b1, b2, F, G, T, D, rfl, rfl, rfl, rfl, rfl, rfl, hLD, hF, hG⟩
    · exact absurd hf.1 (by rw [h1]; decide)
    obtain ⟨L, hL⟩ : ∃ L, L = x.ps.length := ⟨_, rfl⟩
    obtain ⟨H, hH⟩ : ∃ H, H = x.hs.length := ⟨_, rfl⟩
    have hDu := hLD.duo
    rw [← hL, ← hH] at hDu
    rw [← hL, ← hH]
    have HO1 : Hid (One w x C N w1 ∧ Duo w1 L H b1 b2 F G T D) := ⟨HO0.out.kept hK, hDu⟩
    have HH : Hid (Fit x ∧ A = 16 * x.kernel ∧ En = rtAt x (rtB x (16 * x.kernel)) x.ps.length / 16 ∧ FOK x (16 * x.kernel + 2) (rtB x (16 * x.kernel)) x.ps.length F T ∧ GOK x (chB x (16 * x.kernel)) x.hs.length G D ∧ L = x.ps.length ∧ H = x.hs.length) := ⟨hf, hA, hEn, hF, hG, hL, hH⟩
    clear hP hK HC1 q0 q1 q2 q3 q4 q5 q6 hLD hF hG hDu hA hEn hf h1 hL hH
    obtain ⟨W1, hW1⟩ : ∃ W1, W1 = w1.alloc (.cells #[.int .i64 A, .slice (some ⟨b1, 0, none⟩) L L, .slice (some ⟨b2, 0, none⟩) H H, .int .i64 En] 30) := ⟨_, rfl⟩
    obtain ⟨E, hE⟩ : ∃ E, E = w1.heap.size := ⟨_, rfl⟩
    have HW1 : Hid (One w x C N W1 ∧ Duo W1 L H b1 b2 F G T D ∧ Blk W1 E [.int .i64 A, .slice (some ⟨b1, 0, none⟩) L L, .slice (some ⟨b2, 0, none⟩) H H, .int .i64 En] 30) := by
      have k1 : Keeps (fun _ => False) w1 W1 := by rw [hW1]; exact (Keeps.refl _ _).alloc _
      exact ⟨HO1.out.1.kept k1, HO1.out.2.grow k1, by rw [hW1, hE]; exact Blk.new _ _ _⟩
    go_upto_region 6 with fail
    rw [← hW1, ← hE]
    clear hW1 hE HO1
    obtain ⟨q0, q1, q2, q3, q4, q5, q6⟩ := HW1.out.1.cells
    have s0 := HW1.out.2.2.cell (i := 0) rfl
    have s1 := HW1.out.2.2.cell (i := 1) rfl
    have s2 := HW1.out.2.2.cell (i := 2) rfl
    have s3 := HW1.out.2.2.cell (i := 3) rfl
    obtain ⟨K3, hK3⟩ : ∃ v, wantK x 3 = v := ⟨_, rfl⟩
    obtain ⟨K4, hK4⟩ : ∃ v, wantK x 4 = v := ⟨_, rfl⟩
    obtain ⟨K5, hK5⟩ : ∃ v, wantK x 5 = v := ⟨_, rfl⟩
    obtain ⟨K6, hK6⟩ : ∃ v, wantK x 6 = v := ⟨_, rfl⟩
    obtain ⟨K7, hK7⟩ : ∃ v, wantK x 7 = v := ⟨_, rfl⟩
    obtain ⟨K8, hK8⟩ : ∃ v, wantK x 8 = v := ⟨_, rfl⟩
    obtain ⟨K9, hK9⟩ : ∃ v, wantK x 9 = v := ⟨_, rfl⟩
    have HKK : Hid (wantK x 3 = K3 ∧ wantK x 4 = K4 ∧ wantK x 5 = K5 ∧ wantK x 6 = K6 ∧ wantK x 7 = K7 ∧ wantK x 8 = K8 ∧ wantK x 9 = K9) := ⟨hK3, hK4, hK5, hK6, hK7, hK8, hK9⟩
    have HC2 : Hid (Calls Try.prog 21 #[x.v, .agg #[.int .i64 A, .slice (some ⟨b1, 0, none⟩) L L, .slice (some ⟨b2, 0, none⟩) H H, .int .i64 En]] W1 fun e w' => e = .returned (.tuple #[.agg #[.int .i64 0, .int .i64 0, .int .i64 2, .int .i64 K3, .int .i64 K4, .int .i64 K5, .int .i64 K6, .int .i64 K7, .int .i64 K8, .int .i64 K9], .bool true]) ∧ Keeps (fun _ => False) W1 w') := by
      obtain ⟨g1, g2, g3, g4, g5, g6, g7⟩ := HH.out
      have := wanted_any x g1.1 A En b1 b2 L H F G T D g6 g7 W1 N HW1.out.1.cin HW1.out.1.nn HW1.out.2.1 g4 g5
      rw [hK3, hK4, hK5, hK6, hK7, hK8, hK9, show wantK x 2 = 2 from rfl] at this
      exact this
    clear hK3 hK4 hK5 hK6 hK7 hK8 hK9
    go_wp2_with fail
    refine HC2.out.mono ?_
    rintro e w2 ⟨rfl, hK2⟩
    obtain ⟨W2, hW2⟩ : ∃ W2, W2 = w2.alloc (.cells #[.int .i64 0, .int .i64 0, .int .i64 2, .int .i64 K3, .int .i64 K4, .int .i64 K5, .int .i64 K6, .int .i64 K7, .int .i64 K8, .int .i64 K9] 49) := ⟨_, rfl⟩
    obtain ⟨Q, hQ⟩ : ∃ Q, Q = w2.heap.size := ⟨_, rfl⟩
    have k2 : Keeps (fun _ => False) w2 W2 := by rw [hW2]; exact (Keeps.refl _ _).alloc _
    have hBQ : Blk W2 Q [.int .i64 0, .int .i64 0, .int .i64 2, .int .i64 K3, .int .i64 K4, .int .i64 K5, .int .i64 K6, .int .i64 K7, .int .i64 K8, .int .i64 K9] 49 := by rw [hW2, hQ]; exact Blk.new _ _ _
    have HCL : Hid (∀ w', Keeps (fun _ => False) W2 w' → One w x C N w' ∧ Blk w' E [.int .i64 A, .slice (some ⟨b1, 0, none⟩) L L, .slice (some ⟨b2, 0, none⟩) H H, .int .i64 En] 30 ∧ Blk w' Q [.int .i64 0, .int .i64 0, .int .i64 2, .int .i64 K3, .int .i64 K4, .int .i64 K5, .int .i64 K6, .int .i64 K7, .int .i64 K8, .int .i64 K9] 49 ∧ Duo w' L H b1 b2 F G T D) := fun w' hK => by
      have k3 : Keeps (fun _ => False) W1 w' := (hK2.trans k2 fun _ _ e => e).trans hK fun _ _ e => e
      exact ⟨HW1.out.1.kept k3, HW1.out.2.2.kept k3 fun e => e, hBQ.kept hK fun e => e, HW1.out.2.1.grow k3⟩
    clear HC2 hK2 k2 hBQ q0 q1 q2 q3 q4 q5 q6 s0 s1 s2 s3 HW1
    go_upto_region 9 with fail
    rw [← hW2, ← hQ]
    clear hW2 hQ
    obtain ⟨hO, hB, hBQ, _⟩ := HCL.out W2 (Keeps.refl _ _)
    obtain ⟨q0, q1, q2, q3, q4, q5, q6⟩ := hO.cells
    have s0 := hB.cell (i := 0) rfl
    have wK : IntKind.i64.wrap (16 * x.kernel) = A := by
      have h1 := HH.out
      have h2 := Cfg.mayB_iff.1 h1.1.1
      rw [IntKind.wrap_i64, h1.2.1]; omega
    have HX : Hid (Calls Try.prog 22 #[x.v, .int .i64 A, .int .i64 2, .agg #[.int .i64 2, .int .i64 0, .int .i64 0]] W2 fun e w' => e = .returned (.bool true) ∧ Keeps (fun _ => False) W2 w') := by
      have h1 := HH.out
      have h2 := Cfg.mayB_iff.1 h1.1.1
      have hA := h1.2.1
      have hp : (⟨16 * x.kernel, 2, ⟨2, 0, 0⟩⟩ : Pc) ∈ pcAll x (16 * x.kernel) := by
        rw [pcAll_eq, head_app]
        exact List.mem_append_left _ (List.mem_cons_self ..)
      exact owned_any x A 2 2 ⟨2, 0, 0⟩ rfl (by omega) (by omega) (fun j hj => (h1.1.piece hp (by dsimp only; omega) (by dsimp only; omega)).1) W2 N hO.cin hO.nn
    clear hO hB hBQ
    go_wp2_with fail
    refine HX.out.mono ?_
    rintro e w3 ⟨rfl, hK3⟩
    have HK3 : Hid (Keeps (fun _ => False) W2 w3) := hK3
    clear hK3 HX q0 q1 q2 q3 q4 q5 q6 s0 wK
    have s1 := (HCL.out w3 HK3.out).2.1.cell (i := 1) rfl
    go_wp2
    clear s1
    go_loopw [72] (fun i wr => ∃ j : Nat, j ≤ L ∧ i = .int .i64 j ∧ Keeps (fun _ => False) W2 wr) (fun i _ => L - (intOf i).toNat)
    case atStart => exact ⟨0, by omega, rfl, HK3.out⟩
    case round =>
      obtain ⟨j, hj, rfl, hK⟩ := hrel
      have HK : Hid (Keeps (fun _ => False) W2 wr) := hK
      by_cases hlt : j < L
      · clear hK
        obtain ⟨hO, hB, _, hDu⟩ := HCL.out wr HK.out
        obtain ⟨q0, q1, q2, q3, q4, q5, q6⟩ := hO.cells
        have s1 := hB.cell (i := 1) rfl
        obtain ⟨⟨lk, sv, su, rt, tv⟩, hFj⟩ : ∃ p, F j = p := ⟨_, rfl⟩
        obtain ⟨ad, cp, e1, e2⟩ := (hDu.tr j hlt).lst
        rw [hFj] at e1
        dsimp only at e1
        subst e1
        obtain ⟨tl, htl⟩ : ∃ t, (T j).length = t := ⟨_, rfl⟩
        have r0 := hDu.pc hlt (k := 0) (by omega) (show (F j).vs[0]? = some (.int .i64 lk) by rw [hFj]; rfl)
        rw [Nat.add_zero] at r0
        have r1 := hDu.pc hlt (k := 1) (by omega) (show (F j).vs[1]? = some (.int .i64 sv) by rw [hFj]; rfl)
        have r2 := hDu.pc hlt (k := 2) (by omega) (show (F j).vs[2]? = some (.int .i64 su) by rw [hFj]; rfl)
        have r3 := hDu.pc hlt (k := 3) (by omega) (show (F j).vs[3]? = some (.int .i64 rt) by rw [hFj]; rfl)
        have r4 := hDu.pc hlt (k := 4) (by omega) (show (F j).vs[4]? = some (.slice ad tl cp) by rw [hFj, ← htl]; rfl)
        have hlt' : (j : Int) < L := by omega
        have hL8 : (L : Int) ≤ 8 := by have := HH.out; have h2 := Cfg.mayB_iff.1 this.1.1; omega
        have HX : Hid (∀ w', Keeps (fun _ => False) wr w' → Calls Try.prog 23 #[x.v, .agg #[.int .i64 lk, .int .i64 sv, .int .i64 su, .int .i64 rt, .slice ad tl cp], .int .i64 j] w' fun e w'' => e = .returned (.bool true) ∧ Keeps (fun _ => False) w' w'') := fun w' hK => by
          obtain ⟨g1, g2, g3, g4, g5, g6, g7⟩ := HH.out
          obtain ⟨f1, f2, f3, f4⟩ := g4 j (by omega)
          obtain ⟨P, f5, f6, f7⟩ := f4 (by omega)
          rw [hFj] at f1 f2 f3 f6
          exact ownedPartition_any x g1 j P f5 lk sv su rt f1 f2 f3 f6 ad cp tl (T j) f7 htl.symm w' N (hO.kept hK).cin (hO.kept hK).nn (e2.kept hK fun _ h => h.elim)
        have HLT : Hid (j < L) := hlt
        clear hO hB hDu e2 hFj htl hj hlt
        go_wp2
        refine region_tail 7 (by kernel_rfl) ?_
        simp only [List.take_succ_cons, List.take_zero, List.drop_succ_cons, List.drop_zero]
        repeat still_step
        refine wpStill_nil ?_
        go_wp2_with fail
        refine (HX.out _ ((Keeps.refl _ wr).drewN 1)).mono ?_
        rintro e w5 ⟨rfl, hK5⟩
        have HK5 : Hid (Keeps (fun _ => False) W2 w5) := (HK.out.drewN 1).trans hK5 fun _ _ e => e
        clear hK5 HX q0 q1 q2 q3 q4 q5 q6 s1 r0 r1 r2 r3 r4
        go_wp2
        go_roundw
        case rel => exact ⟨j + 1, by have := HLT.out; omega, by go_num, HK5.out⟩
        case measure => have := HLT.out; simp [intOf]; omega
      · obtain rfl : L = j := by omega
        have s2 := (HCL.out wr hK).2.1.cell (i := 2) rfl
        obtain ⟨WL, hWL⟩ : ∃ WL, WL = wr := ⟨_, rfl⟩
        subst hWL
        clear hK hj hlt
        go_wp2
        clear s2
        go_loopw [88] (fun i wr => ∃ j : Nat, j ≤ H ∧ i = .int .i64 j ∧ Keeps (fun _ => False) W2 wr) (fun i _ => H - (intOf i).toNat)
        case atStart => exact ⟨0, by omega, rfl, HK.out⟩
        case round =>
          obtain ⟨k, hk, rfl, hK⟩ := hrel
          have HKr : Hid (Keeps (fun _ => False) W2 wr) := hK
          clear hK
          by_cases hlt : k < H
          · obtain ⟨hO, hB, _, hDu⟩ := HCL.out wr HKr.out
            obtain ⟨q0, q1, q2, q3, q4, q5, q6⟩ := hO.cells
            have s2 := hB.cell (i := 2) rfl
            obtain ⟨⟨lk, sg, sp, sq, dv⟩, hGj⟩ : ∃ p, G k = p := ⟨_, rfl⟩
            obtain ⟨ad, cp, e1, e2⟩ := (hDu.dr k hlt).lst
            rw [hGj] at e1
            dsimp only at e1
            subst e1
            obtain ⟨dl, hdl⟩ : ∃ t, (D k).length = t := ⟨_, rfl⟩
            have r0 := hDu.cc hlt (k := 0) (by omega) (show (G k).vs[0]? = some (.int .i64 lk) by rw [hGj]; rfl)
            rw [Nat.add_zero] at r0
            have r1 := hDu.cc hlt (k := 1) (by omega) (show (G k).vs[1]? = some (.int .i64 sg) by rw [hGj]; rfl)
            have r2 := hDu.cc hlt (k := 2) (by omega) (show (G k).vs[2]? = some (.int .i64 sp) by rw [hGj]; rfl)
            have r3 := hDu.cc hlt (k := 3) (by omega) (show (G k).vs[3]? = some (.int .i64 sq) by rw [hGj]; rfl)
            have r4 := hDu.cc hlt (k := 4) (by omega) (show (G k).vs[4]? = some (.slice ad dl cp) by rw [hGj, ← hdl]; rfl)
            have hlt' : (k : Int) < H := by omega
            have hH16 : (H : Int) ≤ 16 := by have := HH.out; have h2 := Cfg.mayB_iff.1 this.1.1; omega
            have HX : Hid (∀ w', Keeps (fun _ => False) wr w' → Calls Try.prog 24 #[x.v, .agg #[.int .i64 lk, .int .i64 sg, .int .i64 sp, .int .i64 sq, .slice ad dl cp], .int .i64 k] w' fun e w'' => e = .returned (.bool true) ∧ Keeps (fun _ => False) w' w'') := fun w' hK => by
              obtain ⟨g1, g2, g3, g4, g5, g6, g7⟩ := HH.out
              obtain ⟨s, h, f1, f2, f3, f4, f5, f6, f7⟩ := g5 k (by omega)
              rw [hGj] at f3 f4 f5 f6
              exact ownedChannel_any x g1 k h f2 lk sg sp sq f3 f4 ad cp dl (D k) f7 hdl.symm w' N (hO.kept hK).cin (hO.kept hK).nn (e2.kept hK fun _ h => h.elim)
            have HLT : Hid (k < H) := hlt
            clear hO hB hDu e2 hGj hdl hk hlt
            go_wp2
            refine region_tail 7 (by kernel_rfl) ?_
            simp only [List.take_succ_cons, List.take_zero, List.drop_succ_cons, List.drop_zero]
            repeat still_step
            refine wpStill_nil ?_
            go_wp2_with fail
            refine (HX.out _ ((Keeps.refl _ wr).drewN 1)).mono ?_
            rintro e w5 ⟨rfl, hK5⟩
            have HK5 : Hid (Keeps (fun _ => False) W2 w5) := (HKr.out.drewN 1).trans hK5 fun _ _ e => e
            clear hK5 HX q0 q1 q2 q3 q4 q5 q6 s2 r0 r1 r2 r3 r4
            go_wp2
            go_roundw
            case rel => exact ⟨k + 1, by have := HLT.out; omega, by go_num, HK5.out⟩
            case measure => have := HLT.out; simp [intOf]; omega
          · obtain rfl : H = k := by omega
            obtain ⟨hO, hB, hBQ, _⟩ := HCL.out wr HKr.out
            obtain ⟨q0, q1, q2, q3, q4, q5, q6⟩ := hO.cells
            have s0 := hB.cell (i := 0) rfl
            have s1 := hB.cell (i := 1) rfl
            have s2 := hB.cell (i := 2) rfl
            have s3 := hB.cell (i := 3) rfl
            have y0 := hBQ.cell (i := 0) rfl
            have y1 := hBQ.cell (i := 1) rfl
            have y2 := hBQ.cell (i := 2) rfl
            have y3 := hBQ.cell (i := 3) rfl
            have y4 := hBQ.cell (i := 4) rfl
            have y5 := hBQ.cell (i := 5) rfl
            have y6 := hBQ.cell (i := 6) rfl
            have y7 := hBQ.cell (i := 7) rfl
            have y8 := hBQ.cell (i := 8) rfl
            have y9 := hBQ.cell (i := 9) rfl
            have HX : Hid (Calls Try.prog 25 #[x.v, .agg #[.int .i64 A, .slice (some ⟨b1, 0, none⟩) L L, .slice (some ⟨b2, 0, none⟩) H H, .int .i64 En], .agg #[.int .i64 0, .int .i64 0, .int .i64 2, .int .i64 K3, .int .i64 K4, .int .i64 K5, .int .i64 K6, .int .i64 K7, .int .i64 K8, .int .i64 K9]] wr fun e w' => e = .returned (.bool true) ∧ Keeps (fun _ => False) wr w') := by
              obtain ⟨g1, g2, g3, g4, g5, g6, g7⟩ := HH.out
              obtain ⟨k3, k4, k5, k6, k7, k8, k9⟩ := HKK.out
              have := counted_any x g1 A En (some ⟨b1, 0, none⟩) (some ⟨b2, 0, none⟩) L L H H g3 wr N hO.cin hO.nn
              rw [k3, k4, k5, k6, k7, k8, k9, show wantK x 2 = 2 from rfl] at this
              exact this
            have HF : Hid (Keeps (fun _ => False) w wr) := hO.keeps
            clear hO hB hBQ hk hlt
            go_wp2_with fail
            refine HX.out.mono ?_
            rintro e w9 ⟨rfl, hK9⟩
            have HF2 : Hid (Keeps (fun _ => False) w w9) := HF.out.trans hK9 fun _ _ e => e
            clear hK9 HX q0 q1 q2 q3 q4 q5 q6 s0 s1 s2 s3 y0 y1 y2 y3 y4 y5 y6 y7 y8 y9
            go_wp2
            go_ret
            exact ⟨rfl, HF2.out⟩
end Go.Proofs.Ythaoopaafdgioaa
