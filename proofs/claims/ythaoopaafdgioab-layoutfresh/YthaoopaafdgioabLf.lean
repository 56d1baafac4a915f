import Derived.Test.YthaoopaafdgioabLr
import Derived.Deep.RegionHeld2
import Derived.Deep.RegionHeld3
namespace Go.Proofs.Ythaoopaafdgioab
open Go.RowKit
set_option linter.unusedVariables false
set_option linter.unusedSimpArgs false
set_option maxRecDepth 6000

theorem Hid.mkq2 {p : Prop} (h : p) : Hid p := h
set_option maxHeartbeats 8000000 in
theorem layoutFresh_any (c : Cfg) (pg : Int) (w : World) (N : Nat) (hi : c.In w N) (hN : N ≤ w.heap.size) (hpg : I64 pg) :
    Calls Try.prog 3 #[c.v, .int .i64 pg] w fun e w' => e = .returned (.bool true) ∧ Keeps (fun _ => False) w w' := by
  obtain ⟨W, hW⟩ : ∃ W, W = c.laid w := ⟨_, rfl⟩
  obtain ⟨C, hC⟩ : ∃ C, C = w.heap.size := ⟨_, rfl⟩
  have HO : Hid (One w c C N W) := by rw [hW, hC]; exact One.mk' hi hN
  have HPG : Hid (I64 pg) := hpg
  clear hi hN hpg
  unfold Cfg.laid at hW
  go_enter Try.func3, Try.ntmps3
  go_wp2_with fail
  rw [← hW, ← hC]
  clear hW hC
  refine (vast_any c W N HO.out.cin HO.out.nn).mono ?_
  rintro e w1 ⟨rfl | ⟨rfl, hsm⟩, hK⟩
  · have HO1 : Hid (One w c C N w1) := HO.out.kept hK
    clear hK
    go_wp2
    go_ret
    exact ⟨rfl, HO1.out.keeps⟩
  · have HO1 : Hid (One w c C N w1 ∧ Bnd c) := ⟨HO.out.kept hK, hsm.bnd⟩
    clear hK hsm HO
    obtain ⟨q0, q1, q2, q3, q4, q5, q6⟩ := HO1.out.1.cells
    go_upto_region 3 with fail
    go_wp2_with fail
    refine (rOf_any c w1 N HO1.out.1.cin HO1.out.1.nn).mono ?_
    rintro e w2 hP
    have hK := hP.1
    obtain ⟨A, En, er, a1, n1, c1, a2, n2, c2, rfl, hR⟩ := hP.letters2
    have hE := hR.en
    have HO2 : Hid (One w c C N w2 ∧ Bnd c ∧ OfS c w1.heap.size A En er a1 n1 c1 a2 n2 c2 w2) := ⟨HO1.out.1.kept hK, HO1.out.2, hR⟩
    clear hP hK hR q0 q1 q2 q3 q4 q5 q6 HO1
    obtain ⟨W1, hW1⟩ : ∃ W1, W1 = w2.alloc (.cells #[.int .i64 A, .slice a1 n1 c1, .slice a2 n2 c2, .int .i64 En] 31) := ⟨_, rfl⟩
    obtain ⟨E, hEE⟩ : ∃ E, E = w2.heap.size := ⟨_, rfl⟩
    have HW1 : Hid (One w c C N W1 ∧ Bnd c ∧ OfS c w1.heap.size A En er a1 n1 c1 a2 n2 c2 W1 ∧ Blk W1 E [.int .i64 A, .slice a1 n1 c1, .slice a2 n2 c2, .int .i64 En] 31) := by
      have k1 : Keeps (fun _ => False) w2 W1 := by rw [hW1]; exact (Keeps.refl _ _).alloc _
      exact ⟨HO2.out.1.kept k1, HO2.out.2.1, HO2.out.2.2.grow k1, by rw [hW1, hEE]; exact Blk.new _ _ _⟩
    obtain ⟨T, hT⟩ : ∃ T : Int, IntKind.i64.wrap (16 * En - 1) = T := ⟨_, rfl⟩
    have HT : Hid (I64 T) := by rw [IntKind.wrap_i64] at hT; constructor <;> omega
    have hm : IntKind.i64.wrap (16 * En) = 16 * En := by rw [IntKind.wrap_i64]; omega
    go_upto_region 4 with fail
    rw [← hW1, ← hEE]
    clear hW1 hEE HO2
    obtain ⟨q0, q1, q2, q3, q4, q5, q6⟩ := HW1.out.1.cells
    have l3 := HW1.out.2.2.2.cell (i := 3) rfl
    obtain ⟨o0, o1, o2, oe, hown⟩ := own_let c T
    have HOW : Hid (ownA c T = (⟨o0, o1, o2⟩, oe)) := hown
    clear hown
    have HC := Hid.mkq2 (own_r (x := c) rfl T HT.out HOW.out W1 N HW1.out.1.cin HW1.out.1.nn)
    go_wp2_with fail
    refine HC.out.mono ?_
    rintro e w3 ⟨rfl, hK⟩
    obtain ⟨W2, hW2⟩ : ∃ W2, W2 = w3.alloc (.cells #[.int .i64 o0, .int .i64 o1, .int .i64 o2] 36) := ⟨_, rfl⟩
    obtain ⟨E7, hE7⟩ : ∃ E7, E7 = w3.heap.size := ⟨_, rfl⟩
    have HW2 : Hid (One w c C N W2 ∧ Bnd c ∧ OfS c w1.heap.size A En er a1 n1 c1 a2 n2 c2 W2 ∧ Blk W2 E [.int .i64 A, .slice a1 n1 c1, .slice a2 n2 c2, .int .i64 En] 31 ∧ Blk W2 E7 [.int .i64 o0, .int .i64 o1, .int .i64 o2] 36) := by
      have k1 : Keeps (fun _ => False) W1 W2 := by rw [hW2]; exact hK.alloc _
      exact ⟨HW1.out.1.kept k1, HW1.out.2.1, HW1.out.2.2.1.grow k1, HW1.out.2.2.2.kept k1 fun h => h, by rw [hW2, hE7]; exact Blk.new _ _ _⟩
    clear hK HC HW1 q0 q1 q2 q3 q4 q5 q6 l3
    go_upto_region 5 with fail
    rw [← hW2, ← hE7]
    clear hW2 hE7
    obtain ⟨q0, q1, q2, q3, q4, q5, q6⟩ := HW2.out.1.cells
    obtain ⟨NN, hNN⟩ : ∃ v, ndN c = v := ⟨_, rfl⟩
    obtain ⟨NE, hNE⟩ : ∃ v, ndE c = v := ⟨_, rfl⟩
    have HND : Hid (ndN c = NN ∧ ndE c = NE) := ⟨hNN, hNE⟩
    clear hNN hNE
    have HC := Hid.mkq2 (need_r (x := c) rfl HND.out.1 HND.out.2 W2 N HW2.out.1.cin HW2.out.1.nn)
    go_wp2_with fail
    refine HC.out.mono ?_
    rintro e w4 ⟨rfl, hK⟩
    have HW4 : Hid (One w c C N w4 ∧ Bnd c ∧ OfS c w1.heap.size A En er a1 n1 c1 a2 n2 c2 w4 ∧ Blk w4 E [.int .i64 A, .slice a1 n1 c1, .slice a2 n2 c2, .int .i64 En] 31 ∧ Blk w4 E7 [.int .i64 o0, .int .i64 o1, .int .i64 o2] 36) :=
      ⟨HW2.out.1.kept hK, HW2.out.2.1, HW2.out.2.2.1.grow hK, HW2.out.2.2.2.1.kept hK fun h => h, HW2.out.2.2.2.2.kept hK fun h => h⟩
    clear hK HC HW2 q0 q1 q2 q3 q4 q5 q6
    obtain ⟨q0, q1, q2, q3, q4, q5, q6⟩ := HW4.out.1.cells
    go_upto_region 6 with fail
    go_wp2_with fail
    refine (Roomed_any c w4 N HW4.out.1.cin HW4.out.1.nn HW4.out.2.1).mono ?_
    rintro e w5 ⟨O, lo, rfl, hF, hRP, hlo, hK⟩
    rw [cfgV_eq hF]
    obtain ⟨x, hx⟩ : ∃ x, x = cfgO c O := ⟨_, rfl⟩
    obtain ⟨d0, p0, e0, _⟩ := hF.form 0 0
    obtain ⟨d1, p1, e1, _⟩ := hF.form 0 1
    obtain ⟨d2, p2, e2, _⟩ := hF.form 0 2
    obtain ⟨d3, p3, e3, _⟩ := hF.form 0 3
    obtain ⟨d4, p4, e4, _⟩ := hF.form 0 4
    obtain ⟨d5, p5, e5, _⟩ := hF.form 0 5
    have er' : roomV O = [.slice d0 (O 0 0).n p0, .slice d1 (O 0 1).n p1, .slice d2 (O 0 2).n p2, .slice d3 (O 0 3).n p3, .slice d4 (O 0 4).n p4, .slice d5 (O 0 5).n p5] := by unfold roomV; rw [e0, e1, e2, e3, e4, e5]
    rw [er', ← hx]
    generalize (O 0 0).n = r0 at er' ⊢
    generalize (O 0 1).n = r1 at er' ⊢
    generalize (O 0 2).n = r2 at er' ⊢
    generalize (O 0 3).n = r3 at er' ⊢
    generalize (O 0 4).n = r4 at er' ⊢
    generalize (O 0 5).n = r5 at er' ⊢
    have HF : Hid (FamO lo w5 O ∧ RP c c.cs.length c.ps.length c.hs 12 O ∧ w4.heap.size ≤ lo ∧ x = cfgO c O ∧ roomV O = [.slice d0 r0 p0, .slice d1 r1 p1, .slice d2 r2 p2, .slice d3 r3 p3, .slice d4 r4 p4, .slice d5 r5 p5]) := ⟨hF, hRP, hlo, hx, er'⟩
    have HW5 : Hid (One w c C N w5 ∧ Bnd c ∧ OfS c w1.heap.size A En er a1 n1 c1 a2 n2 c2 w5 ∧ Blk w5 E [.int .i64 A, .slice a1 n1 c1, .slice a2 n2 c2, .int .i64 En] 31 ∧ Blk w5 E7 [.int .i64 o0, .int .i64 o1, .int .i64 o2] 36 ∧ w.heap.size ≤ w4.heap.size ∧ E < w4.heap.size ∧ E7 < w4.heap.size) :=
      ⟨HW4.out.1.kept hK, HW4.out.2.1, HW4.out.2.2.1.grow hK, HW4.out.2.2.2.1.kept hK fun h => h, HW4.out.2.2.2.2.kept hK fun h => h, HW4.out.1.keeps.size, HW4.out.2.2.2.1.lt, HW4.out.2.2.2.2.lt⟩
    clear hK hF hRP hlo hx er' e0 e1 e2 e3 e4 e5 q0 q1 q2 q3 q4 q5 q6 HW4
    obtain ⟨H, hH⟩ : ∃ H, H = w5.heap.size := ⟨_, rfl⟩
    obtain ⟨R, hR⟩ : ∃ R, R = w5.heap.size + 1 := ⟨_, rfl⟩
    obtain ⟨W, hW⟩ : ∃ W, W = (w5.alloc (.cells x.vs.toArray 26)).alloc (.cells #[.slice d0 r0 p0, .slice d1 r1 p1, .slice d2 r2 p2, .slice d3 r3 p3, .slice d4 r4 p4, .slice d5 r5 p5] 44) := ⟨_, rfl⟩
    obtain ⟨hv, hhv⟩ : ∃ hv, hv = x.vs := ⟨_, rfl⟩
    obtain ⟨rv, hrv⟩ : ∃ rv, rv = [Value.slice d0 r0 p0, .slice d1 r1 p1, .slice d2 r2 p2, .slice d3 r3 p3, .slice d4 r4 p4, .slice d5 r5 p5] := ⟨_, rfl⟩
    have HI : Hid (One w c C N W ∧ OfS c w1.heap.size A En er a1 n1 c1 a2 n2 c2 W ∧ Blk W E7 [.int .i64 o0, .int .i64 o1, .int .i64 o2] 36 ∧ LJ w c.ps.length H R lo hv rv [(E, [.int .i64 A, .slice a1 n1 c1, .slice a2 n2 c2, .int .i64 En], 31)] c O W) := by
      obtain ⟨hF, hRP, hlo, hx, er'⟩ := HF.out
      obtain ⟨b1, b2, b3, b4, b5, b6, b7, b8⟩ := HW5.out
      have kW : Keeps (fun _ => False) w5 W := by rw [hW]; exact ((Keeps.refl _ _).alloc _).alloc _
      have hsz : W.heap.size = w5.heap.size + 2 := by rw [hW]; simp
      refine ⟨b1.kept kW, b3.grow kW, b5.kept kW fun h => h, ?_, ?_, hF.kept kW fun _ _ _ _ h => h, hRP, b1.cin.fn, by rw [hhv, hx], by rw [er', hrv], b2, rfl, hF.outNew kW (by omega) (by omega), hF.outNew kW (by omega) (by omega), (b1.keeps.trans kW fun _ _ h => h).mono fun _ _ h => h.elim, Nat.le_trans b6 hlo, fun b hb => ?_⟩
      · rw [hhv, hH, hW]; exact (Blk.new w5 x.vs.toArray 26).alloc _
      · have := Blk.new (w5.alloc (.cells x.vs.toArray 26)) #[.slice d0 r0 p0, .slice d1 r1 p1, .slice d2 r2 p2, .slice d3 r3 p3, .slice d4 r4 p4, .slice d5 r5 p5] 44
        rw [hrv, hR, hW]; simpa using this
      · rw [List.mem_singleton] at hb
        subst hb
        exact ⟨b4.kept kW fun h => h, (hF.outLo (Nat.lt_of_lt_of_le b7 hlo)).ge kW.size⟩
    go_upto_region 7 with fail
    rw [← hW, ← hR, ← hH]
    clear hW hR hH HW5
    have HV : Hid (hv = x.vs ∧ rv = [Value.slice d0 r0 p0, .slice d1 r1 p1, .slice d2 r2 p2, .slice d3 r3 p3, .slice d4 r4 p4, .slice d5 r5 p5]) := ⟨hhv, hrv⟩
    clear hhv hrv
    have HP : Hid (x.In W W.heap.size ∧ x.pure = c.pure) := by
      have hx := HF.out.2.2.2.1
      have h1 := HI.out.2.2.2.in
      rw [← hx] at h1
      exact ⟨h1, by rw [hx]; exact cfgO_pure c O⟩
    have HB : ∀ (X' : List (Nat × List Value × TypeId)) (y : Cfg) (O' : Nat → Nat → ObG) (n : Nat) (V : World), LJ w n H R lo hv rv X' y O' V → V.cell? ⟨H, 0, none⟩ = some (.int .i64 x.frames) ∧ V.cell? ⟨H, 1, none⟩ = some (.int .i64 x.major) ∧ V.cell? ⟨H, 2, none⟩ = some (.int .i64 x.kernel) ∧ V.cell? ⟨H, 3, none⟩ = some (.int .i64 x.room)
        ∧ V.cell? ⟨H, 4, none⟩ = some (.slice x.ca x.cs.length x.cc) ∧ V.cell? ⟨H, 5, none⟩ = some (.slice x.pa x.ps.length x.pc) ∧ V.cell? ⟨H, 6, none⟩ = some (.slice x.ha x.hs.length x.hc) := fun X' y O' n V hI => by
      have h := hI.hB
      rw [HV.out.1] at h
      exact ⟨h.cell rfl, h.cell rfl, h.cell rfl, h.cell rfl, h.cell rfl, h.cell rfl, h.cell rfl⟩
    have HB : Hid (∀ (X' : List (Nat × List Value × TypeId)) (y : Cfg) (O' : Nat → Nat → ObG) (n : Nat) (V : World), LJ w n H R lo hv rv X' y O' V → _) := HB
    obtain ⟨x0, x1, x2, x3, x4, x5, x6⟩ := HB.out _ _ _ _ _ HI.out.2.2.2
    have l3 : W.cell? ⟨E, 3, none⟩ = some (.int .i64 En) := (HI.out.2.2.2.bl _ (List.mem_singleton.2 rfl)).1.cell (i := 3) rfl
    have HC := Hid.mkq2 (own_p HP.out.2 T HT.out HOW.out W W.heap.size HP.out.1 (Nat.le_refl _))
    go_wp2_with fail
    refine HC.out.mono ?_
    rintro e w6 ⟨rfl, hK⟩
    obtain ⟨W6, hW6⟩ : ∃ W6, W6 = w6.alloc (.cells #[.int .i64 o0, .int .i64 o1, .int .i64 o2] 36) := ⟨_, rfl⟩
    obtain ⟨E13, hE13⟩ : ∃ E13, E13 = w6.heap.size := ⟨_, rfl⟩
    have HI6 : Hid (One w c C N W6 ∧ OfS c w1.heap.size A En er a1 n1 c1 a2 n2 c2 W6 ∧ Blk W6 E7 [.int .i64 o0, .int .i64 o1, .int .i64 o2] 36 ∧ LJ w c.ps.length H R lo hv rv [(E13, [.int .i64 o0, .int .i64 o1, .int .i64 o2], 36), (E, [.int .i64 A, .slice a1 n1 c1, .slice a2 n2 c2, .int .i64 En], 31)] c O W6 ∧ x.In W6 W.heap.size ∧ W.heap.size ≤ W6.heap.size) := by
      have k1 : Keeps (fun _ => False) W W6 := by rw [hW6]; exact hK.alloc _
      refine ⟨HI.out.1.kept k1, HI.out.2.1.grow k1, HI.out.2.2.1.kept k1 fun h => h, ?_, HP.out.1.keeps (Nat.le_refl _) k1, k1.size⟩
      rw [hW6, hE13]
      exact (HI.out.2.2.2.kept hK).box [.int .i64 o0, .int .i64 o1, .int .i64 o2] 36
    have HN : Hid (lo ≤ E13 ∧ E13 ≠ H ∧ E13 ≠ R ∧ E ≠ E13) := by
      have a1 := HI.out.2.2.2.hB.lt
      have a2 := HI.out.2.2.2.rB.lt
      have a3 := HI.out.2.2.2.fam.siz
      have a4 := (HI.out.2.2.2.bl _ (List.mem_singleton.2 rfl)).1.lt
      have a5 := hK.size
      simp only at a4
      refine ⟨?_, ?_, ?_, ?_⟩ <;> omega
    clear hK HC HI x0 x1 x2 x3 x4 x5 x6 l3
    go_upto_region 8 with fail
    rw [← hW6, ← hE13]
    clear hW6 hE13
    obtain ⟨x0, x1, x2, x3, x4, x5, x6⟩ := HB.out _ _ _ _ _ HI6.out.2.2.2.1
    have HC := Hid.mkq2 (need_p HP.out.2 HND.out.1 HND.out.2 W6 W.heap.size HI6.out.2.2.2.2.1 HI6.out.2.2.2.2.2)
    go_wp2_with fail
    refine HC.out.mono ?_
    rintro e w7 ⟨rfl, hK⟩
    have HI7 : Hid (One w c C N w7 ∧ OfS c w1.heap.size A En er a1 n1 c1 a2 n2 c2 w7 ∧ Blk w7 E7 [.int .i64 o0, .int .i64 o1, .int .i64 o2] 36 ∧ LJ w c.ps.length H R lo hv rv [(E13, [.int .i64 o0, .int .i64 o1, .int .i64 o2], 36), (E, [.int .i64 A, .slice a1 n1 c1, .slice a2 n2 c2, .int .i64 En], 31)] c O w7 ∧ x.In w7 W.heap.size ∧ W.heap.size ≤ w7.heap.size) :=
      ⟨HI6.out.1.kept hK, HI6.out.2.1.grow hK, HI6.out.2.2.1.kept hK fun h => h, HI6.out.2.2.2.1.kept hK, HI6.out.2.2.2.2.1.keeps HI6.out.2.2.2.2.2 hK, Nat.le_trans HI6.out.2.2.2.2.2 hK.size⟩
    clear hK HC HI6 x0 x1 x2 x3 x4 x5 x6
    obtain ⟨x0, x1, x2, x3, x4, x5, x6⟩ := HB.out _ _ _ _ _ HI7.out.2.2.2.1
    go_upto_region 9 with fail
    have HC := Hid.mkq2 (Of_any x w7 W.heap.size HI7.out.2.2.2.2.1 HI7.out.2.2.2.2.2)
    go_wp2_with fail
    refine HC.out.mono ?_
    rintro e w8 hP
    have hK := hP.1
    obtain ⟨B, Fz, fr, b1, m1, f1, b2, m2, f2, rfl, hR⟩ := hP.letters2
    have hR := hR.tr HP.out.2
    obtain ⟨W8, hW8⟩ : ∃ W8, W8 = w8.alloc (.cells #[.int .i64 B, .slice b1 m1 f1, .slice b2 m2 f2, .int .i64 Fz] 31) := ⟨_, rfl⟩
    obtain ⟨E17, hE17⟩ : ∃ E17, E17 = w8.heap.size := ⟨_, rfl⟩
    have HI8 : Hid (One w c C N W8 ∧ Blk W8 E7 [.int .i64 o0, .int .i64 o1, .int .i64 o2] 36 ∧ LJ w c.ps.length H R lo hv rv [(E13, [.int .i64 o0, .int .i64 o1, .int .i64 o2], 36), (E, [.int .i64 A, .slice a1 n1 c1, .slice a2 n2 c2, .int .i64 En], 31)] c O W8 ∧ x.In W8 W.heap.size ∧ W.heap.size ≤ W8.heap.size ∧ Blk W8 E17 [.int .i64 B, .slice b1 m1 f1, .slice b2 m2 f2, .int .i64 Fz] 31) := by
      have k1 : Keeps (fun _ => False) w7 W8 := by rw [hW8]; exact hK.alloc _
      exact ⟨HI7.out.1.kept k1, HI7.out.2.2.1.kept k1 fun h => h, HI7.out.2.2.2.1.kept k1, HI7.out.2.2.2.2.1.keeps HI7.out.2.2.2.2.2 k1, Nat.le_trans HI7.out.2.2.2.2.2 k1.size, by rw [hW8, hE17]; exact Blk.new _ _ _⟩
    have HSM : Hid (fr = er ∧ Calls Try.prog 13 #[.agg #[.int .i64 B, .slice b1 m1 f1, .slice b2 m2 f2, .int .i64 Fz], .agg #[.int .i64 A, .slice a1 n1 c1, .slice a2 n2 c2, .int .i64 En]] W8 fun e w' => e = .returned (.bool true) ∧ Keeps (fun _ => False) W8 w') := by
      have k1 : Keeps (fun _ => False) w7 W8 := by rw [hW8]; exact hK.alloc _
      have k2 : Keeps (fun _ => False) w8 W8 := by rw [hW8]; exact (Keeps.refl _ _).alloc _
      have := same_of (hR.grow k2) (HI7.out.2.1.grow k1)
      exact ⟨this.1, this.2.2⟩
    clear hP hK hR HC HI7 x0 x1 x2 x3 x4 x5 x6
    go_upto_region 10 with fail
    rw [← hW8, ← hE17]
    clear hW8 hE17
    obtain rfl : fr = er := HSM.out.1
    have HSM2 := Hid.mkq2 HSM.out.2
    clear HSM
    obtain ⟨x0, x1, x2, x3, x4, x5, x6⟩ := HB.out _ _ _ _ _ HI8.out.2.2.1
    obtain ⟨q0, q1, q2, q3, q4, q5, q6⟩ := HI8.out.1.cells
    have z0 := HI8.out.2.2.2.2.2.cell (i := 0) rfl
    have z1 := HI8.out.2.2.2.2.2.cell (i := 1) rfl
    have z2 := HI8.out.2.2.2.2.2.cell (i := 2) rfl
    have z3 := HI8.out.2.2.2.2.2.cell (i := 3) rfl
    have HL : Hid (Blk W8 E [.int .i64 A, .slice a1 n1 c1, .slice a2 n2 c2, .int .i64 En] 31) := (HI8.out.2.2.1.bl (E, [.int .i64 A, .slice a1 n1 c1, .slice a2 n2 c2, .int .i64 En], 31) (by simp)).1
    have l0 := HL.out.cell (i := 0) rfl
    have l1 := HL.out.cell (i := 1) rfl
    have l2 := HL.out.cell (i := 2) rfl
    have l3 := HL.out.cell (i := 3) rfl
    go_wp2_with fail
    refine HSM2.out.mono ?_
    rintro e w9 ⟨rfl, hK⟩
    have HI9 : Hid (One w c C N w9 ∧ Blk w9 E7 [.int .i64 o0, .int .i64 o1, .int .i64 o2] 36 ∧ LJ w c.ps.length H R lo hv rv [(E13, [.int .i64 o0, .int .i64 o1, .int .i64 o2], 36), (E, [.int .i64 A, .slice a1 n1 c1, .slice a2 n2 c2, .int .i64 En], 31)] c O w9 ∧ x.In w9 W.heap.size) :=
      ⟨HI8.out.1.kept hK, HI8.out.2.1.kept hK fun h => h, HI8.out.2.2.1.kept hK, HI8.out.2.2.2.1.keeps HI8.out.2.2.2.2.1 hK⟩
    clear hK HSM2 HI8 HL x0 x1 x2 x3 x4 x5 x6 q0 q1 q2 q3 q4 q5 q6 z0 z1 z2 z3 l0 l1 l2 l3
    obtain ⟨x0, x1, x2, x3, x4, x5, x6⟩ := HB.out _ _ _ _ _ HI9.out.2.2.1
    obtain ⟨q0, q1, q2, q3, q4, q5, q6⟩ := HI9.out.1.cells
    have t0 := HI9.out.2.1.cell (i := 0) rfl
    have t1 := HI9.out.2.1.cell (i := 1) rfl
    have t2 := HI9.out.2.1.cell (i := 2) rfl
    have HL : Hid (Blk w9 E13 [.int .i64 o0, .int .i64 o1, .int .i64 o2] 36) := (HI9.out.2.2.1.bl (E13, [.int .i64 o0, .int .i64 o1, .int .i64 o2], 36) (by simp)).1
    have u0 := HL.out.cell (i := 0) rfl
    have u1 := HL.out.cell (i := 1) rfl
    have u2 := HL.out.cell (i := 2) rfl
    have r0' := HI9.out.2.2.1.rB.cell (i := 0) (v := .slice d0 r0 p0) (by rw [HV.out.2]; rfl)
    have r1' := HI9.out.2.2.1.rB.cell (i := 1) (v := .slice d1 r1 p1) (by rw [HV.out.2]; rfl)
    have r2' := HI9.out.2.2.1.rB.cell (i := 2) (v := .slice d2 r2 p2) (by rw [HV.out.2]; rfl)
    have r3' := HI9.out.2.2.1.rB.cell (i := 3) (v := .slice d3 r3 p3) (by rw [HV.out.2]; rfl)
    have r4' := HI9.out.2.2.1.rB.cell (i := 4) (v := .slice d4 r4 p4) (by rw [HV.out.2]; rfl)
    have r5' := HI9.out.2.2.1.rB.cell (i := 5) (v := .slice d5 r5 p5) (by rw [HV.out.2]; rfl)
    have HC := Kept_any x c O lo w9 HI9.out.2.2.2.ok HI9.out.1.cin.ok HP.out.2 HI9.out.2.2.1.bnd HI9.out.2.2.1.fam HI9.out.2.2.1.rp
    rw [HI9.out.2.2.1.rvs, HV.out.2] at HC
    have HC : Hid (Calls _ _ _ _ _) := HC
    go_wp2_with fail
    refine HC.out.mono ?_
    rintro e w10 ⟨rfl, hK⟩
    obtain ⟨L, hL⟩ : ∃ L, x.ps.length = L := ⟨_, rfl⟩
    have hLc : c.ps.length = L := by rw [← hL]; exact (pure_len HP.out.2).2.1.symm
    have hcc : (L : Int) ≤ x.pc ∧ (x.pc : Int) ≤ 9223372036854775807 := by have := HI9.out.2.2.2.plen; unfold maxLen at this; omega
    have HI10 : Hid (LJ w L H R lo hv rv [(E13, [.int .i64 o0, .int .i64 o1, .int .i64 o2], 36), (E, [.int .i64 A, .slice a1 n1 c1, .slice a2 n2 c2, .int .i64 En], 31)] c O w10) := by
      rw [← hLc]; exact HI9.out.2.2.1.kept hK
    clear hLc hK HC HL HI9 HOW HND x0 x1 x2 x3 x4 x5 x6 q0 q1 q2 q3 q4 q5 q6 t0 t1 t2 u0 u1 u2 r0' r1' r2' r3' r4' r5'
    rw [hL] at HB
    have x5 := (HB.out _ _ _ _ _ HI10.out).2.2.2.2.2.1
    have HL2 : Hid (x.ps.length = L) := hL
    clear hL
    go_upto_region 12 with fail
    go_wp2
    go_loopw [115] (fun i wr => ∃ (j : Nat) (y : Cfg) (O' : Nat → Nat → ObG), j ≤ L ∧ i = .int .i64 j ∧ LJ w L H R lo hv rv [(E13, [.int .i64 o0, .int .i64 o1, .int .i64 o2], 36), (E, [.int .i64 A, .slice a1 n1 c1, .slice a2 n2 c2, .int .i64 En], 31)] y O' wr) (fun i _ => L - (intOf i).toNat)
    case atStart => exact ⟨0, c, O, by omega, rfl, HI10.out⟩
    case round =>
      obtain ⟨j, y, O', hj, rfl, hI⟩ := hrel
      clear HI10 x5
      have HI : Hid (LJ w L H R lo hv rv [(E13, [.int .i64 o0, .int .i64 o1, .int .i64 o2], 36), (E, [.int .i64 A, .slice a1 n1 c1, .slice a2 n2 c2, .int .i64 En], 31)] y O' wr) := hI
      clear hI
      have x5 := (HB.out _ _ _ _ _ HI.out).2.2.2.2.2.1
      by_cases hlt : j < L
      · obtain ⟨P, hP⟩ : ∃ P, y.ps[j]? = some P := ⟨_, List.getElem?_eq_getElem (by rw [HI.out.len]; exact hlt)⟩
        obtain ⟨g, cap, cur, hu, hBk, h1, h2, h3, h4⟩ := HI.out.reg hP
        obtain ⟨q, hq, hcell⟩ := HI.out.at HV.out.1 hP
        rw [hq] at x5
        obtain ⟨n, hn⟩ : ∃ n, P.rs.length = n := ⟨_, rfl⟩
        obtain ⟨sa, sn, sc, hsv⟩ : ∃ sa sn sc, (parO y O' j).vs = [.string P.name, .int .i64 P.entry, .int .i64 P.action, .int .i64 P.restarts, .int .i64 P.inputs, .int .i64 P.outputs, .slice (some ⟨g, 0, none⟩) n cap, .slice sa sn sc] := ⟨_, _, _, by rw [parO_some hP, hu, ← hn]; rfl⟩
        rw [hsv] at hcell
        have y0 := hcell 0 _ rfl
        have y1 := hcell 1 _ rfl
        have y2 := hcell 2 _ rfl
        have y3 := hcell 3 _ rfl
        have y4 := hcell 4 _ rfl
        have y5 := hcell 5 _ rfl
        have y6 := hcell 6 _ rfl
        have y7 := hcell 7 _ rfl
        rw [Nat.add_zero] at y0
        have HX : Hid ((∃ P, y.ps[j]? = some P ∧ P.rs.length = n) ∧ (O' 2 j).u = .slice (some ⟨g, 0, none⟩) (n + 12) cap ∧ n + 12 ≤ cap ∧ cap ≤ maxLen) := ⟨⟨P, hP, hn⟩, by rw [hu, hn], by omega, h2⟩
        have hcap : (n : Int) ≤ cap ∧ (cap : Int) ≤ 9223372036854775807 := by have := HX.out.2.2; unfold maxLen at this; omega
        generalize P.name = v0 at y0 hsv
        generalize P.entry = v1 at y1 hsv
        generalize P.action = v2 at y2 hsv
        generalize P.restarts = v3 at y3 hsv
        generalize P.inputs = v4 at y4 hsv
        generalize P.outputs = v5 at y5 hsv
        clear hcell hsv hq hu hBk h1 h2 h3 h4 hn hP
        obtain ⟨Bp, hBp⟩ : ∃ B, B = wr.heap.size := ⟨_, rfl⟩
        obtain ⟨V1, hV1⟩ : ∃ V1, V1 = wr.alloc (.cells #[.string v0, .int .i64 v1, .int .i64 v2, .int .i64 v3, .int .i64 v4, .int .i64 v5, .slice (some ⟨g, 0, none⟩) n cap, .slice sa sn sc] 52) := ⟨_, rfl⟩
        have HJ : Hid (LJ w L H R lo hv rv ((Bp, [.string v0, .int .i64 v1, .int .i64 v2, .int .i64 v3, .int .i64 v4, .int .i64 v5, .slice (some ⟨g, 0, none⟩) n cap, .slice sa sn sc], 52) :: [(E13, [.int .i64 o0, .int .i64 o1, .int .i64 o2], 36), (E, [.int .i64 A, .slice a1 n1 c1, .slice a2 n2 c2, .int .i64 En], 31)]) y O' V1) := by
          rw [hV1, hBp]; exact HI.out.box [.string v0, .int .i64 v1, .int .i64 v2, .int .i64 v3, .int .i64 v4, .int .i64 v5, .slice (some ⟨g, 0, none⟩) n cap, .slice sa sn sc] 52
        go_upto_region 16 with fail
        rw [← hV1, ← hBp]
        clear hV1 hBp y0 y1 y2 y3 y4 y5 y6 y7 x5 HI
        have s6 := (HJ.out.bl _ List.mem_cons_self).1.cell (i := 6) rfl
        go_wp2
        go_loopw [126] (fun i wr => ∃ (k : Nat) (y : Cfg) (O' : Nat → Nat → ObG), k ≤ n ∧ i = .int .i64 k ∧ LJ w L H R lo hv rv ((Bp, [.string v0, .int .i64 v1, .int .i64 v2, .int .i64 v3, .int .i64 v4, .int .i64 v5, .slice (some ⟨g, 0, none⟩) n cap, .slice sa sn sc], 52) :: [(E13, [.int .i64 o0, .int .i64 o1, .int .i64 o2], 36), (E, [.int .i64 A, .slice a1 n1 c1, .slice a2 n2 c2, .int .i64 En], 31)]) y O' wr ∧ (∃ P, y.ps[j]? = some P ∧ P.rs.length = n) ∧ (O' 2 j).u = .slice (some ⟨g, 0, none⟩) (n + 12) cap) (fun i _ => n - (intOf i).toNat)
        case atStart => exact ⟨0, y, O', by omega, rfl, HJ.out, HX.out.1, HX.out.2.1⟩
        case round =>
          obtain ⟨k, y2, O2, hk, rfl, hI, hP2, hu2⟩ := hrel
          have HI : Hid (LJ w L H R lo hv rv ((Bp, [.string v0, .int .i64 v1, .int .i64 v2, .int .i64 v3, .int .i64 v4, .int .i64 v5, .slice (some ⟨g, 0, none⟩) n cap, .slice sa sn sc], 52) :: [(E13, [.int .i64 o0, .int .i64 o1, .int .i64 o2], 36), (E, [.int .i64 A, .slice a1 n1 c1, .slice a2 n2 c2, .int .i64 En], 31)]) y2 O2 wr ∧ (∃ P, y2.ps[j]? = some P ∧ P.rs.length = n) ∧ (O2 2 j).u = .slice (some ⟨g, 0, none⟩) (n + 12) cap) := ⟨hI, hP2, hu2⟩
          clear hI hP2 hu2 s6
          have s6 := (HI.out.1.bl _ List.mem_cons_self).1.cell (i := 6) rfl
          by_cases hlk : k < n
          · obtain ⟨⟨v, hc⟩, hfz, y3, O3, hI3⟩ := HI.out.1.page HI.out.2.1 HI.out.2.2 hlk HPG.out
            have HI3 := Hid.mkq2 hI3
            clear hI3
            go_wp2
            go_roundw
            case rel => exact ⟨k + 1, y3, O3, by omega, by go_num, HI3.out⟩
            case measure => simp [intOf]; omega
          · go_wp2
            go_roundw
            case rel => exact ⟨j + 1, y2, O2, by omega, by go_num, HI.out.1.drop⟩
            case measure => simp [intOf]; omega
      · obtain ⟨X, hX⟩ : ∃ X, X = cfgO y O' := ⟨_, rfl⟩
        have HX : Hid (X.In wr wr.heap.size ∧ X = cfgO y O' ∧ X.vs = x.vs ∧ X.pure = y.pure ∧ Bnd X) := by
          have h1 : X.pure = y.pure := by rw [hX]; exact cfgO_pure y O'
          exact ⟨by rw [hX]; exact HI.out.in, hX, by rw [hX, HI.out.vs, HV.out.1], h1, HI.out.bnd.tr h1.symm⟩
        clear hX
        have HBX : ∀ (X' : List (Nat × List Value × TypeId)) (V : World), LJ w L H R lo hv rv X' y O' V → V.cell? ⟨H, 0, none⟩ = some (.int .i64 X.frames) ∧ V.cell? ⟨H, 1, none⟩ = some (.int .i64 X.major) ∧ V.cell? ⟨H, 2, none⟩ = some (.int .i64 X.kernel) ∧ V.cell? ⟨H, 3, none⟩ = some (.int .i64 X.room)
            ∧ V.cell? ⟨H, 4, none⟩ = some (.slice X.ca X.cs.length X.cc) ∧ V.cell? ⟨H, 5, none⟩ = some (.slice X.pa X.ps.length X.pc) ∧ V.cell? ⟨H, 6, none⟩ = some (.slice X.ha X.hs.length X.hc) := fun X' V hI => by
          have h := hI.hB
          rw [HV.out.1, ← HX.out.2.2.1] at h
          exact ⟨h.cell rfl, h.cell rfl, h.cell rfl, h.cell rfl, h.cell rfl, h.cell rfl, h.cell rfl⟩
        have HBX : Hid (∀ (X' : List (Nat × List Value × TypeId)) (V : World), LJ w L H R lo hv rv X' y O' V → _) := HBX
        have HLE : ∀ (b : Nat × List Value × TypeId) (V : World), LJ w L H R lo hv rv [b, (E, [.int .i64 A, .slice a1 n1 c1, .slice a2 n2 c2, .int .i64 En], 31)] y O' V → V.cell? ⟨E, 3, none⟩ = some (.int .i64 En) := fun b V hI =>
          (hI.bl (E, [.int .i64 A, .slice a1 n1 c1, .slice a2 n2 c2, .int .i64 En], 31) (by simp)).1.cell (i := 3) rfl
        have HLE : Hid (∀ (b : Nat × List Value × TypeId) (V : World), LJ w L H R lo hv rv [b, (E, [.int .i64 A, .slice a1 n1 c1, .slice a2 n2 c2, .int .i64 En], 31)] y O' V → _) := HLE
        go_upto_region 22 with fail
        clear x5
        obtain ⟨x0, x1, x2, x3, x4, x5, x6⟩ := HBX.out _ wr HI.out
        go_wp2_with fail
        refine (CopiedR_any X wr wr.heap.size HX.out.1 (Nat.le_refl _) HX.out.2.2.2.2).mono ?_
        rintro e w11 ⟨O2, lo2, rfl, hF2, hCQ, hlo2, hK⟩
        obtain ⟨Y, hY⟩ : ∃ Y, Y = cfgO X O2 := ⟨_, rfl⟩
        rw [← hY]
        have HY : Hid (LJ w L H R lo hv rv [(E13, [.int .i64 o0, .int .i64 o1, .int .i64 o2], 36), (E, [.int .i64 A, .slice a1 n1 c1, .slice a2 n2 c2, .int .i64 En], 31)] y O' w11 ∧ X.In w11 wr.heap.size ∧ Y.In w11 w11.heap.size ∧ X.pure = Y.pure ∧ wr.heap.size ≤ w11.heap.size) :=
          ⟨HI.out.kept hK, HX.out.1.keeps (Nat.le_refl _) hK, by rw [hY]; exact (CQ.beg hF2 hCQ).in HX.out.1, by rw [hY, cfgO_pure], hK.size⟩
        have HF2 : Hid (FamO lo2 w11 O2 ∧ CQ X X.cs.length X.ps.length X.hs O2 ∧ wr.heap.size ≤ lo2 ∧ Y = cfgO X O2 ∧ E13 < wr.heap.size) := ⟨hF2, hCQ, hlo2, hY, (HI.out.bl (E13, [.int .i64 o0, .int .i64 o1, .int .i64 o2], 36) (by simp)).1.lt⟩
        clear hF2 hCQ hlo2 hK hY x0 x1 x2 x3 x4 x5 x6
        obtain ⟨D, hD⟩ : ∃ D, D = w11.heap.size := ⟨_, rfl⟩
        obtain ⟨V2, hV2⟩ : ∃ V2, V2 = w11.alloc (.cells Y.vs.toArray 26) := ⟨_, rfl⟩
        have HZ : Hid (LJ w L H R lo hv rv [(E13, [.int .i64 o0, .int .i64 o1, .int .i64 o2], 36), (E, [.int .i64 A, .slice a1 n1 c1, .slice a2 n2 c2, .int .i64 En], 31)] y O' V2 ∧ One w11 Y D w11.heap.size V2 ∧ X.In V2 wr.heap.size ∧ wr.heap.size ≤ V2.heap.size) := by
          have k6 : Keeps (fun _ => False) w11 V2 := by rw [hV2]; exact (Keeps.refl _ _).alloc _
          refine ⟨HY.out.1.kept k6, ?_, HY.out.2.1.keeps HY.out.2.2.2.2 k6, Nat.le_trans HY.out.2.2.2.2 k6.size⟩
          rw [hD, hV2]
          exact One.mk' HY.out.2.2.1 (Nat.le_refl _)
        go_upto_region 23 with fail
        rw [← hV2, ← hD]
        clear hV2 hD HI
        obtain ⟨c0, c1', c2', c3, c4, c5, c6⟩ := HZ.out.2.1.cells
        have HC := Hid.mkq2 (rOf_any Y V2 w11.heap.size HZ.out.2.1.cin HZ.out.2.1.nn)
        go_wp2_with fail
        refine HC.out.mono ?_
        rintro e w12 hP
        have hK := hP.1
        obtain ⟨A2, En2, er2, g1, m3, f3, g2, m4, f4, rfl, hR⟩ := hP.letters2
        obtain ⟨V3, hV3⟩ : ∃ V3, V3 = w12.alloc (.cells #[.int .i64 A2, .slice g1 m3 f3, .slice g2 m4 f4, .int .i64 En2] 31) := ⟨_, rfl⟩
        obtain ⟨E23, hE23⟩ : ∃ E23, E23 = w12.heap.size := ⟨_, rfl⟩
        have H3 : Hid (LJ w L H R lo hv rv [(E13, [.int .i64 o0, .int .i64 o1, .int .i64 o2], 36), (E, [.int .i64 A, .slice a1 n1 c1, .slice a2 n2 c2, .int .i64 En], 31)] y O' V3 ∧ One w11 Y D w11.heap.size V3 ∧ X.In V3 wr.heap.size ∧ wr.heap.size ≤ V3.heap.size ∧ OfS Y V2.heap.size A2 En2 er2 g1 m3 f3 g2 m4 f4 V3 ∧ Blk V3 E23 [.int .i64 A2, .slice g1 m3 f3, .slice g2 m4 f4, .int .i64 En2] 31) := by
          have k1 : Keeps (fun _ => False) V2 V3 := by rw [hV3]; exact hK.alloc _
          have k2 : Keeps (fun _ => False) w12 V3 := by rw [hV3]; exact (Keeps.refl _ _).alloc _
          exact ⟨HZ.out.1.kept k1, HZ.out.2.1.kept k1, HZ.out.2.2.1.keeps HZ.out.2.2.2 k1, Nat.le_trans HZ.out.2.2.2 k1.size, hR.grow k2, by rw [hV3, hE23]; exact Blk.new _ _ _⟩
        have HG23 : Hid (wr.heap.size ≤ E23 ∧ wr.heap.size ≤ V2.heap.size) := by rw [hE23]; exact ⟨Nat.le_trans HZ.out.2.2.2 hK.size, HZ.out.2.2.2⟩
        clear hP hK hR HC c0 c1' c2' c3 c4 c5 c6 HZ
        go_upto_region 24 with fail
        rw [← hV3, ← hE23]
        clear hV3 hE23
        obtain ⟨c0, c1', c2', c3, c4, c5, c6⟩ := H3.out.2.1.cells
        have l3 := HLE.out _ V3 H3.out.1
        obtain ⟨s0, s1, s2, se, hown⟩ := own_let Y T
        have HOW : Hid (ownA Y T = (⟨s0, s1, s2⟩, se)) := hown
        clear hown
        have HC := Hid.mkq2 (own_r (x := Y) rfl T HT.out HOW.out V3 w11.heap.size H3.out.2.1.cin H3.out.2.1.nn)
        go_wp2_with fail
        refine HC.out.mono ?_
        rintro e w13 ⟨rfl, hK⟩
        obtain ⟨V4, hV4⟩ : ∃ V4, V4 = w13.alloc (.cells #[.int .i64 s0, .int .i64 s1, .int .i64 s2] 36) := ⟨_, rfl⟩
        obtain ⟨E25, hE25⟩ : ∃ E25, E25 = w13.heap.size := ⟨_, rfl⟩
        have H4 : Hid (LJ w L H R lo hv rv [(E13, [.int .i64 o0, .int .i64 o1, .int .i64 o2], 36), (E, [.int .i64 A, .slice a1 n1 c1, .slice a2 n2 c2, .int .i64 En], 31)] y O' V4 ∧ One w11 Y D w11.heap.size V4 ∧ X.In V4 wr.heap.size ∧ wr.heap.size ≤ V4.heap.size ∧ OfS Y V2.heap.size A2 En2 er2 g1 m3 f3 g2 m4 f4 V4 ∧ Blk V4 E23 [.int .i64 A2, .slice g1 m3 f3, .slice g2 m4 f4, .int .i64 En2] 31 ∧ Blk V4 E25 [.int .i64 s0, .int .i64 s1, .int .i64 s2] 36) := by
          have k1 : Keeps (fun _ => False) V3 V4 := by rw [hV4]; exact hK.alloc _
          exact ⟨H3.out.1.kept k1, H3.out.2.1.kept k1, H3.out.2.2.1.keeps H3.out.2.2.2.1 k1, Nat.le_trans H3.out.2.2.2.1 k1.size, H3.out.2.2.2.2.1.grow k1, H3.out.2.2.2.2.2.kept k1 fun h => h, by rw [hV4, hE25]; exact Blk.new _ _ _⟩
        have HG25 : Hid (wr.heap.size ≤ E25) := by rw [hE25]; exact Nat.le_trans H3.out.2.2.2.1 hK.size
        clear hK HC c0 c1' c2' c3 c4 c5 c6 l3 H3
        go_upto_region 25 with fail
        rw [← hV4, ← hE25]
        clear hV4 hE25
        obtain ⟨x0, x1, x2, x3, x4, x5, x6⟩ := HBX.out _ V4 H4.out.1
        have HC := Hid.mkq2 (Of_any X V4 wr.heap.size H4.out.2.2.1 H4.out.2.2.2.1)
        go_wp2_with fail
        refine HC.out.mono ?_
        rintro e w14 hP
        have hK := hP.1
        obtain ⟨A3, En3, er3, i1, m5, f5, i2, m6, f6, rfl, hR⟩ := hP.letters2
        have hR := hR.tr HY.out.2.2.2.1
        obtain ⟨V5, hV5⟩ : ∃ V5, V5 = w14.alloc (.cells #[.int .i64 A3, .slice i1 m5 f5, .slice i2 m6 f6, .int .i64 En3] 31) := ⟨_, rfl⟩
        obtain ⟨E27, hE27⟩ : ∃ E27, E27 = w14.heap.size := ⟨_, rfl⟩
        have H5 : Hid (LJ w L H R lo hv rv [(E13, [.int .i64 o0, .int .i64 o1, .int .i64 o2], 36), (E, [.int .i64 A, .slice a1 n1 c1, .slice a2 n2 c2, .int .i64 En], 31)] y O' V5 ∧ One w11 Y D w11.heap.size V5 ∧ X.In V5 wr.heap.size ∧ wr.heap.size ≤ V5.heap.size ∧ OfS Y V2.heap.size A2 En2 er2 g1 m3 f3 g2 m4 f4 V5 ∧ Blk V5 E23 [.int .i64 A2, .slice g1 m3 f3, .slice g2 m4 f4, .int .i64 En2] 31 ∧ Blk V5 E25 [.int .i64 s0, .int .i64 s1, .int .i64 s2] 36 ∧ OfS Y V4.heap.size A3 En3 er3 i1 m5 f5 i2 m6 f6 V5 ∧ Blk V5 E27 [.int .i64 A3, .slice i1 m5 f5, .slice i2 m6 f6, .int .i64 En3] 31) := by
          have k1 : Keeps (fun _ => False) V4 V5 := by rw [hV5]; exact hK.alloc _
          have k2 : Keeps (fun _ => False) w14 V5 := by rw [hV5]; exact (Keeps.refl _ _).alloc _
          exact ⟨H4.out.1.kept k1, H4.out.2.1.kept k1, H4.out.2.2.1.keeps H4.out.2.2.2.1 k1, Nat.le_trans H4.out.2.2.2.1 k1.size, H4.out.2.2.2.2.1.grow k1, H4.out.2.2.2.2.2.1.kept k1 (fun h => h), H4.out.2.2.2.2.2.2.kept k1 (fun h => h), hR.grow k2, by rw [hV5, hE27]; exact Blk.new _ _ _⟩
        have HG27 : Hid (wr.heap.size ≤ E27 ∧ wr.heap.size ≤ V4.heap.size) := by rw [hE27]; exact ⟨Nat.le_trans H4.out.2.2.2.1 hK.size, H4.out.2.2.2.1⟩
        clear hP hK hR HC x0 x1 x2 x3 x4 x5 x6 H4
        go_upto_region 26 with fail
        rw [← hV5, ← hE27]
        clear hV5 hE27
        obtain ⟨x0, x1, x2, x3, x4, x5, x6⟩ := HBX.out _ V5 H5.out.1
        have l3 := HLE.out _ V5 H5.out.1
        have HC := Hid.mkq2 (own_p HY.out.2.2.2.1 T HT.out HOW.out V5 wr.heap.size H5.out.2.2.1 H5.out.2.2.2.1)
        go_wp2_with fail
        refine HC.out.mono ?_
        rintro e w15 ⟨rfl, hK⟩
        have hBo : Blk w15 E13 [.int .i64 o0, .int .i64 o1, .int .i64 o2] 36 := (H5.out.1.bl (E13, [.int .i64 o0, .int .i64 o1, .int .i64 o2], 36) (by simp)).1.kept hK fun h => h
        have u0 := hBo.cell (i := 0) rfl
        have u1 := hBo.cell (i := 1) rfl
        have u2 := hBo.cell (i := 2) rfl
        have z0 := hBo.frozen 0
        have z1 := hBo.frozen 1
        have z2 := hBo.frozen 2
        obtain ⟨V6, hV6⟩ : ∃ V6, V6 = ((w15.setCell ⟨E13, 0, none⟩ (.int .i64 s0)).setCell ⟨E13, 1, none⟩ (.int .i64 s1)).setCell ⟨E13, 2, none⟩ (.int .i64 s2) := ⟨_, rfl⟩
        obtain ⟨N6, hN6⟩ : ∃ N6, N6 = V6.heap.size := ⟨_, rfl⟩
        have H6 : Hid (FinI w L H R lo hv rv [(E, [.int .i64 A, .slice a1 n1 c1, .slice a2 n2 c2, .int .i64 En], 31)] y X Y O' D E23 E25 E27 E13 V2.heap.size V4.heap.size N6 A2 En2 er2 A3 En3 er3 s0 s1 s2 g1 g2 i1 i2 m3 f3 m4 f4 m5 f5 m6 f6 V6) := by
          obtain ⟨j1, j2, j3, j4, j5, j6, j7, j8, j9⟩ := H5.out
          obtain ⟨hF2, hCQ, hlo2, hYe, hlt13⟩ := HF2.out
          have kS := set3b hBo (.int .i64 s0) (.int .i64 s1) (.int .i64 s2)
          rw [← hV6] at kS
          have k15 : Keeps (· = E13) V5 V6 := (hK.mono fun _ _ h => h.elim).trans kS.2 fun _ _ h => h
          have k11 : Keeps (· = E13) w11 V6 := (j2.keeps.mono fun _ _ h => h.elim).trans k15 fun _ _ h => h
          have hLJ : LJ w L H R lo hv rv [(E, [.int .i64 A, .slice a1 n1 c1, .slice a2 n2 c2, .int .i64 En], 31)] y O' V6 :=
            (j1.kept hK).over kS.2 HN.out.1 HN.out.2.1 HN.out.2.2.1 fun e he => by rw [List.mem_singleton] at he; subst he; exact HN.out.2.2.2
          have hD := j2.lo
          have hwr := HY.out.2.2.2.2
          have q23 := HG23.out
          have q25 := HG25.out
          have q27 := HG27.out
          have hF6 : FamO lo2 V6 O2 := hF2.kept k11 fun i j k hk e => by have := hF2.low i j k hk; omega
          refine ⟨hLJ, j2.cfg.kept k15 (by omega), ?_, ?_, by omega, j5.past k15 fun k e => by omega, j6.kept k15 (by omega), j7.kept k15 (by omega), j8.past k15 fun k e => by omega, j9.kept k15 (by omega), kS.1⟩
          · rw [HX.out.2.1, hN6]; exact hLJ.in
          · rw [hYe, hN6]; exact (CQ.beg hF6 hCQ).in HX.out.1
        clear hBo hK HC x0 x1 x2 x3 x4 x5 x6 l3 H5
        go_upto_region 27 with fail
        rw [← hV6]
        clear hV6 hN6 u0 u1 u2 z0 z1 z2
        obtain ⟨N2, hN2⟩ : ∃ v, ndN Y = v := ⟨_, rfl⟩
        obtain ⟨N3, hN3⟩ : ∃ v, ndE Y = v := ⟨_, rfl⟩
        have HND : Hid (ndN Y = N2 ∧ ndE Y = N3) := ⟨hN2, hN3⟩
        clear hN2 hN3
        obtain ⟨x0, x1, x2, x3, x4, x5, x6⟩ := HBX.out _ V6 H6.out.lj
        have HC := Hid.mkq2 (need_p HY.out.2.2.2.1 HND.out.1 HND.out.2 V6 N6 H6.out.xin H6.out.nn)
        go_wp2_with fail
        refine HC.out.mono ?_
        rintro e w17 ⟨rfl, hK⟩
        have H7 : Hid (FinI w L H R lo hv rv [(E, [.int .i64 A, .slice a1 n1 c1, .slice a2 n2 c2, .int .i64 En], 31)] y X Y O' D E23 E25 E27 E13 V2.heap.size V4.heap.size N6 A2 En2 er2 A3 En3 er3 s0 s1 s2 g1 g2 i1 i2 m3 f3 m4 f4 m5 f5 m6 f6 w17) := H6.out.kept hK
        clear hK HC H6 x0 x1 x2 x3 x4 x5 x6
        have c0 := H7.out.d.cell (i := 0) rfl
        have c1' := H7.out.d.cell (i := 1) rfl
        have c2' := H7.out.d.cell (i := 2) rfl
        have c3 := H7.out.d.cell (i := 3) rfl
        have c4 := H7.out.d.cell (i := 4) rfl
        have c5 := H7.out.d.cell (i := 5) rfl
        have c6 := H7.out.d.cell (i := 6) rfl
        have HC := Hid.mkq2 (need_r (x := Y) rfl HND.out.1 HND.out.2 w17 N6 H7.out.yin H7.out.nn)
        go_wp2_with fail
        refine HC.out.mono ?_
        rintro e w18 ⟨rfl, hK⟩
        have H8 : Hid (FinI w L H R lo hv rv [(E, [.int .i64 A, .slice a1 n1 c1, .slice a2 n2 c2, .int .i64 En], 31)] y X Y O' D E23 E25 E27 E13 V2.heap.size V4.heap.size N6 A2 En2 er2 A3 En3 er3 s0 s1 s2 g1 g2 i1 i2 m3 f3 m4 f4 m5 f5 m6 f6 w18) := H7.out.kept hK
        clear hK HC H7 c0 c1' c2' c3 c4 c5 c6
        have z0 := H8.out.b27.cell (i := 0) rfl
        have z1 := H8.out.b27.cell (i := 1) rfl
        have z2 := H8.out.b27.cell (i := 2) rfl
        have z3 := H8.out.b27.cell (i := 3) rfl
        have l0 := H8.out.b23.cell (i := 0) rfl
        have l1 := H8.out.b23.cell (i := 1) rfl
        have l2 := H8.out.b23.cell (i := 2) rfl
        have l3 := H8.out.b23.cell (i := 3) rfl
        have hSM := same_of H8.out.o3 H8.out.o2
        have HSM := Hid.mkq2 hSM.2.2
        have e32 := hSM.1
        clear hSM
        subst e32
        go_wp2_with fail
        refine HSM.out.mono ?_
        rintro e w19 ⟨rfl, hK⟩
        have H9 : Hid (FinI w L H R lo hv rv [(E, [.int .i64 A, .slice a1 n1 c1, .slice a2 n2 c2, .int .i64 En], 31)] y X Y O' D E23 E25 E27 E13 V2.heap.size V4.heap.size N6 A2 En2 er3 A3 En3 er3 s0 s1 s2 g1 g2 i1 i2 m3 f3 m4 f4 m5 f5 m6 f6 w19) := H8.out.kept hK
        clear hK HSM H8 z0 z1 z2 z3 l0 l1 l2 l3
        obtain ⟨x0, x1, x2, x3, x4, x5, x6⟩ := HBX.out _ w19 H9.out.lj
        have c0 := H9.out.d.cell (i := 0) rfl
        have c1' := H9.out.d.cell (i := 1) rfl
        have c2' := H9.out.d.cell (i := 2) rfl
        have c3 := H9.out.d.cell (i := 3) rfl
        have c4 := H9.out.d.cell (i := 4) rfl
        have c5 := H9.out.d.cell (i := 5) rfl
        have c6 := H9.out.d.cell (i := 6) rfl
        have t0 := H9.out.b25.cell (i := 0) rfl
        have t1 := H9.out.b25.cell (i := 1) rfl
        have t2 := H9.out.b25.cell (i := 2) rfl
        have u0 := H9.out.b13.cell (i := 0) rfl
        have u1 := H9.out.b13.cell (i := 1) rfl
        have u2 := H9.out.b13.cell (i := 2) rfl
        have r0' := H9.out.lj.rB.cell (i := 0) (v := .slice d0 r0 p0) (by rw [HV.out.2]; rfl)
        have r1' := H9.out.lj.rB.cell (i := 1) (v := .slice d1 r1 p1) (by rw [HV.out.2]; rfl)
        have r2' := H9.out.lj.rB.cell (i := 2) (v := .slice d2 r2 p2) (by rw [HV.out.2]; rfl)
        have r3' := H9.out.lj.rB.cell (i := 3) (v := .slice d3 r3 p3) (by rw [HV.out.2]; rfl)
        have r4' := H9.out.lj.rB.cell (i := 4) (v := .slice d4 r4 p4) (by rw [HV.out.2]; rfl)
        have r5' := H9.out.lj.rB.cell (i := 5) (v := .slice d5 r5 p5) (by rw [HV.out.2]; rfl)
        have HC : Calls Try.prog 14 #[X.v, .agg (roomV O').toArray, Y.v] w19 fun e w' => e = .returned (.bool true) ∧ Keeps (fun _ => False) w19 w' := by
          have hp := HY.out.2.2.2.1
          have hpy : y.pure = Y.pure := HX.out.2.2.2.1.symm.trans hp
          obtain ⟨l1, l2, l3⟩ := pure_len hpy
          have hh : y.hs = Y.hs := congrArg PCfg.hs hpy
          refine Kept_any X Y O' lo w19 H9.out.xin.ok H9.out.yin.ok hp (HX.out.2.2.2.2.tr hp) H9.out.lj.fam ?_
          rw [← l1, ← l2, ← hh]
          exact RP.tr hpy H9.out.lj.rp
        rw [H9.out.lj.rvs, HV.out.2] at HC
        have HC : Hid (Calls _ _ _ _ _) := HC
        go_wp2_with fail
        refine HC.out.mono ?_
        rintro e w20 ⟨rfl, hK⟩
        have H10 : Hid (FinI w L H R lo hv rv [(E, [.int .i64 A, .slice a1 n1 c1, .slice a2 n2 c2, .int .i64 En], 31)] y X Y O' D E23 E25 E27 E13 V2.heap.size V4.heap.size N6 A2 En2 er3 A3 En3 er3 s0 s1 s2 g1 g2 i1 i2 m3 f3 m4 f4 m5 f5 m6 f6 w20) := H9.out.kept hK
        clear hK HC x0 x1 x2 x3 x4 x5 x6 c0 c1' c2' c3 c4 c5 c6 t0 t1 t2 u0 u1 u2 r0' r1' r2' r3' r4' r5'
        go_wp2
        go_ret
        exact ⟨rfl, H10.out.lj.keeps.mono fun b hb h => by have := H10.out.lj.lo; omega⟩
end Go.Proofs.Ythaoopaafdgioab
