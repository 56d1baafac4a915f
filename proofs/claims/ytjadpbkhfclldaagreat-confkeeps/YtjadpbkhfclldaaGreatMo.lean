import Derived.Test.YtjadpbkhfclldaaGreatMn
import Derived.Test.YtjadpbkhfclldaaGreatKw
import Derived.Test.YtjadpbkhfclldaaGreatKd
import Derived.Test.YtjadpbkhfclldaaGreatKy
import Derived.Test.YtjadpbkhfclldaaGreatJPx
import Derived.Deep.RegionHeld2
import Derived.Deep.RegionHeld3
namespace Go.Proofs.YtjadpbkhfclldaaGreat
open Go.RowKit Gw
set_option linter.unusedVariables false
set_option linter.unusedSimpArgs false
set_option maxRecDepth 8000

set_option maxHeartbeats 16000000 in
theorem confKeeps_any (c : Cfg) (w : World) (N : Nat) (hi : c.In w N) (hN : N ≤ w.heap.size) :
    Calls Tryz.prog 3 #[c.v] w fun e w' => e = .returned (.bool true) ∧ Keeps (fun _ => False) w w' := by
  obtain ⟨W, hW⟩ : ∃ W, W = c.laid w := ⟨_, rfl⟩
  obtain ⟨C, hC⟩ : ∃ C, C = w.heap.size := ⟨_, rfl⟩
  have HO : Hid (One w c C N W) := by rw [hW, hC]; exact One.mk' hi hN
  clear hi hN
  unfold Cfg.laid at hW
  go_enter Tryz.func3, Tryz.ntmps3
  go_wp2_with fail
  rw [← hW, ← hC]
  clear hW hC
  refine (vast_any c W N HO.out.cin HO.out.nn).mono ?_
  rintro e w1 ⟨rfl | ⟨rfl, hsm⟩, hK⟩
  · have HO1 : Hid (One w c C N w1) := HO.out.kept hK
    clear hK
    go_wp2
    go_ret
    exact ⟨rfl, HO1.out.keeps⟩
  · have HO1 : Hid (One w c C N w1 ∧ Bnd c) := ⟨HO.out.kept hK, hsm.bnd⟩
    clear hK hsm HO
    obtain ⟨q0, q1, q2, q3, q4, q5, q6⟩ := HO1.out.1.cells
    go_upto_region 3 with fail
    go_wp2_with fail
    refine (rencode_one N c w1 HO1.out.1.cin HO1.out.1.nn).mono ?_
    rintro e w2 ⟨hK2, wa, wc, rfl, hsg, hwc, hwa⟩
    obtain ⟨F, hF⟩ : ∃ F, F = (encF c).length := ⟨_, rfl⟩
    obtain ⟨K, hKK⟩ : ∃ K, K = encK c := ⟨_, rfl⟩
    rw [← hF, ← hKK]
    rw [← hF] at hwc
    have HE : Hid (F = (encF c).length ∧ K = encK c) := ⟨hF, hKK⟩
    have HO2 : Hid (One w c C N w2 ∧ Bnd c ∧ Seg w2 wa (encF c) ∧ (F ≤ wc ∧ wc ≤ maxLen) ∧ ∀ y, wa = some y → y.block < w2.heap.size) := ⟨HO1.out.1.kept hK2, HO1.out.2, hsg, hwc, hwa⟩
    clear hK2 hsg hwc hwa hF hKK HO1 q0 q1 q2 q3 q4 q5 q6
    obtain ⟨q0, q1, q2, q3, q4, q5, q6⟩ := HO2.out.1.cells
    go_upto_region 4 with fail
    go_wp2_with fail
    refine (CopiedR_any c w2 N HO2.out.1.cin HO2.out.1.nn HO2.out.2.1).mono ?_
    rintro e w3 ⟨O1, lo1, rfl, hF1, hCQ, hlo1, hK3⟩
    obtain ⟨was, hwas⟩ : ∃ X, X = cfgO c O1 := ⟨_, rfl⟩
    rw [← hwas]
    obtain ⟨S, hS⟩ : ∃ A, A = w3.heap.size := ⟨_, rfl⟩
    obtain ⟨W3, hW3⟩ : ∃ W, W = w3.alloc (.cells was.vs.toArray 26) := ⟨_, rfl⟩
    have HO3 : Hid (One w c C N W3 ∧ Bnd c ∧ Seg W3 wa (encF c) ∧ (F ≤ wc ∧ wc ≤ maxLen) ∧ (∀ y, wa = some y → y.block < S) ∧ was.In W3 S ∧ Blk W3 S was.vs 26 ∧ was.pure = c.pure ∧ S < W3.heap.size ∧ w.heap.size ≤ S) := by
      have ka : Keeps (fun _ => False) w3 W3 := by rw [hW3]; exact (Keeps.refl _ _).alloc _
      have hin : was.In w3 w3.heap.size := by rw [hwas]; exact (CQ.beg hF1 hCQ).in HO2.out.1.cin
      have h3 := HO2.out.1.kept hK3
      exact ⟨h3.kept ka, HO2.out.2.1, (HO2.out.2.2.1.kept hK3 fun _ _ e => e).kept ka fun _ _ e => e, HO2.out.2.2.2.1, fun y hy => by rw [hS]; exact Nat.lt_of_lt_of_le (HO2.out.2.2.2.2 y hy) hK3.size,
        by rw [hS]; exact hin.keeps (Nat.le_refl _) ka, by rw [hW3, hS]; exact Blk.new _ _ _, by rw [hwas, cfgO_pure], by rw [hW3, hS]; simp, by rw [hS]; exact h3.keeps.size⟩
    clear hF1 hCQ hlo1 hK3 hwas HO2
    go_upto_region 5 with fail
    rw [← hW3, ← hS]
    clear hS hW3 q0 q1 q2 q3 q4 q5 q6
    obtain ⟨q0, q1, q2, q3, q4, q5, q6⟩ := HO3.out.1.cells
    go_wp2_with fail
    refine (Roomed_any c W3 N HO3.out.1.cin HO3.out.1.nn HO3.out.2.1).mono ?_
    rintro e w4 ⟨O, lo, rfl, hF4, hRP, hlo, hK4⟩
    rw [cfgV_eq hF4]
    obtain ⟨x, hx⟩ : ∃ x, x = cfgO c O := ⟨_, rfl⟩
    obtain ⟨d0, p0, e0, _⟩ := hF4.form 0 0
    obtain ⟨d1, p1, e1, _⟩ := hF4.form 0 1
    obtain ⟨d2, p2, e2, _⟩ := hF4.form 0 2
    obtain ⟨d3, p3, e3, _⟩ := hF4.form 0 3
    obtain ⟨d4, p4, e4, _⟩ := hF4.form 0 4
    obtain ⟨d5, p5, e5, _⟩ := hF4.form 0 5
    have er' : roomV O = [.slice d0 (O 0 0).n p0, .slice d1 (O 0 1).n p1, .slice d2 (O 0 2).n p2, .slice d3 (O 0 3).n p3, .slice d4 (O 0 4).n p4, .slice d5 (O 0 5).n p5] := by unfold roomV; rw [e0, e1, e2, e3, e4, e5]
    rw [er', ← hx]
    generalize (O 0 0).n = r0 at er' ⊢
    generalize (O 0 1).n = r1 at er' ⊢
    generalize (O 0 2).n = r2 at er' ⊢
    generalize (O 0 3).n = r3 at er' ⊢
    generalize (O 0 4).n = r4 at er' ⊢
    generalize (O 0 5).n = r5 at er' ⊢
    obtain ⟨H, hH⟩ : ∃ H, H = w4.heap.size := ⟨_, rfl⟩
    obtain ⟨R, hR⟩ : ∃ R, R = w4.heap.size + 1 := ⟨_, rfl⟩
    obtain ⟨W4, hW4⟩ : ∃ W, W = (w4.alloc (.cells x.vs.toArray 26)).alloc (.cells #[.slice d0 r0 p0, .slice d1 r1 p1, .slice d2 r2 p2, .slice d3 r3 p3, .slice d4 r4 p4, .slice d5 r5 p5] 36) := ⟨_, rfl⟩
    obtain ⟨Q, hQ⟩ : ∃ Q, Q = W4.heap.size := ⟨_, rfl⟩
    have HL : Hid (LWt S lo H Q (encF c) wa was x w W4 ∧ x.LstsR W4 lo ∧ Blk W4 R [.slice d0 r0 p0, .slice d1 r1 p1, .slice d2 r2 p2, .slice d3 r3 p3, .slice d4 r4 p4, .slice d5 r5 p5] 36) := by
      obtain ⟨b1, b2, b3, b4, b5, b6, b7, b8, b9, b10⟩ := HO3.out
      have kW : Keeps (fun _ => False) w4 W4 := by rw [hW4]; exact ((Keeps.refl _ _).alloc _).alloc _
      have k34 : Keeps (fun _ => False) W3 W4 := hK4.trans kW fun _ _ e => e
      have hsz : W4.heap.size = w4.heap.size + 2 := by rw [hW4]; simp
      have hl4 : x.LstsR w4 lo := by rw [hx]; exact room_lst hF4 hRP b1.cin
      have hlo4 := hF4.siz
      refine ⟨⟨(b1.kept k34).keeps, b3.kept k34 fun _ _ e => e, b5, b6.keeps (Nat.le_of_lt b9) k34, b7.kept k34 fun e => e, ?_, ?_, fun k hk => by have := hl4.rangeB hk; omega⟩, hl4.kept kW fun _ e => e.elim, ?_⟩
      · rw [hH, hW4]; exact (Blk.new w4 x.vs.toArray 26).alloc _
      · omega
      · have := Blk.new (w4.alloc (.cells x.vs.toArray 26)) #[.slice d0 r0 p0, .slice d1 r1 p1, .slice d2 r2 p2, .slice d3 r3 p3, .slice d4 r4 p4, .slice d5 r5 p5] 36
        rw [hR, hW4]; simpa using this
    have HF : Hid (FamO lo W4 O ∧ RP c c.cs.length c.ps.length c.hs 12 O ∧ roomV O = [.slice d0 r0 p0, .slice d1 r1 p1, .slice d2 r2 p2, .slice d3 r3 p3, .slice d4 r4 p4, .slice d5 r5 p5] ∧ x.pure = c.pure ∧ was.pure = c.pure ∧ Bnd c ∧ (F ≤ wc ∧ wc ≤ maxLen) ∧ (∀ X ∈ c.cs, ∀ y ∈ X.ws, y.Fine)) := by
      have kW : Keeps (fun _ => False) w4 W4 := by rw [hW4]; exact ((Keeps.refl _ _).alloc _).alloc _
      exact ⟨hF4.kept kW fun _ _ _ _ h => h, hRP, er', by rw [hx]; exact cfgO_pure c O, HO3.out.2.2.2.2.2.2.2.1, HO3.out.2.1, HO3.out.2.2.2.1, HO3.out.1.cin.fine⟩
    clear hQ hF4 hRP hlo hK4 hx er' e0 e1 e2 e3 e4 e5 HO3
    go_upto_region 6 with fail
    rw [← hW4, ← hR, ← hH]
    clear hW4 hR hH q0 q1 q2 q3 q4 q5 q6
    have HEn : Hid (Calls Tryz.prog 8 #[x.v] W4 fun e w' => Keeps (fun _ => False) W4 w' ∧ ∃ a, e = .returned (.tuple #[.slice a F F, .int .i64 K]) ∧ (K = 0 → ∃ g, a = some ⟨g, 0, none⟩ ∧ Q ≤ g ∧ Blk w' g (bvs (form c)) 5)) := by
      have hin := HL.out.2.1.lsts.in
      have he := enc_pure hin.fine HF.out.2.2.2.2.2.2.2 HF.out.2.2.2.1
      refine (encode_one W4.heap.size x W4 hin (Nat.le_refl _)).mono ?_
      rintro e w' ⟨h1, a, h2, h3, h4⟩
      rw [he.1, he.2, ← HE.out.1, ← HE.out.2] at h2
      rw [he.1, ← HE.out.2, cfgForm x, HF.out.2.2.2.1, ← cfgForm c] at h4
      refine ⟨h1, a, h2, fun e => ?_⟩
      obtain ⟨g, g1, g2, g3⟩ := h4 e
      exact ⟨g, g1, Nat.le_trans HL.out.1.lt.2.2.2.2 g2, g3⟩
    have u0 := (HL.out.1.hb).cell (i := 0) rfl
    have u1 := (HL.out.1.hb).cell (i := 1) rfl
    have u2 := (HL.out.1.hb).cell (i := 2) rfl
    have u3 := (HL.out.1.hb).cell (i := 3) rfl
    have u4 := (HL.out.1.hb).cell (i := 4) rfl
    have u5 := (HL.out.1.hb).cell (i := 5) rfl
    have u6 := (HL.out.1.hb).cell (i := 6) rfl
    go_wp2_with fail
    refine HEn.out.mono ?_
    rintro e w5 ⟨hK5, ba, rfl, hbb⟩
    have HL5 : Hid (LWt S lo H Q (encF c) wa was x w w5 ∧ x.LstsR w5 lo ∧ Blk w5 R [.slice d0 r0 p0, .slice d1 r1 p1, .slice d2 r2 p2, .slice d3 r3 p3, .slice d4 r4 p4, .slice d5 r5 p5] 36) := ⟨HL.out.1.grown hK5, HL.out.2.1.kept hK5 fun _ e => e.elim, HL.out.2.2.kept hK5 fun e => e⟩
    have HB5 : Hid (K = 0 → ∃ g, ba = some ⟨g, 0, none⟩ ∧ Q ≤ g ∧ Blk w5 g (bvs (form c)) 5) := hbb
    have HKp : Hid (Calls Tryz.prog 9 #[x.v, .agg #[.slice d0 r0 p0, .slice d1 r1 p1, .slice d2 r2 p2, .slice d3 r3 p3, .slice d4 r4 p4, .slice d5 r5 p5], was.v] w5 fun e w' => e = .returned (.bool true) ∧ Keeps (fun _ => False) w5 w') := by
      obtain ⟨f1, f2, f3, f4, f5, f6, f7, f8⟩ := HF.out
      obtain ⟨l1, l2, l3⟩ := pure_len f5
      have hh : was.hs = c.hs := congrArg PCfg.hs f5
      have := Kept_any x was O lo w5 (lst_ok HL5.out.2.1) HL5.out.1.si.ok (f4.trans f5.symm) (bnd_pure f5 f6) (f1.kept hK5 fun _ _ _ _ h => h) (by rw [l1, l2, hh]; exact RP.tr f5.symm f2)
      rw [f3] at this
      exact this
    clear hK5 hbb HEn HL
    clear u0 u1 u2 u3 u4 u5 u6
    go_upto_region 7 with fail
    have u0 := (HL5.out.1.hb).cell (i := 0) rfl
    have u1 := (HL5.out.1.hb).cell (i := 1) rfl
    have u2 := (HL5.out.1.hb).cell (i := 2) rfl
    have u3 := (HL5.out.1.hb).cell (i := 3) rfl
    have u4 := (HL5.out.1.hb).cell (i := 4) rfl
    have u5 := (HL5.out.1.hb).cell (i := 5) rfl
    have u6 := (HL5.out.1.hb).cell (i := 6) rfl
    have v0 := (HL5.out.2.2).cell (i := 0) rfl
    have v1 := (HL5.out.2.2).cell (i := 1) rfl
    have v2 := (HL5.out.2.2).cell (i := 2) rfl
    have v3 := (HL5.out.2.2).cell (i := 3) rfl
    have v4 := (HL5.out.2.2).cell (i := 4) rfl
    have v5 := (HL5.out.2.2).cell (i := 5) rfl
    have z0 := (HL5.out.1.sb).cell (i := 0) rfl
    have z1 := (HL5.out.1.sb).cell (i := 1) rfl
    have z2 := (HL5.out.1.sb).cell (i := 2) rfl
    have z3 := (HL5.out.1.sb).cell (i := 3) rfl
    have z4 := (HL5.out.1.sb).cell (i := 4) rfl
    have z5 := (HL5.out.1.sb).cell (i := 5) rfl
    have z6 := (HL5.out.1.sb).cell (i := 6) rfl
    go_wp2_with fail
    refine HKp.out.mono ?_
    rintro e w6 ⟨rfl, hK6⟩
    have HL6 : Hid (LWt S lo H Q (encF c) wa was x w w6 ∧ x.LstsR w6 lo) := ⟨HL5.out.1.grown hK6, HL5.out.2.1.kept hK6 fun _ e => e.elim⟩
    have HB6 : Hid (K = 0 → ∃ g, ba = some ⟨g, 0, none⟩ ∧ Q ≤ g ∧ Blk w6 g (bvs (form c)) 5) := fun e => by
      obtain ⟨g, g1, g2, g3⟩ := HB5.out e
      exact ⟨g, g1, g2, g3.kept hK6 fun e => e⟩
    clear hK6 HKp HL5 HB5
    clear u0 u1 u2 u3 u4 u5 u6 v0 v1 v2 v3 v4 v5 z0 z1 z2 z3 z4 z5 z6
    have u0 := (HL6.out.1.hb).cell (i := 0) rfl
    have u1 := (HL6.out.1.hb).cell (i := 1) rfl
    have u2 := (HL6.out.1.hb).cell (i := 2) rfl
    have u3 := (HL6.out.1.hb).cell (i := 3) rfl
    have u4 := (HL6.out.1.hb).cell (i := 4) rfl
    have u5 := (HL6.out.1.hb).cell (i := 5) rfl
    have u6 := (HL6.out.1.hb).cell (i := 6) rfl
    go_wp2_with fail
    refine (marked_any x w6 lo HL6.out.2).mono ?_
    rintro e w7 ⟨rfl, ⟨x2, hx2, hs2⟩, hK7⟩
    have HL7 : Hid (LWt S lo H Q (encF c) wa was x w w7 ∧ x2.LstsR w7 lo ∧ x.v = x2.v) := ⟨HL6.out.1.kept hK7, hx2, congrArg (fun l : List Value => Value.agg l.toArray) (sk_vs hs2).symm⟩
    have HB7 : Hid (K = 0 → ∃ g, ba = some ⟨g, 0, none⟩ ∧ Q ≤ g ∧ Blk w7 g (bvs (form c)) 5) := fun e => by
      obtain ⟨g, g1, g2, g3⟩ := HB6.out e
      exact ⟨g, g1, g2, g3.kept hK7 fun e => by have := HL6.out.1.xr g e; have := HL6.out.1.lt; omega⟩
    clear hK7 hx2 hs2 HL6 HB6
    clear u0 u1 u2 u3 u4 u5 u6
    have u0 := (HL7.out.1.hb).cell (i := 0) rfl
    have u1 := (HL7.out.1.hb).cell (i := 1) rfl
    have u2 := (HL7.out.1.hb).cell (i := 2) rfl
    have u3 := (HL7.out.1.hb).cell (i := 3) rfl
    have u4 := (HL7.out.1.hb).cell (i := 4) rfl
    have u5 := (HL7.out.1.hb).cell (i := 5) rfl
    have u6 := (HL7.out.1.hb).cell (i := 6) rfl
    have HR7 : Hid (Calls Tryz.prog 5 #[x.v] w7 fun e w' => Keeps (fun _ => False) w7 w' ∧ ∃ a c, e = .returned (.tuple #[.slice a (encF x2).length c, .int .i64 (encK x2)]) ∧ Seg w' a (encF x2)) := by
      rw [HL7.out.2.2]
      refine (rencode_one w7.heap.size x2 w7 HL7.out.2.1.lsts.in (Nat.le_refl _)).mono ?_
      rintro e w' ⟨h1, a, c, h2, h3, -⟩
      exact ⟨h1, a, c, h2, h3⟩
    obtain ⟨F2, hF2⟩ : ∃ F, F = (encF x2).length := ⟨_, rfl⟩
    obtain ⟨K2, hK2⟩ : ∃ K, K = encK x2 := ⟨_, rfl⟩
    rw [← hF2, ← hK2] at HR7
    have HE2 : Hid (F2 = (encF x2).length ∧ K2 = encK x2) := ⟨hF2, hK2⟩
    clear hF2 hK2
    go_wp2_with fail
    refine HR7.out.mono ?_
    rintro e w8 ⟨hK8, oa, oc, rfl, hso⟩
    have HL8 : Hid (LWt S lo H Q (encF c) wa was x w w8 ∧ x2.LstsR w8 lo ∧ Seg w8 oa (encF x2)) := ⟨HL7.out.1.grown hK8, HL7.out.2.1.kept hK8 fun _ e => e.elim, hso⟩
    have HB8 : Hid (K = 0 → ∃ g, ba = some ⟨g, 0, none⟩ ∧ Q ≤ g ∧ Blk w8 g (bvs (form c)) 5) := fun e => by
      obtain ⟨g, g1, g2, g3⟩ := HB7.out e
      exact ⟨g, g1, g2, g3.kept hK8 fun e => e⟩
    have HR8 : Hid (Calls Tryz.prog 8 #[x.v] w8 fun e w' => Keeps (fun _ => False) w8 w' ∧ ∃ a, e = .returned (.tuple #[.slice a F2 F2, .int .i64 K2]) ∧ Seg w' a (encF x2)) := by
      rw [HL7.out.2.2, HE2.out.1, HE2.out.2]
      refine (encode_one w8.heap.size x2 w8 HL8.out.2.1.lsts.in (Nat.le_refl _)).mono ?_
      rintro e w' ⟨h1, a, h2, h3, -⟩
      exact ⟨h1, a, h2, h3⟩
    clear hK8 hso HL7 HB7 HR7
    clear u0 u1 u2 u3 u4 u5 u6
    have u0 := (HL8.out.1.hb).cell (i := 0) rfl
    have u1 := (HL8.out.1.hb).cell (i := 1) rfl
    have u2 := (HL8.out.1.hb).cell (i := 2) rfl
    have u3 := (HL8.out.1.hb).cell (i := 3) rfl
    have u4 := (HL8.out.1.hb).cell (i := 4) rfl
    have u5 := (HL8.out.1.hb).cell (i := 5) rfl
    have u6 := (HL8.out.1.hb).cell (i := 6) rfl
    go_wp2_with fail
    refine HR8.out.mono ?_
    rintro e w9 ⟨hK9, aa, rfl, hsa⟩
    have HL9 : Hid (LWt S lo H Q (encF c) wa was x w w9) := HL8.out.1.grown hK9
    have HB9 : Hid (K = 0 → ∃ g, ba = some ⟨g, 0, none⟩ ∧ Q ≤ g ∧ Blk w9 g (bvs (form c)) 5) := fun e => by
      obtain ⟨g, g1, g2, g3⟩ := HB8.out e
      exact ⟨g, g1, g2, g3.kept hK9 fun e => e⟩
    have HSB : Hid (Calls Tryz.prog 11 #[.slice aa F2 F2, .slice oa F2 oc] w9 fun e w' => e = .returned (.bool true) ∧ Keeps (fun _ => False) w9 w') := by
      rw [HE2.out.1]
      exact sameB_any aa oa _ oc (encF x2) w9 hsa (HL8.out.2.2.kept hK9 fun _ _ e => e)
    clear hK9 hsa HL8 HB8 HR8
    clear u0 u1 u2 u3 u4 u5 u6
    go_wp2_with fail
    refine HSB.out.mono ?_
    rintro e w10 ⟨rfl, hK10⟩
    have HLa : Hid (LWt S lo H Q (encF c) wa was x w w10) := HL9.out.grown hK10
    have HBa : Hid (K = 0 → ∃ g, ba = some ⟨g, 0, none⟩ ∧ Q ≤ g ∧ Blk w10 g (bvs (form c)) 5) := fun e => by
      obtain ⟨g, g1, g2, g3⟩ := HB9.out e
      exact ⟨g, g1, g2, g3.kept hK10 fun e => e⟩
    clear hK10 HL9 HB9 HSB
    by_cases hk0 : K = 0
    · obtain ⟨g, rfl, hg, hgb⟩ := HBa.out hk0
      have h0 := encK_0 (HE.out.2.symm.trans hk0)
      have hf : encF c = form c := by unfold encF; rw [if_pos (HE.out.2.symm.trans hk0)]
      have HT : Hid (Calls Tryz.prog 12 #[.slice (some ⟨g, 0, none⟩) F F, .slice wa F wc, was.v] w10 fun e w' => e = .returned (.bool true) ∧ Keeps (fun k => k = g) w10 w') := by
        have hFF : F = (form c).length := by rw [HE.out.1, hf]
        have hlt := HLa.out.lt
        have hsg := HLa.out.sg
        rw [hf] at hsg
        exact taken_any c was g S wa wc F w10 h0.1 (by rw [cfgD c HF.out.2.2.2.2.2.2.2]) HF.out.2.2.2.2.1 hFF (by omega) (by have := form_pos c; omega) hgb hsg HF.out.2.2.2.2.2.2.1 (fun y hy => by have := HLa.out.ne y hy; omega) HLa.out.si (by omega) HF.out.2.2.2.2.2.1
      have HG : Hid (Q ≤ g) := hg
      clear hf h0 hg hgb HBa
      subst hk0
      have z0 := (HLa.out.sb).cell (i := 0) rfl
      have z1 := (HLa.out.sb).cell (i := 1) rfl
      have z2 := (HLa.out.sb).cell (i := 2) rfl
      have z3 := (HLa.out.sb).cell (i := 3) rfl
      have z4 := (HLa.out.sb).cell (i := 4) rfl
      have z5 := (HLa.out.sb).cell (i := 5) rfl
      have z6 := (HLa.out.sb).cell (i := 6) rfl
      go_wp2_with fail
      refine HT.out.mono ?_
      rintro e w11 ⟨rfl, hK11⟩
      have HKe : Hid (Keeps (fun _ => False) w w11) := HLa.out.kp.trans hK11 fun b hb e => by have := HLa.out.lt; have := HG.out; omega
      clear hK11 HT
      go_wp2
      go_ret
      exact ⟨rfl, HKe.out⟩
    · go_wp2
      go_ret
      exact ⟨rfl, HLa.out.kp⟩
end Go.Proofs.YtjadpbkhfclldaaGreat
