import Derived.Test.YthaoopaafdgioaaXb
namespace Go.Proofs.Ythaoopaafdgioaa
open Go.RowKit
set_option linter.unusedVariables false
set_option linter.unusedSimpArgs false
set_option maxRecDepth 8000

theorem placed_get {D : List Dst} {b k : Int} {j : Nat} {z : Dst} (h : (placed D b k D.length)[j]? = some z) : ∃ d, D[j]? = some d ∧ z = ⟨d.p, d.q, b + j * k⟩ := by
  unfold placed at h
  rw [List.getElem?_mapIdx] at h
  cases hd : D[j]? with
  | none => rw [hd] at h; cases h
  | some d =>
    rw [hd] at h
    simp only [Option.map_some, (List.getElem?_eq_some_iff.1 hd).1, if_true, Option.some.injEq] at h
    exact ⟨d, rfl, h.symm⟩

set_option maxHeartbeats 4000000 in
theorem ownedChannel_any (x : Cfg) (hf : Fit x) (i : Nat) (h : Chn) (hh : x.hs[i]? = some h) (LK SG sp sq : Int) (e1 : LK = chAt x (chB x (16 * x.kernel)) i) (e2 : SG = chAt x (chB x (16 * x.kernel)) i + 2)
    (ad : Option Addr) (cp DL : Nat) (D : List Dst) (hD : D = placed (dstsOf x i) (chAt x (chB x (16 * x.kernel)) i + 2 + h.stg) h.prt (dstsOf x i).length) (hDL : DL = D.length) (w : World) (N : Nat) (hi : x.In w N) (hN : N ≤ w.heap.size) (hl : Lst eDst w 0 ad cp D) :
    Calls Try.prog 24 #[x.v, .agg #[.int .i64 LK, .int .i64 SG, .int .i64 sp, .int .i64 sq, .slice ad DL cp], .int .i64 i] w fun e w' => e = .returned (.bool true) ∧ Keeps (fun _ => False) w w' := by
  obtain ⟨W, hW⟩ : ∃ W, W = (x.laid w).alloc (.cells #[.int .i64 LK, .int .i64 SG, .int .i64 sp, .int .i64 sq, .slice ad DL cp] 59) := ⟨_, rfl⟩
  obtain ⟨C, hC⟩ : ∃ C, C = w.heap.size := ⟨_, rfl⟩
  have HO : Hid (One w x C N W ∧ Blk W (C + 1) [.int .i64 LK, .int .i64 SG, .int .i64 sp, .int .i64 sq, .slice ad DL cp] 59) := by
    rw [hW, hC]
    refine ⟨(One.mk' hi hN).kept ((Keeps.refl _ _).alloc _), ?_⟩
    have := Blk.new (x.laid w) #[.int .i64 LK, .int .i64 SG, .int .i64 sp, .int .i64 sq, .slice ad DL cp] 59
    simpa [Cfg.laid] using this
  have hil : i < x.hs.length := (List.getElem?_eq_some_iff.1 hh).1
  have hkb := Cfg.mayB_iff.1 hf.1
  obtain ⟨hs, _, hd1, hd4⟩ := Cfg.mayB_chn hf.1 hh
  have hpb := Chn.plc_bd hs
  have h2 : 3 ≤ h.stg ∧ h.stg ≤ 137 := by unfold Chn.stg; omega
  have h3 : 4 ≤ h.prt ∧ h.prt ≤ 139 := by unfold Chn.prt; split <;> omega
  have hmc := mem_chansH (chB x (16 * x.kernel)) hil (Nat.le_refl _) hh
  have hall : ∀ p, p ∈ ann (chB x (16 * x.kernel)) (chansH x x.hs.length) → p ∈ pcAll x (16 * x.kernel) := fun p hp => by
    rw [pcAll_eq, head_app]
    exact List.mem_append_left _ (List.mem_cons_of_mem _ (List.mem_append_right _ hp))
  have hce := chAt_bd hf.1 (chB x (16 * x.kernel)) i
  have hcB : chB x (16 * x.kernel) = 16 * x.kernel + 2 + 24 * x.ps.length := rfl
  have HOW : Hid (∀ w', Keeps (fun _ => False) W w' → (Calls Try.prog 22 #[x.v, .int .i64 LK, .int .i64 2, .agg #[.int .i64 6, .int .i64 i, .int .i64 0]] w' fun e w'' => e = .returned (.bool true) ∧ Keeps (fun _ => False) w' w'') ∧
      (Calls Try.prog 22 #[x.v, .int .i64 SG, .int .i64 h.stg, .agg #[.int .i64 7, .int .i64 i, .int .i64 0]] w' fun e w'' => e = .returned (.bool true) ∧ Keeps (fun _ => False) w' w'') ∧
      (∀ (k : Nat) (d : Dst), (dstsOf x i)[k]? = some d → Calls Try.prog 22 #[x.v, .int .i64 (chAt x (chB x (16 * x.kernel)) i + 2 + h.stg + k * h.prt), .int .i64 h.prt, .agg #[.int .i64 8, .int .i64 d.p, .int .i64 d.q]] w' fun e w'' => e = .returned (.bool true) ∧ Keeps (fun _ => False) w' w'')) := fun w' hK => by
    have hO := HO.out.1.kept hK
    refine ⟨owned_any x LK 2 2 ⟨6, i, 0⟩ rfl (by omega) (by omega) (fun j hj => (hf.piece (hall _ hmc.1) (by dsimp only; omega) (by dsimp only; omega)).1) w' N hO.cin hO.nn,
      owned_any x SG h.stg h.stg.toNat ⟨7, i, 0⟩ (by omega) (by omega) (by omega) (fun j hj => (hf.piece (hall _ hmc.2.1) (by dsimp only; omega) (by dsimp only; omega)).1) w' N hO.cin hO.nn,
      fun k d hd => ?_⟩
    have hp := hall _ (hmc.2.2 k d hd)
    have hb := hf.piece hp (t := chAt x (chB x (16 * x.kernel)) i + 2 + h.stg + k * h.prt) (by dsimp only; omega) (by dsimp only; omega)
    exact owned_any x _ h.prt h.prt.toNat ⟨8, d.p, d.q⟩ (by omega) (by omega) (by omega) (fun j hj => (hf.piece hp (by dsimp only; omega) (by dsimp only; omega)).1) w' N hO.cin hO.nn
  have HD : Hid (∀ (k : Nat) (z : Dst), D[k]? = some z → ∃ d : Dst, (dstsOf x i)[k]? = some d ∧ z = ⟨d.p, d.q, chAt x (chB x (16 * x.kernel)) i + 2 + h.stg + k * h.prt⟩) := fun k z hz => by rw [hD] at hz; exact placed_get hz
  have HL : Hid (Lst eDst W 0 ad cp D ∧ DL = D.length ∧ x.hs[i]? = some h) := ⟨hl.kept (show Keeps (fun _ => False) w W by rw [hW]; exact ((Keeps.refl _ _).alloc _).alloc _) fun _ h => h.elim, hDL, hh⟩
  have htc : (DL : Int) ≤ cp ∧ (cp : Int) ≤ 9223372036854775807 := by have := hl.len; unfold maxLen at this; omega
  have hilz : (i : Int) < x.hs.length := by omega
  have hhc : (x.hs.length : Int) ≤ x.hc ∧ (x.hc : Int) ≤ 9223372036854775807 := by have := hi.hlen; unfold maxLen at this; omega
  have HSG : Hid (∀ w, Calls Try.prog 16 #[h.v] w fun e w' => e = .returned (.int .i64 h.stg) ∧ Keeps (fun _ => False) w w') := fun w => by rw [← Chn.stgO_yes hs]; exact Stage_any h w
  have HPT : Hid (∀ w, Calls Try.prog 17 #[h.v] w fun e w' => e = .returned (.int .i64 h.prt) ∧ Keeps (fun _ => False) w w') := fun w => by rw [← Chn.prtO_yes hs]; exact Port_any h w
  obtain ⟨st, hst⟩ : ∃ st, h.stg = st := ⟨_, rfl⟩
  obtain ⟨pt, hpt⟩ : ∃ pt, h.prt = pt := ⟨_, rfl⟩
  rw [hst] at HOW HD HSG
  rw [hpt] at HOW HD HPT
  clear hi hN hl hh hil hkb hs hd1 hd4 hpb h2 h3 hmc hall hce hcB e1 e2 hD hDL hst hpt hf
  unfold Cfg.laid at hW
  go_enter Try.func24, Try.ntmps24
  go_upto_region 1 with fail
  rw [← hW, ← hC]
  clear hW hC
  have HCL : Hid (∀ w', Keeps (fun _ => False) W w' → One w x C N w' ∧ Blk w' (C + 1) [.int .i64 LK, .int .i64 SG, .int .i64 sp, .int .i64 sq, .slice ad DL cp] 59) := fun w' hK => ⟨HO.out.1.kept hK, HO.out.2.kept hK fun e => e⟩
  -- Stage
  obtain ⟨hg, ho, ha, hgo⟩ := HO.out.1.cin.hseg.at HL.out.2.2
  have c6 : W.cell? ⟨C, 6, none⟩ = some (.slice (some ⟨hg, ho, none⟩) x.hs.length x.hc) := by have := HO.out.1.cfg.cell (i := 6) rfl; rw [← ha]; exact this
  have HHC : Hid (∀ w', Keeps (fun _ => False) W w' → w'.cell? ⟨hg, ho + i * 3, none⟩ = some (.int .i64 h.kind) ∧ w'.cell? ⟨hg, ho + i * 3 + 1, none⟩ = some (.int .i64 h.words) ∧ w'.cell? ⟨hg, ho + i * 3 + 2, none⟩ = some (.int .i64 h.depth) ∧ w'.cell? ⟨C, 6, none⟩ = some (.slice (some ⟨hg, ho, none⟩) x.hs.length x.hc)) := fun w' hK => by
    have hO := (HCL.out w' hK).1
    obtain ⟨hg2, ho2, ha2, hgo2⟩ := hO.cin.hseg.at HL.out.2.2
    rw [ha] at ha2
    cases ha2
    have q0 := hgo2 0 _ rfl
    rw [Nat.add_zero] at q0
    exact ⟨q0, hgo2 1 _ rfl, hgo2 2 _ rfl, by have := hO.cfg.cell (i := 6) rfl; rw [← ha]; exact this⟩
  have HXA : Hid (x.ha = some ⟨hg, ho, none⟩) := ha
  obtain ⟨v0, v1, v2, _⟩ := HHC.out W (Keeps.refl _ _)
  have HX : Hid (Calls _ _ _ _ _) := HSG.out W
  clear hgo ha
  go_wp2_with fail
  refine HX.out.mono ?_
  rintro e w2 ⟨rfl, hK2⟩
  have HK : Hid (Keeps (fun _ => False) W w2) := hK2
  clear hK2 HX v0 v1 v2 c6
  obtain ⟨v0, v1, v2, c6⟩ := HHC.out w2 HK.out
  have HX : Hid (Calls _ _ _ _ _) := HPT.out w2
  go_wp2_with fail
  refine HX.out.mono ?_
  rintro e w3 ⟨rfl, hK3⟩
  have HK3 : Hid (Keeps (fun _ => False) W w3) := HK.out.trans hK3 fun _ _ e => e
  clear hK3 HX v0 v1 v2 c6 HK
  obtain ⟨hO, hB⟩ := HCL.out w3 HK3.out
  obtain ⟨q0, q1, q2, q3, q4, q5, q6⟩ := hO.cells
  have p0 := hB.cell (i := 0) rfl
  have p1 := hB.cell (i := 1) rfl
  have HX : Hid (Calls _ _ _ _ _) := (HOW.out w3 HK3.out).1
  clear hO hB
  go_wp2_with fail
  refine HX.out.mono ?_
  rintro e w4 ⟨rfl, hK4⟩
  have HK4 : Hid (Keeps (fun _ => False) W w4) := HK3.out.trans hK4 fun _ _ e => e
  clear hK4 HX q0 q1 q2 q3 q4 q5 q6 p0 p1 HK3
  obtain ⟨hO, hB⟩ := HCL.out w4 HK4.out
  obtain ⟨q0, q1, q2, q3, q4, q5, q6⟩ := hO.cells
  have p0 := hB.cell (i := 0) rfl
  have p1 := hB.cell (i := 1) rfl
  have HX : Hid (Calls _ _ _ _ _) := (HOW.out w4 HK4.out).2.1
  clear hO hB
  go_wp2_with fail
  refine HX.out.mono ?_
  rintro e w5 ⟨rfl, hK5⟩
  have HK5 : Hid (Keeps (fun _ => False) W w5) := HK4.out.trans hK5 fun _ _ e => e
  clear hK5 HX q0 q1 q2 q3 q4 q5 q6 p0 p1 HK4
  obtain ⟨_, hB⟩ := HCL.out w5 HK5.out
  have p4 := hB.cell (i := 4) rfl
  clear hB
  go_wp2
  clear p4
  go_loopw [43] (fun i wr => ∃ j : Nat, j ≤ DL ∧ i = .int .i64 j ∧ Keeps (fun _ => False) W wr) (fun i _ => DL - (intOf i).toNat)
  case atStart => exact ⟨0, by omega, rfl, HK5.out⟩
  case round =>
    obtain ⟨k, hk, rfl, hKr⟩ := hrel
    by_cases hlt : k < DL
    · have hlt' : (k : Int) < DL := by omega
      obtain ⟨z, hz⟩ : ∃ z, D[k]? = some z := ⟨_, List.getElem?_eq_getElem (by have := HL.out.2.1; omega)⟩
      obtain ⟨d, hd, hzd⟩ := HD.out k z hz
      obtain ⟨z1, z2, z3⟩ := z
      simp only [Dst.mk.injEq] at hzd
      obtain ⟨rfl, rfl, hz3⟩ := hzd
      obtain ⟨_, hB⟩ := HCL.out wr hKr
      have p4 := hB.cell (i := 4) rfl
      obtain ⟨g, o, hgo, hg2⟩ := (HL.out.1.kept hKr fun _ h => h.elim).seg.at hz
      subst hgo
      have t0 := hg2 0 _ rfl
      have t1 := hg2 1 _ rfl
      have t2 := hg2 2 _ rfl
      simp only [eDst, Nat.add_zero] at t0 t1 t2
      obtain ⟨dp, hdp⟩ : ∃ v, d.p = v := ⟨_, rfl⟩
      obtain ⟨dq, hdq⟩ : ∃ v, d.q = v := ⟨_, rfl⟩
      obtain ⟨W3, hW3⟩ : ∃ W3, W3 = wr.alloc (.cells #[.int .i64 dp, .int .i64 dq, .int .i64 z3] 63) := ⟨_, rfl⟩
      obtain ⟨E, hE⟩ : ∃ E, E = wr.heap.size := ⟨_, rfl⟩
      have k3 : Keeps (fun _ => False) wr W3 := by rw [hW3]; exact (Keeps.refl _ _).alloc _
      have hB3 : Blk W3 E [.int .i64 dp, .int .i64 dq, .int .i64 z3] 63 := by rw [hW3, hE]; exact Blk.new _ _ _
      have kk : Keeps (fun _ => False) W W3 := hKr.trans k3 fun _ _ e => e
      have HX : Hid (Calls Try.prog 22 #[x.v, .int .i64 z3, .int .i64 pt, .agg #[.int .i64 8, .int .i64 dp, .int .i64 dq]] W3 fun e w'' => e = .returned (.bool true) ∧ Keeps (fun _ => False) W3 w'') := by rw [hz3, ← hdp, ← hdq]; exact (HOW.out W3 kk).2.2 k d hd
      obtain ⟨hO3, _⟩ := HCL.out W3 kk
      obtain ⟨q0, q1, q2, q3, q4, q5, q6⟩ := hO3.cells
      have b0 := hB3.cell (i := 0) rfl
      have b1 := hB3.cell (i := 1) rfl
      have b2 := hB3.cell (i := 2) rfl
      rw [hdp] at t0
      rw [hdq] at t1
      have HKK : Hid (Keeps (fun _ => False) W W3 ∧ k < DL) := ⟨kk, hlt⟩
      clear hz hd hz3 hB hg2 hdp hdq k3 hB3 kk hO3 hk hlt hKr
      go_upto_region 9 with fail
      rw [← hW3, ← hE]
      clear hW3 hE t0 t1 t2 p4
      go_wp2_with fail
      refine HX.out.mono ?_
      rintro e w6 ⟨rfl, hK6⟩
      have HKF : Hid (Keeps (fun _ => False) W w6) := HKK.out.1.trans hK6 fun _ _ e => e
      clear hK6 HX q0 q1 q2 q3 q4 q5 q6 b0 b1 b2
      go_wp2
      go_roundw
      case rel => exact ⟨k + 1, by have := HKK.out.2; omega, by go_num, HKF.out⟩
      case measure => have := HKK.out.2; simp [intOf]; omega
    · obtain rfl : DL = k := by omega
      have HKF : Hid (Keeps (fun _ => False) w wr) := HO.out.1.keeps.trans hKr fun _ _ e => e
      clear hKr
      go_wp2
      go_ret
      exact ⟨rfl, HKF.out⟩

end Go.Proofs.Ythaoopaafdgioaa
