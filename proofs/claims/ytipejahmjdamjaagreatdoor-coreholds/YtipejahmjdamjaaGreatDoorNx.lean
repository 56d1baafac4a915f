import Derived.Test.YtipejahmjdamjaaGreatDoorNw
namespace Go.Proofs.YtipejahmjdamjaaGreatDoor
open Go.RowKit Go.Shelf
set_option linter.unusedVariables false
set_option linter.unusedSimpArgs false
set_option maxRecDepth 20000

/-- What is to be held, as it came in. -/
structure HIn (w : World) (rg : List UInt32) (pc : Nat) (la : Option Addr) (lls : List (List Int)) (lc : Nat) (va : Option Addr) (ls : List Tl.Lf) (vc : Nat) : Prop where
  len : rg.length = 16
  pcl : pc < 4294967296
  seg : Ch.SegL w la lls
  lvs : Tl.SegL w va ls
  cap : ls.length ≤ vc ∧ vc ≤ maxLen
theorem HIn.kept {w w' : World} {rg : List UInt32} {pc : Nat} {la : Option Addr} {lls : List (List Int)} {lc : Nat} {va : Option Addr} {ls : List Tl.Lf} {vc : Nat} (h : HIn w rg pc la lls lc va ls vc) (hK : Keeps (fun _ => False) w w') : HIn w' rg pc la lls lc va ls vc :=
  ⟨h.len, h.pcl, h.seg.kept hK, h.lvs.kept hK fun _ _ h => h, h.cap⟩
def Few (lls : List (List Int)) (ls : List Tl.Lf) : Prop := lls.length ≤ 2147483647 ∧ ls.length ≤ 2147483647 ∧ ∀ (j : Nat) (l : List Int), lls[j]? = some l → l.length ≤ 2147483647

/-- What stands between two rounds of the law. -/
def Mid (w : World) (c r b1 b2 : Nat) (VH VO : List Value) (wr : World) : Prop :=
  St wr c r (fun _ => True) ∧ Keeps (fun _ => False) w wr ∧ Blk wr b1 VH 44 ∧ Blk wr b2 VO 44 ∧ b1 < c ∧ b2 < c ∧ b1 < r ∧ b2 < r ∧ w.heap.size ≤ b1 ∧ w.heap.size ≤ b2

/-- Behind the lending: all that the round wants. -/
structure Lent (w wA wC : World) (c r b1 b2 bx lo : Nat) (VH VO VX : List Value) (rg : List UInt32) (pc : Nat) (al : Option Addr) (lls : List (List Int)) (cl : Nat) (av : Option Addr) (ls : List Tl.Lf) (cv : Nat) (Bs : Nat → Nat) : Prop where
  st : St wC c r (fun k => k < lo)
  k : Keeps (fun _ => False) w wC
  h1 : Blk wC b1 VH 44
  h2 : Blk wC b2 VO 44
  x : Blk wC bx VX 44
  ex : VX = heldL rg pc (.slice al lls.length cl) (.slice av ls.length cv)
  lt : Lt wC lo lls lls.length (.slice al lls.length cl) Bs
  row : wC.ownsRow 0 64 3 (.slice av ls.length cv) ls.length (Tl.flatL ls)
  vl : ∀ g, (Value.slice av ls.length cv).ownBlock = some g → lo ≤ g ∧ g < bx
  bl : ∀ j, j < lls.length → Bs j < bx
  ll : ∀ b, (Value.slice al lls.length cl).ownBlock = some b → b < bx
  lob : lo ≤ bx
  bx : bx < wC.heap.size
  b : b1 < c ∧ b2 < c ∧ b1 < r ∧ b2 < r ∧ w.heap.size ≤ b1 ∧ w.heap.size ≤ b2 ∧ b1 < lo ∧ b2 < lo

theorem eq58 (w : World) : (binOp .eql 58 (.agg #[.int .i64 0, .int .i64 0, .int .i64 0, .int .u32 0, .int .u32 0, .bool false, .int .u32 0, .int .u32 0]) (.agg #[.int .i64 0, .int .i64 0, .int .i64 0, .int .u32 0, .int .u32 0, .bool false, .int .u32 0, .int .u32 0])).run Tryz.prog w = .ok (.bool true) w := by kernel_rfl
theorem eq40z (w : World) : (binOp .eql 40 (.agg c0.toArray) (.agg #[.int .u32 0, .int .u32 0, .int .u32 0, .int .u32 0, .int .u32 0, .int .u32 0, .int .u32 0, .int .u32 0, .int .u32 0, .int .u32 0, .int .u32 0, .int .u32 0, .int .u32 0, .int .u32 0, .int .u32 0, .int .u32 0, .int .u32 0])).run Tryz.prog w = .ok (.bool true) w := eql_ctx (List.replicate 16 0) 0 rfl (by omega) w
theorem same_zero (w : World) : Calls Tryz.prog 29 #[.agg heldZ.toArray, .agg #[.int .u32 0, .int .u32 0, .int .u32 0, .int .u32 0, .int .u32 0, .int .u32 0, .int .u32 0, .int .u32 0, .int .u32 0, .int .u32 0, .int .u32 0, .int .u32 0, .int .u32 0, .int .u32 0, .int .u32 0, .int .u32 0, .int .u32 0, .slice none 0 0, .slice none 0 0]] w fun e w' => e = .returned (.bool true) ∧ Keeps (fun _ => False) w w' :=
  sameHeld_any (List.replicate 16 0) 0 [] [] (.slice none 0 0) (.slice none 0 0) (.slice none 0 0) (.slice none 0 0) w rfl (by omega) ⟨none, 0, none, 0, rfl, rfl, .inl rfl, .inl rfl, by simp, by unfold maxLen; omega⟩ ⟨none, 0, none, 0, rfl, rfl, .inl rfl, .inl rfl, by simp, by unfold maxLen; omega⟩ (by simp)
theorem info58 : (Tryz.prog.info? 58).map (·.size) = some 8 := by kernel_rfl

set_option maxHeartbeats 16000000 in
theorem holds_any (rg1 rg2 : List UInt32) (pc1 pc2 : Nat) (la1 la2 : Option Addr) (lls1 lls2 : List (List Int)) (lc1 lc2 : Nat) (va1 va2 : Option Addr) (ls1 ls2 : List Tl.Lf) (vc1 vc2 : Nat) (w : World) (hT : Is.Tabs w) (h1 : HIn w rg1 pc1 la1 lls1 lc1 va1 ls1 vc1) (h2 : HIn w rg2 pc2 la2 lls2 lc2 va2 ls2 vc2)
    (s1 : lls1.length ≤ 35184372088832 ∧ (∀ (j : Nat) (l : List Int), lls1[j]? = some l → l.length ≤ 35184372088832) ∧ ls1.length ≤ 35184372088832) (s2 : lls2.length ≤ 35184372088832 ∧ (∀ (j : Nat) (l : List Int), lls2[j]? = some l → l.length ≤ 35184372088832) ∧ ls2.length ≤ 35184372088832) :
    Calls Tryz.prog 4 #[.agg (heldL rg1 pc1 (.slice la1 lls1.length lc1) (.slice va1 ls1.length vc1)).toArray, .agg (heldL rg2 pc2 (.slice la2 lls2.length lc2) (.slice va2 ls2.length vc2)).toArray] w fun e w' => e = .returned (.bool true) ∧ Keeps (fun _ => False) w w' := by
  have h2w : 2 ≤ w.heap.size := tabs_two hT
  obtain ⟨VH, eVH⟩ : ∃ V, V = heldL rg1 pc1 (.slice la1 lls1.length lc1) (.slice va1 ls1.length vc1) := ⟨_, rfl⟩
  obtain ⟨VO, eVO⟩ : ∃ V, V = heldL rg2 pc2 (.slice la2 lls2.length lc2) (.slice va2 ls2.length vc2) := ⟨_, rfl⟩
  obtain ⟨W2, eW2⟩ : ∃ W, W = (w.alloc (.cells VH.toArray 44)).alloc (.cells VO.toArray 44) := ⟨_, rfl⟩
  obtain ⟨b1, eb1⟩ : ∃ b, b = w.heap.size := ⟨_, rfl⟩
  obtain ⟨b2, eb2⟩ : ∃ b, b = w.heap.size + 1 := ⟨_, rfl⟩
  rw [← eVH, ← eVO]
  have kk : Keeps (fun _ => False) w W2 := by rw [eW2]; exact ((Keeps.refl _ w).alloc _).alloc _
  have hB1 : Blk W2 b1 VH 44 := by rw [eW2, eb1]; have := (Blk.new w VH.toArray 44).alloc (.cells VO.toArray 44); simpa using this
  have hB2 : Blk W2 b2 VO 44 := by rw [eW2, eb2]; have := Blk.new (w.alloc (.cells VH.toArray 44)) VO.toArray 44; simpa using this
  have hsz : W2.heap.size = w.heap.size + 2 := by rw [eW2]; simp
  have l1 : VH.length = 19 := by rw [eVH]; exact heldL_len h1.len _ _ _
  have l2 : VO.length = 19 := by rw [eVO]; exact heldL_len h2.len _ _ _
  have HV1 : Hid (VH = heldL rg1 pc1 (.slice la1 lls1.length lc1) (.slice va1 ls1.length vc1)) := eVH
  have HV2 : Hid (VO = heldL rg2 pc2 (.slice la2 lls2.length lc2) (.slice va2 ls2.length vc2)) := eVO
  have HI1 : Hid (HIn w rg1 pc1 la1 lls1 lc1 va1 ls1 vc1) := h1
  have HI2 : Hid (HIn w rg2 pc2 la2 lls2 lc2 va2 ls2 vc2) := h2
  have HT : Hid (Is.Tabs w) := hT
  have H0 : Hid (Blk W2 b1 VH 44 ∧ Blk W2 b2 VO 44 ∧ Keeps (fun _ => False) w W2 ∧ W2.heap.size = w.heap.size + 2 ∧ b1 = w.heap.size ∧ b2 = w.heap.size + 1 ∧ VH.length = 19 ∧ VO.length = 19 ∧ 2 ≤ w.heap.size) := ⟨hB1, hB2, kk, hsz, eb1, eb2, l1, l2, h2w⟩
  have HS2 : Hid (lls2.length ≤ 35184372088832 ∧ (∀ (j : Nat) (l : List Int), lls2[j]? = some l → l.length ≤ 35184372088832) ∧ ls2.length ≤ 35184372088832) := s2
  have hb := beyond_any rg1 pc1 la1 lls1 lc1 va1 ls1 vc1 W2 h1.len (h1.kept kk).seg s1.1 s1.2.1 s1.2.2
  rw [← eVH] at hb
  have HB1 : Hid (Calls Tryz.prog 13 #[.agg VH.toArray] W2 fun e w' => BeyP lls1 ls1 e ∧ Keeps (fun _ => False) W2 w') := hb
  have HW : Hid (W2 = (w.alloc (.cells VH.toArray 44)).alloc (.cells VO.toArray 44) ∧ b1 = w.heap.size ∧ b2 = w.heap.size + 1) := ⟨eW2, eb1, eb2⟩
  have HRa : Hid (W2.rangeAt b1 0 VH ∧ (Tryz.prog.info? 44).map (·.size) = some VH.length ∧ (Tryz.prog.info? 44).map (·.size) = some VO.length) := ⟨hB1.range, info44 l1, info44 l2⟩
  clear hT h1 h2 s1 s2 h2w eVH eVO eW2 eb1 eb2 kk hB1 hB2 hsz l1 l2 hb
  go_enter Tryz.func4, Tryz.ntmps4
  go_upto_region 1 with fail
  rw [← HW.out.1, ← HW.out.2.2, ← HW.out.2.1]
  clear HW
  go_wp2_with (refine wpList_load_on rfl 44 (.tmp 2) rfl b1 0 rfl VH _ HRa.out.1 Tryz.underlying44 rfl HRa.out.2.1 ?_; refine Hid.out ?_)
  unfold Hid
  go_wp2_with fail
  refine HB1.out.mono ?_
  rintro e w3 ⟨⟨bb, rfl, hb1⟩, k3⟩
  have HK3 : Hid (Keeps (fun _ => False) W2 w3 ∧ (bb = false → Few lls1 ls1)) := ⟨k3, hb1⟩
  clear k3 hb1 HB1
  cases bb
  case true =>
    go_wp2
    go_ret
    exact ⟨rfl, H0.out.2.2.1.trans HK3.out.1 fun _ _ h => h⟩
  have HF1 : Hid (Few lls1 ls1) := HK3.out.2 rfl
  have hb := beyond_any rg2 pc2 la2 lls2 lc2 va2 ls2 vc2 w3 HI2.out.len (HI2.out.kept (H0.out.2.2.1.trans HK3.out.1 fun _ _ h => h)).seg HS2.out.1 HS2.out.2.1 HS2.out.2.2
  rw [← HV2.out] at hb
  have HB2 : Hid (Calls Tryz.prog 13 #[.agg VO.toArray] w3 fun e w' => BeyP lls2 ls2 e ∧ Keeps (fun _ => False) w3 w') := hb
  have HRb : Hid (w3.rangeAt b2 0 VO) := (H0.out.2.1.kept HK3.out.1 fun h => h).range
  clear hb
  go_wp2_with (refine wpList_load_on rfl 44 (.tmp 3) rfl b2 0 rfl VO _ HRb.out Tryz.underlying44 rfl HRa.out.2.2 ?_; refine Hid.out ?_)
  unfold Hid
  go_wp2_with fail
  refine HB2.out.mono ?_
  rintro e w4 ⟨⟨bb, rfl, hb2⟩, k4⟩
  have HK4 : Hid (Keeps (fun _ => False) W2 w4 ∧ (bb = false → Few lls2 ls2)) := ⟨HK3.out.1.trans k4 fun _ _ h => h, hb2⟩
  clear k4 hb2 HB2 HRb HK3 HRa HS2
  cases bb
  case true =>
    go_wp2
    go_ret
    exact ⟨rfl, H0.out.2.2.1.trans HK4.out.1 fun _ _ h => h⟩
  have HF2 : Hid (Few lls2 ls2) := HK4.out.2 rfl
  have HN10 : Hid (Calls _ _ _ _ _) := new_core w4 (by have := H0.out; have := HK4.out.1.size; omega)
  go_wp2_with fail
  go_wp2_with fail
  refine HN10.out.mono ?_
  rintro e w5 ⟨c, tb, cb, FT, FC, rfl, hC, hCl, k5⟩
  have HN11 : Hid (Calls _ _ _ _ _) := refNew_any w5
  have HK5 : Hid (CoreAt w5 c tb cb (List.replicate 16 0) 0 [] (fun _ => []) FT FC ∧ (∀ k, (k = c ∨ FT k ∨ FC k) → w4.heap.size ≤ k) ∧ Keeps (fun _ => False) w4 w5) := ⟨hC, hCl, k5⟩
  clear hC hCl k5 HN10
  go_wp2_with fail
  refine HN11.out.mono ?_
  rintro e w6 ⟨r, tr, cr, GT, GC, rfl, hR, hRl, k6⟩
  have HM : Hid (Mid w c r b1 b2 VH VO w6) := by
    obtain ⟨q1, q2, q3, q4, q5, q6, q7, q8, q9⟩ := H0.out
    have k26 := (HK4.out.1.trans HK5.out.2.2 fun _ _ h => h).trans k6 fun _ _ h => h
    have c1 := HK5.out.2.1 c (.inl rfl)
    have r1 := hRl r (.inl rfl)
    have z1 := HK4.out.1.size
    have z2 := HK5.out.2.2.size
    exact ⟨(St.new HK5.out.1 HK5.out.2.1 hR hRl k6).mono fun _ _ _ => trivial, q3.trans k26 fun _ _ h => h, q1.kept k26 fun h => h, q2.kept k26 fun h => h, by omega, by omega, by omega, by omega, by omega, by omega⟩
  clear hR hRl k6 HN11 HK5 HK4
  have HC21 : Hid (Calls _ _ _ _ _) := HM.out.1.held
  go_wp2_with fail
  refine HC21.out.mono ?_
  rintro e wM ⟨rfl, kM⟩
  have HM2 : Hid (Mid w c r b1 b2 VH VO wM) := by
    obtain ⟨m1, m2, m3, m4, m5⟩ := HM.out
    exact ⟨m1.kept kM fun _ _ h => h, m2.trans kM fun _ _ h => h, m3.kept kM fun h => h, m4.kept kM fun h => h, m5⟩
  clear kM HC21 HM
  have HM := HM2
  clear HM2
  -- what is lent of the 1. thing
  obtain ⟨wA, hwA⟩ : ∃ wA, wA = wM := ⟨_, rfl⟩
  subst hwA
  obtain ⟨m1, m2, m3, m4, m5, m6, m7, m8, m9, m10⟩ := HM.out
  have HL22 : Hid (Calls _ _ _ _ _) := lent_any rg1 pc1 la1 lls1 lc1 va1 ls1 vc1 wA HI1.out.len (HI1.out.kept m2).seg HF1.out.1 HF1.out.2.2 (HI1.out.kept m2).lvs HF1.out.2.1
  rw [← HV1.out] at HL22
  have HRa : Hid (wA.rangeAt b1 0 VH ∧ (Tryz.prog.info? 44).map (·.size) = some VH.length) := ⟨m3.range, info44 (by rw [HV1.out]; exact heldL_len HI1.out.len _ _ _)⟩
  clear m1 m2 m3 m4 m5 m6 m7 m8 m9 m10
  go_wp2_with (refine wpList_load_on rfl 44 (.tmp 2) rfl b1 0 rfl VH _ HRa.out.1 Tryz.underlying44 rfl HRa.out.2 ?_; refine Hid.out ?_)
  unfold Hid
  clear HRa
  go_wp2_with fail
  refine HL22.out.mono ?_
  rintro e wB ⟨lo, lv, vv, Bs, rfl, hlo, hLt, hRow, hvl, kB, hlz⟩
  obtain ⟨al, cl, rfl, -, -⟩ := own_slice hLt.row
  obtain ⟨av, cv, rfl, hcv1, hcv2⟩ := own_slice hRow
  obtain ⟨VX, eVX⟩ : ∃ V, V = heldL rg1 pc1 (.slice al lls1.length cl) (.slice av ls1.length cv) := ⟨_, rfl⟩
  have lX : VX.length = 19 := by rw [eVX]; exact heldL_len HI1.out.len _ _ _
  have pX := put_held wB VX lX (by rw [eVX]; exact heldL_oneg _ _ _ _ _ _ _ _)
  rw [← eVX]
  obtain ⟨wC, hwC⟩ : ∃ w2, w2 = (wB.alloc (.cells heldZ.toArray 44)).setCells wB.heap.size 0 VX.toArray.toList := ⟨_, rfl⟩
  rw [← hwC] at pX
  have HP : Hid ((wB.alloc (.cells heldZ.toArray 44)).there wB.heap.size 0 VX.toArray.size ∧ (Tryz.prog.info? 44).map (·.size) = some VX.toArray.size ∧ VX.toArray.all (·.oneCell') = true) := pX.1
  have HWC : Hid (wC = (wB.alloc (.cells heldZ.toArray 44)).setCells wB.heap.size 0 VX.toArray.toList) := hwC
  simp only [heldZ] at HP HWC
  obtain ⟨bx, ebx⟩ : ∃ bx, bx = wB.heap.size := ⟨_, rfl⟩
  have HBX : Hid (bx = wB.heap.size) := ebx
  have HLN : Hid (Lent w wA wC c r b1 b2 bx lo VH VO VX rg1 pc1 al lls1 cl av ls1 cv Bs ∧ VX.length = 19 ∧ lo ≤ bx) := by
    obtain ⟨m1, m2, m3, m4, m5, m6, m7, m8, m9, m10⟩ := HM.out
    have kC := kB.trans pX.2.2.1 fun _ _ h => h
    have hzz := pX.2.2.2
    have hd := m1.d
    have hlb : lo ≤ bx := by rw [ebx]; exact hlz
    refine ⟨⟨(m1.mono (D' := fun k => k < lo) fun k hk _ => by omega).kept kC fun _ _ h => h, m2.trans kC fun _ _ h => h, m3.kept kC fun h => h, m4.kept kC fun h => h, by rw [ebx]; exact pX.2.1, eVX, hLt.kept pX.2.2.1 fun _ _ _ h => h, owns_kept hRow pX.2.2.1 fun _ _ h => h, fun g hg => ⟨hvl g hg, by rw [ebx]; exact owns_lt hRow hg⟩, fun j hj => by rw [ebx]; exact (hLt.blk j hj).lt, fun b hb => by rw [ebx]; exact owns_lt hLt.row hb, hlb, by omega, m5, m6, m7, m8, m9, m10, by omega, by omega⟩, lX, hlb⟩
  clear hlz hlo hLt hRow hvl kB hcv1 hcv2 eVX lX pX hwC ebx HL22
  go_wp2_with (refine wpList_store_mid rfl 44 (.tmp 7) (.tmp 29) rfl wB.heap.size 0 VX.toArray rfl rfl HP.out.1 HP.out.2.1 HP.out.2.2 ?_; refine Hid.out ?_)
  unfold Hid
  rw [← HWC.out, ← HBX.out]
  clear HP HWC HBX
  -- it is restored on both sides, taken back, and told
  have hSd : (fun w' : World => Blk w' bx VX 44 ∧ Blk w' b1 VH 44) wC.drew := ⟨HLN.out.1.x.kept ((Keeps.refl (fun _ => False) wC).drew) fun h => h, HLN.out.1.h1.kept ((Keeps.refl (fun _ => False) wC).drew) fun h => h⟩
  have HC23 : Hid (Calls Tryz.prog 23 #[ptr c, .agg VX.toArray] wC.drew fun e w' => ∃ m : Int, e = .returned (.int .i64 m) ∧ StH w' c r (fun k => k < lo) wC.heap.size rg1 pc1 lls1 ls1 m ∧ Keeps (fun k => k = c) wC.drew w') := by
    have kd : Keeps (fun _ => False) wC wC.drew := (Keeps.refl (fun _ => False) wC).drew
    have q := HLN.out.1
    have h1 := (q.st.kept kd fun _ _ h => h).restC (hi := wC.heap.size) rfl rg1 pc1 al lls1 cl av ls1 cv HI1.out.len HI1.out.pcl ((q.lt.kept kd fun _ _ _ h => h).seg HF1.out.2.2) (fun h4 => by
      obtain ⟨g, e, _⟩ := owns_sliceT q.lt.row 0 _ (rowsV_get Bs lls1 (show 0 < lls1.length by omega))
      exact ⟨g, e⟩) (seg_of (owns_kept q.row kd fun _ _ h => h) rfl) (by obtain ⟨_, _, e, e2, e3⟩ := own_slice q.row; injection e with _ _ e4; rw [e4]; exact ⟨e2, e3⟩)
    rw [← q.ex] at h1
    exact h1
  go_upto_region 8 with fail
  refine wp_region_held_drew (S := (fun w' : World => Blk w' bx VX 44 ∧ Blk w' b1 VH 44)) (by kernel_rfl) hSd (fun hHeld => ?_)
  simp only [List.size_toArray, List.length_cons, List.length_nil, Nat.reduceAdd, Array.replicate_succ, Array.replicate_zero, List.push_toArray, List.append_toArray, List.nil_append, List.cons_append]
  refine tk 0 (ptr c) hHeld ?_
  simp only [Act.put, List.setIfInBounds_toArray, List.set_cons_zero, List.set_cons_succ]
  refine tk 1 (.agg VX.toArray) hHeld ?_ (hr := by
    intro w' hSw
    exact exec_load_run 44 (.tmp 7) ⟨bx, 0, none⟩ _ rfl rfl (load_blk hSw.1 44 _ Tryz.underlying44 rfl (info44 HLN.out.2.1)))
  simp only [Act.put, List.setIfInBounds_toArray, List.set_cons_zero, List.set_cons_succ]
  refine tk 3 (ptr r) hHeld ?_
  simp only [Act.put, List.setIfInBounds_toArray, List.set_cons_zero, List.set_cons_succ]
  refine tk 4 (.agg VH.toArray) hHeld ?_ (hr := by
    intro w' hSw
    exact exec_load_run 44 (.tmp 2) ⟨b1, 0, none⟩ _ rfl rfl (load_blk hSw.2 44 _ Tryz.underlying44 rfl (info44 (by rw [HV1.out]; exact heldL_len HI1.out.len _ _ _))))
  simp only [Act.put, List.setIfInBounds_toArray, List.set_cons_zero, List.set_cons_succ]
  refine wpAnyH_ready (rs := [2]) (by kernel_rfl) (by simp) ?_
  refine AllReadyH.cons rfl (fun Kq hK => ?_) AllReadyH.nil
  go_simp
  refine HC23.out.mono ?_
  rintro e wD ⟨m, rfl, hStH, kD⟩
  have hSD : (fun w' : World => Blk w' bx VX 44 ∧ Blk w' b1 VH 44) wD := ⟨hSd.1.kept kD (by have := HLN.out.1.b; have := HLN.out.1.st.d; have := HLN.out.2.2; intro h; have h' : bx = c := h; omega), hSd.2.kept kD (by have := HLN.out.1.b; intro h; have h' : b1 = c := h; omega)⟩
  have HC24 : Hid (Calls Tryz.prog 24 #[ptr r, .agg VH.toArray] wD fun e w' => e = .returned (.int .i64 m) ∧ St w' c r (fun k => k < lo ∨ wC.heap.size ≤ k) ∧ Keeps (fun k => k = r) wD w') := by
    have q := HLN.out.1
    have kwD : Keeps (fun _ => False) w wD := (q.k.drew).trans kD fun b hb h => by have := q.b; have h' : b = c := h; omega
    have h1 := hStH.restR (by have := kD.size; exact this) la1 lc1 va1 vc1 HI1.out.len HI1.out.pcl (HI1.out.kept kwD).seg (HI1.out.kept kwD).lvs HI1.out.cap
    rw [← HV1.out] at h1
    exact h1
  have HKD : Hid (Keeps (fun k => k = c) wC.drew wD) := kD
  clear hStH kD HC23
  refine hK.out _ _ hSD (fun hHeld => ?_)
  simp only [Act.put, List.setIfInBounds_toArray, List.set_cons_zero, List.set_cons_succ]
  refine wpAnyH_ready (rs := [5]) (by kernel_rfl) (by simp) ?_
  refine AllReadyH.cons rfl (fun Kq hK => ?_) AllReadyH.nil
  go_simp
  refine HC24.out.mono ?_
  rintro e wE ⟨rfl, hSt, kE⟩
  have hSE : (fun w' : World => Blk w' bx VX 44 ∧ Blk w' b1 VH 44) wE := ⟨hSD.1.kept kE (by have := HLN.out.1.b; have := HLN.out.1.st.d; have := HLN.out.2.2; intro h; have h' : bx = r := h; omega), hSD.2.kept kE (by have := HLN.out.1.b; intro h; have h' : b1 = r := h; omega)⟩
  have HKE : Hid (Keeps (fun k => k = c ∨ k = r) wC wE ∧ St wE c r (fun k => k < lo ∨ wC.heap.size ≤ k)) :=
    ⟨(((Keeps.refl (fun _ => False) wC).drew.mono fun _ _ h => h.elim).trans HKD.out fun b _ h => .inl h).trans kE fun b _ h => .inr h, hSt⟩
  have HC25 : Hid (Calls Tryz.prog 25 #[.agg VX.toArray, .agg VH.toArray] wE fun e w' => e = .returned (.bool true) ∧ Keeps (fun k => lo ≤ k ∧ k < bx) wE w') := by
    have q := HLN.out.1
    have hd := q.st.d
    have kE' := HKE.out.1
    have hne : ∀ b, lo ≤ b → ¬ (b = c ∨ b = r) := fun b hb h => by omega
    have k0 : Keeps (fun _ => False) w wE := q.k.trans kE' fun b hb h => by have := q.b; have h' : b = c ∨ b = r := h; omega
    have h1 := back_any rg1 pc1 la1 lls1 lc1 va1 ls1 vc1 lo bx (.slice al lls1.length cl) (.slice av ls1.length cv) Bs w wE HI1.out.len HI1.out.pcl k0 (by have := q.b; omega) (by have := q.bx; have := kE'.size; omega) HI1.out.seg HF1.out.1 HF1.out.2.2 HI1.out.lvs HF1.out.2.1 HI1.out.cap
      (q.lt.kept kE' fun b hb _ h => hne b hb h) (owns_kept q.row kE' fun b hb h => hne b (q.vl b hb).1 h) q.vl q.bl q.ll
    rw [← q.ex, ← HV1.out] at h1
    exact h1
  clear hSt kE HC24 HKD hSD hSd
  refine hK.out _ _ hSE (fun hHeld => ?_)
  simp only [Act.put, List.setIfInBounds_toArray, List.set_cons_zero, List.set_cons_succ]
  refine tk 6 (.bool false) hHeld ?_
  simp only [Act.put, List.setIfInBounds_toArray, List.set_cons_zero, List.set_cons_succ]
  refine tk 7 (.bool false) hHeld ?_
  simp only [Act.put, List.setIfInBounds_toArray, List.set_cons_zero, List.set_cons_succ]
  refine tk 8 (.agg VX.toArray) hHeld ?_ (hr := by
    intro w' hSw
    exact exec_load_run 44 (.tmp 7) ⟨bx, 0, none⟩ _ rfl rfl (load_blk hSw.1 44 _ Tryz.underlying44 rfl (info44 HLN.out.2.1)))
  simp only [Act.put, List.setIfInBounds_toArray, List.set_cons_zero, List.set_cons_succ]
  refine tk 9 (.agg VH.toArray) hHeld ?_ (hr := by
    intro w' hSw
    exact exec_load_run 44 (.tmp 2) ⟨b1, 0, none⟩ _ rfl rfl (load_blk hSw.2 44 _ Tryz.underlying44 rfl (info44 (by rw [HV1.out]; exact heldL_len HI1.out.len _ _ _))))
  simp only [Act.put, List.setIfInBounds_toArray, List.set_cons_zero, List.set_cons_succ]
  refine wpAnyH_ready (rs := [10]) (by kernel_rfl) (by simp) ?_
  refine AllReadyH.cons rfl (fun Kq hK => ?_) AllReadyH.nil
  go_simp
  refine HC25.out.mono ?_
  rintro e wF ⟨rfl, kF⟩
  have hSF : (fun w' : World => Blk w' bx VX 44 ∧ Blk w' b1 VH 44) wF := ⟨hSE.1.kept kF (by intro h; have h' : lo ≤ bx ∧ bx < bx := h; omega), hSE.2.kept kF (by have := HLN.out.1.b; intro h; have h' : lo ≤ b1 ∧ b1 < bx := h; omega)⟩
  have HSF : Hid (St wF c r (fun k => k < lo ∨ wC.heap.size ≤ k) ∧ Keeps (fun k => lo ≤ k ∧ k < bx) wE wF) := ⟨HKE.out.2.kept kF fun k hk h => by have := HLN.out.1.bx; have h' : lo ≤ k ∧ k < bx := h; have hk' : k < lo ∨ wC.heap.size ≤ k := hk; omega, kF⟩
  have HC21 : Hid (Calls _ _ _ _ _) := HSF.out.1.held
  clear kF HC25 hSE
  refine hK.out _ _ hSF (fun hHeld => ?_)
  simp only [Act.put, List.setIfInBounds_toArray, List.set_cons_zero, List.set_cons_succ]
  refine tk 11 (.bool false) hHeld ?_
  simp only [Act.put, List.setIfInBounds_toArray, List.set_cons_zero, List.set_cons_succ]
  refine tk 12 (.bool false) hHeld ?_
  simp only [Act.put, List.setIfInBounds_toArray, List.set_cons_zero, List.set_cons_succ]
  refine tk 13 (.bool false) hHeld ?_
  simp only [Act.put, List.setIfInBounds_toArray, List.set_cons_zero, List.set_cons_succ]
  refine tk 14 (ptr c) hHeld ?_
  simp only [Act.put, List.setIfInBounds_toArray, List.set_cons_zero, List.set_cons_succ]
  refine tk 15 (ptr r) hHeld ?_
  simp only [Act.put, List.setIfInBounds_toArray, List.set_cons_zero, List.set_cons_succ]
  refine wpAnyH_ready (rs := [16]) (by kernel_rfl) (by simp) ?_
  refine AllReadyH.cons rfl (fun Kq hK => ?_) AllReadyH.nil
  go_simp
  refine HC21.out.mono ?_
  rintro e wG ⟨rfl, kG⟩
  have hSG : (fun w' : World => Blk w' bx VX 44 ∧ Blk w' b1 VH 44) wG := ⟨hSF.1.kept kG fun h => h, hSF.2.kept kG fun h => h⟩
  have HM2 : Hid (Mid w c r b1 b2 VH VO wG) := by
    have q := HLN.out.1
    have hd := q.st.d
    have k1 : Keeps (fun b => b = c ∨ b = r ∨ (lo ≤ b ∧ b < bx)) wC wG := ((HKE.out.1.mono fun b _ h => h.elim .inl fun h => .inr (.inl h)).trans HSF.out.2 fun b _ h => .inr (.inr h)).trans kG fun _ _ h => h.elim
    have qb := q.b
    exact ⟨(HSF.out.1.kept kG fun _ _ h => h).mono fun _ _ _ => trivial, q.k.trans k1 fun b hb h => by have h' : b = c ∨ b = r ∨ (lo ≤ b ∧ b < bx) := h; omega, q.h1.kept k1 (by intro h; have h' : b1 = c ∨ b1 = r ∨ (lo ≤ b1 ∧ b1 < bx) := h; omega), q.h2.kept k1 (by intro h; have h' : b2 = c ∨ b2 = r ∨ (lo ≤ b2 ∧ b2 < bx) := h; omega), qb.1, qb.2.1, qb.2.2.1, qb.2.2.2.1, qb.2.2.2.2.1, qb.2.2.2.2.2.1⟩
  clear kG HC21 hSF
  refine hK.out _ _ hSG (fun hHeld => ?_)
  simp only [Act.put, List.setIfInBounds_toArray, List.set_cons_zero, List.set_cons_succ]
  refine tk 17 (.bool false) hHeld ?_
  simp only [Act.put, List.setIfInBounds_toArray, List.set_cons_zero, List.set_cons_succ]
  refine tk 18 (.bool false) hHeld ?_
  simp only [Act.put, List.setIfInBounds_toArray, List.set_cons_zero, List.set_cons_succ]
  refine wpAnyH_done (by kernel_rfl) ?_ _
  clear hHeld hK hSG HSF HKE HLN HM
  have HM := HM2
  clear HM2
  obtain ⟨wN, hwn⟩ : ∃ wn, wn = wG := ⟨_, rfl⟩
  subst hwn
  -- what is lent of the 2. thing
  obtain ⟨wA, hwA⟩ : ∃ wA, wA = wN := ⟨_, rfl⟩
  subst hwA
  obtain ⟨m1, m2, m3, m4, m5, m6, m7, m8, m9, m10⟩ := HM.out
  have HL22 : Hid (Calls _ _ _ _ _) := lent_any rg2 pc2 la2 lls2 lc2 va2 ls2 vc2 wA HI2.out.len (HI2.out.kept m2).seg HF2.out.1 HF2.out.2.2 (HI2.out.kept m2).lvs HF2.out.2.1
  rw [← HV2.out] at HL22
  have HRa : Hid (wA.rangeAt b2 0 VO ∧ (Tryz.prog.info? 44).map (·.size) = some VO.length) := ⟨m4.range, info44 (by rw [HV2.out]; exact heldL_len HI2.out.len _ _ _)⟩
  clear m1 m2 m3 m4 m5 m6 m7 m8 m9 m10
  go_wp2_with (refine wpList_load_on rfl 44 (.tmp 3) rfl b2 0 rfl VO _ HRa.out.1 Tryz.underlying44 rfl HRa.out.2 ?_; refine Hid.out ?_)
  unfold Hid
  clear HRa
  go_wp2_with fail
  refine HL22.out.mono ?_
  rintro e wB ⟨lo, lv, vv, Bs, rfl, hlo, hLt, hRow, hvl, kB, hlz⟩
  obtain ⟨al, cl, rfl, -, -⟩ := own_slice hLt.row
  obtain ⟨av, cv, rfl, hcv1, hcv2⟩ := own_slice hRow
  obtain ⟨VX, eVX⟩ : ∃ V, V = heldL rg2 pc2 (.slice al lls2.length cl) (.slice av ls2.length cv) := ⟨_, rfl⟩
  have lX : VX.length = 19 := by rw [eVX]; exact heldL_len HI2.out.len _ _ _
  have pX := put_held wB VX lX (by rw [eVX]; exact heldL_oneg _ _ _ _ _ _ _ _)
  rw [← eVX]
  obtain ⟨wC, hwC⟩ : ∃ w2, w2 = (wB.alloc (.cells heldZ.toArray 44)).setCells wB.heap.size 0 VX.toArray.toList := ⟨_, rfl⟩
  rw [← hwC] at pX
  have HP : Hid ((wB.alloc (.cells heldZ.toArray 44)).there wB.heap.size 0 VX.toArray.size ∧ (Tryz.prog.info? 44).map (·.size) = some VX.toArray.size ∧ VX.toArray.all (·.oneCell') = true) := pX.1
  have HWC : Hid (wC = (wB.alloc (.cells heldZ.toArray 44)).setCells wB.heap.size 0 VX.toArray.toList) := hwC
  simp only [heldZ] at HP HWC
  obtain ⟨bx, ebx⟩ : ∃ bx, bx = wB.heap.size := ⟨_, rfl⟩
  have HBX : Hid (bx = wB.heap.size) := ebx
  have HLN : Hid (Lent w wA wC c r b1 b2 bx lo VH VO VX rg2 pc2 al lls2 cl av ls2 cv Bs ∧ VX.length = 19 ∧ lo ≤ bx) := by
    obtain ⟨m1, m2, m3, m4, m5, m6, m7, m8, m9, m10⟩ := HM.out
    have kC := kB.trans pX.2.2.1 fun _ _ h => h
    have hzz := pX.2.2.2
    have hd := m1.d
    have hlb : lo ≤ bx := by rw [ebx]; exact hlz
    refine ⟨⟨(m1.mono (D' := fun k => k < lo) fun k hk _ => by omega).kept kC fun _ _ h => h, m2.trans kC fun _ _ h => h, m3.kept kC fun h => h, m4.kept kC fun h => h, by rw [ebx]; exact pX.2.1, eVX, hLt.kept pX.2.2.1 fun _ _ _ h => h, owns_kept hRow pX.2.2.1 fun _ _ h => h, fun g hg => ⟨hvl g hg, by rw [ebx]; exact owns_lt hRow hg⟩, fun j hj => by rw [ebx]; exact (hLt.blk j hj).lt, fun b hb => by rw [ebx]; exact owns_lt hLt.row hb, hlb, by omega, m5, m6, m7, m8, m9, m10, by omega, by omega⟩, lX, hlb⟩
  clear hlz hlo hLt hRow hvl kB hcv1 hcv2 eVX lX pX hwC ebx HL22
  go_wp2_with (refine wpList_store_mid rfl 44 (.tmp 8) (.tmp 50) rfl wB.heap.size 0 VX.toArray rfl rfl HP.out.1 HP.out.2.1 HP.out.2.2 ?_; refine Hid.out ?_)
  unfold Hid
  rw [← HWC.out, ← HBX.out]
  clear HP HWC HBX
  -- it is restored on both sides, taken back, and told
  have hSd : (fun w' : World => Blk w' bx VX 44 ∧ Blk w' b2 VO 44) wC.drew := ⟨HLN.out.1.x.kept ((Keeps.refl (fun _ => False) wC).drew) fun h => h, HLN.out.1.h2.kept ((Keeps.refl (fun _ => False) wC).drew) fun h => h⟩
  have HC23 : Hid (Calls Tryz.prog 23 #[ptr c, .agg VX.toArray] wC.drew fun e w' => ∃ m : Int, e = .returned (.int .i64 m) ∧ StH w' c r (fun k => k < lo) wC.heap.size rg2 pc2 lls2 ls2 m ∧ Keeps (fun k => k = c) wC.drew w') := by
    have kd : Keeps (fun _ => False) wC wC.drew := (Keeps.refl (fun _ => False) wC).drew
    have q := HLN.out.1
    have h1 := (q.st.kept kd fun _ _ h => h).restC (hi := wC.heap.size) rfl rg2 pc2 al lls2 cl av ls2 cv HI2.out.len HI2.out.pcl ((q.lt.kept kd fun _ _ _ h => h).seg HF2.out.2.2) (fun h4 => by
      obtain ⟨g, e, _⟩ := owns_sliceT q.lt.row 0 _ (rowsV_get Bs lls2 (show 0 < lls2.length by omega))
      exact ⟨g, e⟩) (seg_of (owns_kept q.row kd fun _ _ h => h) rfl) (by obtain ⟨_, _, e, e2, e3⟩ := own_slice q.row; injection e with _ _ e4; rw [e4]; exact ⟨e2, e3⟩)
    rw [← q.ex] at h1
    exact h1
  go_upto_region 11 with fail
  refine wp_region_held_drew (S := (fun w' : World => Blk w' bx VX 44 ∧ Blk w' b2 VO 44)) (by kernel_rfl) hSd (fun hHeld => ?_)
  simp only [List.size_toArray, List.length_cons, List.length_nil, Nat.reduceAdd, Array.replicate_succ, Array.replicate_zero, List.push_toArray, List.append_toArray, List.nil_append, List.cons_append]
  refine tk 0 (ptr c) hHeld ?_
  simp only [Act.put, List.setIfInBounds_toArray, List.set_cons_zero, List.set_cons_succ]
  refine tk 1 (.agg VX.toArray) hHeld ?_ (hr := by
    intro w' hSw
    exact exec_load_run 44 (.tmp 8) ⟨bx, 0, none⟩ _ rfl rfl (load_blk hSw.1 44 _ Tryz.underlying44 rfl (info44 HLN.out.2.1)))
  simp only [Act.put, List.setIfInBounds_toArray, List.set_cons_zero, List.set_cons_succ]
  refine tk 3 (ptr r) hHeld ?_
  simp only [Act.put, List.setIfInBounds_toArray, List.set_cons_zero, List.set_cons_succ]
  refine tk 4 (.agg VO.toArray) hHeld ?_ (hr := by
    intro w' hSw
    exact exec_load_run 44 (.tmp 3) ⟨b2, 0, none⟩ _ rfl rfl (load_blk hSw.2 44 _ Tryz.underlying44 rfl (info44 (by rw [HV2.out]; exact heldL_len HI2.out.len _ _ _))))
  simp only [Act.put, List.setIfInBounds_toArray, List.set_cons_zero, List.set_cons_succ]
  refine wpAnyH_ready (rs := [2]) (by kernel_rfl) (by simp) ?_
  refine AllReadyH.cons rfl (fun Kq hK => ?_) AllReadyH.nil
  go_simp
  refine HC23.out.mono ?_
  rintro e wD ⟨m, rfl, hStH, kD⟩
  have hSD : (fun w' : World => Blk w' bx VX 44 ∧ Blk w' b2 VO 44) wD := ⟨hSd.1.kept kD (by have := HLN.out.1.b; have := HLN.out.1.st.d; have := HLN.out.2.2; intro h; have h' : bx = c := h; omega), hSd.2.kept kD (by have := HLN.out.1.b; intro h; have h' : b2 = c := h; omega)⟩
  have HC24 : Hid (Calls Tryz.prog 24 #[ptr r, .agg VO.toArray] wD fun e w' => e = .returned (.int .i64 m) ∧ St w' c r (fun k => k < lo ∨ wC.heap.size ≤ k) ∧ Keeps (fun k => k = r) wD w') := by
    have q := HLN.out.1
    have kwD : Keeps (fun _ => False) w wD := (q.k.drew).trans kD fun b hb h => by have := q.b; have h' : b = c := h; omega
    have h1 := hStH.restR (by have := kD.size; exact this) la2 lc2 va2 vc2 HI2.out.len HI2.out.pcl (HI2.out.kept kwD).seg (HI2.out.kept kwD).lvs HI2.out.cap
    rw [← HV2.out] at h1
    exact h1
  have HKD : Hid (Keeps (fun k => k = c) wC.drew wD) := kD
  clear hStH kD HC23
  refine hK.out _ _ hSD (fun hHeld => ?_)
  simp only [Act.put, List.setIfInBounds_toArray, List.set_cons_zero, List.set_cons_succ]
  refine wpAnyH_ready (rs := [5]) (by kernel_rfl) (by simp) ?_
  refine AllReadyH.cons rfl (fun Kq hK => ?_) AllReadyH.nil
  go_simp
  refine HC24.out.mono ?_
  rintro e wE ⟨rfl, hSt, kE⟩
  have hSE : (fun w' : World => Blk w' bx VX 44 ∧ Blk w' b2 VO 44) wE := ⟨hSD.1.kept kE (by have := HLN.out.1.b; have := HLN.out.1.st.d; have := HLN.out.2.2; intro h; have h' : bx = r := h; omega), hSD.2.kept kE (by have := HLN.out.1.b; intro h; have h' : b2 = r := h; omega)⟩
  have HKE : Hid (Keeps (fun k => k = c ∨ k = r) wC wE ∧ St wE c r (fun k => k < lo ∨ wC.heap.size ≤ k)) :=
    ⟨(((Keeps.refl (fun _ => False) wC).drew.mono fun _ _ h => h.elim).trans HKD.out fun b _ h => .inl h).trans kE fun b _ h => .inr h, hSt⟩
  have HC25 : Hid (Calls Tryz.prog 25 #[.agg VX.toArray, .agg VO.toArray] wE fun e w' => e = .returned (.bool true) ∧ Keeps (fun k => lo ≤ k ∧ k < bx) wE w') := by
    have q := HLN.out.1
    have hd := q.st.d
    have kE' := HKE.out.1
    have hne : ∀ b, lo ≤ b → ¬ (b = c ∨ b = r) := fun b hb h => by omega
    have k0 : Keeps (fun _ => False) w wE := q.k.trans kE' fun b hb h => by have := q.b; have h' : b = c ∨ b = r := h; omega
    have h1 := back_any rg2 pc2 la2 lls2 lc2 va2 ls2 vc2 lo bx (.slice al lls2.length cl) (.slice av ls2.length cv) Bs w wE HI2.out.len HI2.out.pcl k0 (by have := q.b; omega) (by have := q.bx; have := kE'.size; omega) HI2.out.seg HF2.out.1 HF2.out.2.2 HI2.out.lvs HF2.out.2.1 HI2.out.cap
      (q.lt.kept kE' fun b hb _ h => hne b hb h) (owns_kept q.row kE' fun b hb h => hne b (q.vl b hb).1 h) q.vl q.bl q.ll
    rw [← q.ex, ← HV2.out] at h1
    exact h1
  clear hSt kE HC24 HKD hSD hSd
  refine hK.out _ _ hSE (fun hHeld => ?_)
  simp only [Act.put, List.setIfInBounds_toArray, List.set_cons_zero, List.set_cons_succ]
  refine tk 6 (.bool false) hHeld ?_
  simp only [Act.put, List.setIfInBounds_toArray, List.set_cons_zero, List.set_cons_succ]
  refine tk 7 (.bool false) hHeld ?_
  simp only [Act.put, List.setIfInBounds_toArray, List.set_cons_zero, List.set_cons_succ]
  refine tk 8 (.agg VX.toArray) hHeld ?_ (hr := by
    intro w' hSw
    exact exec_load_run 44 (.tmp 8) ⟨bx, 0, none⟩ _ rfl rfl (load_blk hSw.1 44 _ Tryz.underlying44 rfl (info44 HLN.out.2.1)))
  simp only [Act.put, List.setIfInBounds_toArray, List.set_cons_zero, List.set_cons_succ]
  refine tk 9 (.agg VO.toArray) hHeld ?_ (hr := by
    intro w' hSw
    exact exec_load_run 44 (.tmp 3) ⟨b2, 0, none⟩ _ rfl rfl (load_blk hSw.2 44 _ Tryz.underlying44 rfl (info44 (by rw [HV2.out]; exact heldL_len HI2.out.len _ _ _))))
  simp only [Act.put, List.setIfInBounds_toArray, List.set_cons_zero, List.set_cons_succ]
  refine wpAnyH_ready (rs := [10]) (by kernel_rfl) (by simp) ?_
  refine AllReadyH.cons rfl (fun Kq hK => ?_) AllReadyH.nil
  go_simp
  refine HC25.out.mono ?_
  rintro e wF ⟨rfl, kF⟩
  have hSF : (fun w' : World => Blk w' bx VX 44 ∧ Blk w' b2 VO 44) wF := ⟨hSE.1.kept kF (by intro h; have h' : lo ≤ bx ∧ bx < bx := h; omega), hSE.2.kept kF (by have := HLN.out.1.b; intro h; have h' : lo ≤ b2 ∧ b2 < bx := h; omega)⟩
  have HSF : Hid (St wF c r (fun k => k < lo ∨ wC.heap.size ≤ k) ∧ Keeps (fun k => lo ≤ k ∧ k < bx) wE wF) := ⟨HKE.out.2.kept kF fun k hk h => by have := HLN.out.1.bx; have h' : lo ≤ k ∧ k < bx := h; have hk' : k < lo ∨ wC.heap.size ≤ k := hk; omega, kF⟩
  have HC21 : Hid (Calls _ _ _ _ _) := HSF.out.1.held
  clear kF HC25 hSE
  refine hK.out _ _ hSF (fun hHeld => ?_)
  simp only [Act.put, List.setIfInBounds_toArray, List.set_cons_zero, List.set_cons_succ]
  refine tk 11 (.bool false) hHeld ?_
  simp only [Act.put, List.setIfInBounds_toArray, List.set_cons_zero, List.set_cons_succ]
  refine tk 12 (.bool false) hHeld ?_
  simp only [Act.put, List.setIfInBounds_toArray, List.set_cons_zero, List.set_cons_succ]
  refine tk 13 (.bool false) hHeld ?_
  simp only [Act.put, List.setIfInBounds_toArray, List.set_cons_zero, List.set_cons_succ]
  refine tk 14 (ptr c) hHeld ?_
  simp only [Act.put, List.setIfInBounds_toArray, List.set_cons_zero, List.set_cons_succ]
  refine tk 15 (ptr r) hHeld ?_
  simp only [Act.put, List.setIfInBounds_toArray, List.set_cons_zero, List.set_cons_succ]
  refine wpAnyH_ready (rs := [16]) (by kernel_rfl) (by simp) ?_
  refine AllReadyH.cons rfl (fun Kq hK => ?_) AllReadyH.nil
  go_simp
  refine HC21.out.mono ?_
  rintro e wG ⟨rfl, kG⟩
  have hSG : (fun w' : World => Blk w' bx VX 44 ∧ Blk w' b2 VO 44) wG := ⟨hSF.1.kept kG fun h => h, hSF.2.kept kG fun h => h⟩
  have HM2 : Hid (Mid w c r b1 b2 VH VO wG) := by
    have q := HLN.out.1
    have hd := q.st.d
    have k1 : Keeps (fun b => b = c ∨ b = r ∨ (lo ≤ b ∧ b < bx)) wC wG := ((HKE.out.1.mono fun b _ h => h.elim .inl fun h => .inr (.inl h)).trans HSF.out.2 fun b _ h => .inr (.inr h)).trans kG fun _ _ h => h.elim
    have qb := q.b
    exact ⟨(HSF.out.1.kept kG fun _ _ h => h).mono fun _ _ _ => trivial, q.k.trans k1 fun b hb h => by have h' : b = c ∨ b = r ∨ (lo ≤ b ∧ b < bx) := h; omega, q.h1.kept k1 (by intro h; have h' : b1 = c ∨ b1 = r ∨ (lo ≤ b1 ∧ b1 < bx) := h; omega), q.h2.kept k1 (by intro h; have h' : b2 = c ∨ b2 = r ∨ (lo ≤ b2 ∧ b2 < bx) := h; omega), qb.1, qb.2.1, qb.2.2.1, qb.2.2.2.1, qb.2.2.2.2.1, qb.2.2.2.2.2.1⟩
  clear kG HC21 hSF
  refine hK.out _ _ hSG (fun hHeld => ?_)
  simp only [Act.put, List.setIfInBounds_toArray, List.set_cons_zero, List.set_cons_succ]
  refine tk 17 (.bool false) hHeld ?_
  simp only [Act.put, List.setIfInBounds_toArray, List.set_cons_zero, List.set_cons_succ]
  refine tk 18 (.bool false) hHeld ?_
  simp only [Act.put, List.setIfInBounds_toArray, List.set_cons_zero, List.set_cons_succ]
  refine wpAnyH_done (by kernel_rfl) ?_ _
  clear hHeld hK hSG HSF HKE HLN HM
  have HM := HM2
  clear HM2
  obtain ⟨wO, hwn⟩ : ∃ wn, wn = wG := ⟨_, rfl⟩
  subst hwn
  -- a nil core
  have HK0 : Hid (Keeps (fun _ => False) w wO ∧ Blk wO b1 VH 44 ∧ rg1.length = 16 ∧ VH.length = 19) := ⟨HM.out.2.1, HM.out.2.2.1, HI1.out.len, by rw [HV1.out]; exact heldL_len HI1.out.len _ _ _⟩
  clear HM HF1 HF2 HI2 HV2 H0
  have HC26 : Hid (Calls _ _ _ _ _) := step_nil wO
  go_wp2_with fail
  go_wp2_with fail
  refine HC26.out.mono ?_
  rintro e w1 ⟨rfl, k1⟩
  obtain ⟨wP, hwP⟩ : ∃ wP, wP = w1.alloc (.cells #[.int .i64 0, .int .i64 0, .int .i64 0, .int .u32 0, .int .u32 0, .bool false, .int .u32 0, .int .u32 0] 58) := ⟨_, rfl⟩
  obtain ⟨ba, hba⟩ : ∃ ba, ba = w1.heap.size := ⟨_, rfl⟩
  have HWP : Hid (wP = w1.alloc (.cells #[.int .i64 0, .int .i64 0, .int .i64 0, .int .u32 0, .int .u32 0, .bool false, .int .u32 0, .int .u32 0] 58) ∧ ba = w1.heap.size) := ⟨hwP, hba⟩
  have HP0 : Hid (Blk wP ba [.int .i64 0, .int .i64 0, .int .i64 0, .int .u32 0, .int .u32 0, .bool false, .int .u32 0, .int .u32 0] 58 ∧ Keeps (fun _ => False) wO wP) := ⟨by rw [hwP, hba]; exact Blk.new w1 _ 58, by rw [hwP]; exact k1.alloc _⟩
  clear k1 HC26 hwP hba
  go_upto_region 15 with fail
  rw [← HWP.out.1, ← HWP.out.2]
  clear HWP
  have hb1 := HK0.out.2.1.kept HP0.out.2 fun h => h
  have HRx : Hid (wP.rangeAt b1 0 (ctx rg1 pc1) ∧ (Tryz.prog.info? 40).map (·.size) = some (ctx rg1 pc1).length) := ⟨fun j v hv => by rw [Nat.zero_add]; exact hb1.cell (by rw [HV1.out]; exact heldL_ctx rg1 pc1 _ _ hv), info40 HK0.out.2.2.1 pc1⟩
  have HC27 : Hid (Calls _ _ _ _ _) := set_nil (ctx rg1 pc1).toArray wP
  clear hb1
  go_wp2_with (refine wpList_load_mid rfl 40 (.tmp 76) rfl b1 0 rfl (ctx rg1 pc1) _ HRx.out.1 Tryz.underlying40 rfl HRx.out.2 ?_; refine Hid.out ?_)
  unfold Hid
  clear HRx
  go_wp2_with fail
  refine HC27.out.mono ?_
  rintro e w2 ⟨rfl, k2⟩
  have HK2 : Hid (Keeps (fun _ => False) wO w2 ∧ Blk w2 ba [.int .i64 0, .int .i64 0, .int .i64 0, .int .u32 0, .int .u32 0, .bool false, .int .u32 0, .int .u32 0] 58) := ⟨HP0.out.2.trans k2 fun _ _ h => h, HP0.out.1.kept k2 fun h => h⟩
  clear k2 HC27 HP0
  have HC28 : Hid (Calls _ _ _ _ _) := flush_nil w2
  go_wp2_with fail
  refine HC28.out.mono ?_
  rintro e w3 ⟨rfl, rfl⟩
  clear HC28
  have HRy : Hid (w3.rangeAt ba 0 [.int .i64 0, .int .i64 0, .int .i64 0, .int .u32 0, .int .u32 0, .bool false, .int .u32 0, .int .u32 0]) := HK2.out.2.range
  have he58 := eq58
  have HRz : Hid (w3.rangeAt b1 0 VH) := (HK0.out.2.1.kept HK2.out.1 fun h => h).range
  have HC23 : Hid (Calls _ _ _ _ _) := restore_nil VH.toArray w3
  go_wp2_with (refine wpList_load_on rfl 58 (.tmp 10) rfl ba 0 rfl [.int .i64 0, .int .i64 0, .int .i64 0, .int .u32 0, .int .u32 0, .bool false, .int .u32 0, .int .u32 0] _ HRy.out Tryz.underlying58 rfl info58 ?_; refine Hid.out ?_)
  unfold Hid
  go_wp2_with (refine wpList_load_on rfl 44 (.tmp 2) rfl b1 0 rfl VH _ HRz.out Tryz.underlying44 rfl (info44 HK0.out.2.2.2) ?_; refine Hid.out ?_)
  unfold Hid
  go_wp2_with fail
  refine HC23.out.mono ?_
  rintro e w4 ⟨rfl, k4⟩
  have HK4 : Hid (Keeps (fun _ => False) wO w4) := HK2.out.1.trans k4 fun _ _ h => h
  clear k4 HC23 HRy HRz HK2 he58
  have HC19 : Hid (Calls _ _ _ _ _) := context_nil w4
  go_wp2_with fail
  refine HC19.out.mono ?_
  rintro e w5 ⟨rfl, k5⟩
  have HK5 : Hid (Keeps (fun _ => False) wO w5) := HK4.out.trans k5 fun _ _ h => h
  clear k5 HC19 HK4
  have he40 := eq40z
  have HC30 : Hid (Calls _ _ _ _ _) := held_nil w5
  go_wp2_with fail
  refine HC30.out.mono ?_
  rintro e w6 ⟨rfl, k6⟩
  have HK6 : Hid (Keeps (fun _ => False) wO w6) := HK5.out.trans k6 fun _ _ h => h
  clear k6 HC30 HK5 he40
  have HC29 : Hid (Calls _ _ _ _ _) := same_zero w6
  go_wp2_with fail
  refine HC29.out.mono ?_
  rintro e w7 ⟨rfl, k7⟩
  have HK7 : Hid (Keeps (fun _ => False) w w7) := (HK0.out.1.trans HK6.out fun _ _ h => h).trans k7 fun _ _ h => h
  clear k7 HC29 HK6
  have HC12 : Hid (Calls _ _ _ _ _) := awake_any w7 (tabs_kept HT.out HK7.out fun _ h => h.elim)
  go_wp2_with fail
  refine HC12.out.mono ?_
  rintro e w8 ⟨rfl, k8⟩
  have HK8 : Hid (Keeps (fun _ => False) w w8) := HK7.out.trans k8 fun _ _ h => h
  clear k8 HC12 HK7
  go_wp2
  go_ret
  exact ⟨rfl, HK8.out⟩

end Go.Proofs.YtipejahmjdamjaaGreatDoor
