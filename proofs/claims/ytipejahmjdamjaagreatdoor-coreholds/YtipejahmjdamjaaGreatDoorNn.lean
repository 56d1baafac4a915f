import Derived.Test.YtipejahmjdamjaaGreatDoorNk
namespace Go.Proofs.YtipejahmjdamjaaGreatDoor
open Go.RowKit Go.Shelf
set_option linter.unusedVariables false
set_option linter.unusedSimpArgs false
set_option maxRecDepth 20000

theorem rows_rel {st : Nat → List Int} {us : List Int} (h : Ch.Rel st us) : rows (fun i => Ch.hd (i : Int) us) = rows st := by
  unfold rows
  rw [← h.eq 0 (by omega), ← h.eq 1 (by omega), ← h.eq 2 (by omega), ← h.eq 3 (by omega)]

/-- What is held, put into a block of its own. -/
theorem put_held (w : World) (V : List Value) (hl : V.length = 19) (h1 : ∀ v ∈ V, v.oneCell' = true) :
    ((w.alloc (.cells heldZ.toArray 44)).there w.heap.size 0 V.toArray.size ∧ (Tryz.prog.info? 44).map (·.size) = some V.toArray.size ∧ V.toArray.all (·.oneCell') = true) ∧
    Blk ((w.alloc (.cells heldZ.toArray 44)).setCells w.heap.size 0 V.toArray.toList) w.heap.size V 44 ∧ Keeps (fun _ => False) w ((w.alloc (.cells heldZ.toArray 44)).setCells w.heap.size 0 V.toArray.toList) ∧ (w.heap.size + 1 ≤ ((w.alloc (.cells heldZ.toArray 44)).setCells w.heap.size 0 V.toArray.toList).heap.size) := by
  have hB : Blk (w.alloc (.cells heldZ.toArray 44)) w.heap.size heldZ 44 := by have := Blk.new w heldZ.toArray 44; simpa using this
  have hB2 := blk_setCells (b := w.heap.size) (t := 44) V heldZ [] [] (w.alloc (.cells heldZ.toArray 44)) hB (by rw [hl]; rfl)
  have hK : Keeps (fun _ => False) w (w.alloc (.cells heldZ.toArray 44)) := (Keeps.refl _ w).alloc _
  have hks := keeps_setCells w.heap.size V.toArray.toList 0 (w.alloc (.cells heldZ.toArray 44))
  refine ⟨⟨fun j hj => ⟨?_, hB.frozen _⟩, by rw [List.size_toArray, hl]; kernel_rfl, all_oneCell_toArray h1⟩, by simpa using hB2, (hK.mono fun _ _ h => h).trans hks fun k hk e => by omega, ?_⟩
  · have hj' : j < 19 := by simpa [hl] using hj
    rw [hB.cell (List.getElem?_eq_getElem (by simpa [heldZ] using hj'))]
    rfl
  · have := hks.size
    simp at this ⊢
    omega
theorem HR.one {w : World} {lls : List (List Int)} {ls : List Tl.Lf} {l v : Value} (h : HR w lls ls l v) (rg : List UInt32) (pc : Nat) : ∀ x ∈ heldL rg pc l v, x.oneCell' = true := by
  obtain ⟨la, lc, va, vc, rfl, rfl, _⟩ := h
  exact heldL_oneg rg pc _ _ _ _ _ _
theorem info44 {V : List Value} (h : V.length = 19) : (Tryz.prog.info? 44).map (·.size) = some V.length := by rw [h]; kernel_rfl
theorem Blk.range {w : World} {g : Nat} {l : List Value} {t : TypeId} (h : Blk w g l t) : w.rangeAt g 0 l := fun j v hv => by rw [Nat.zero_add]; exact h.cell hv

/-- Both cores hold the same. -/
structure Both (w : World) (c tb cb r tr cr : Nat) (rg : List UInt32) (pc : Nat) (ls : List Tl.Lf) (st : Nat → List Int) (us : List Int) (FT FC GT GC : Nat → Prop) : Prop where
  core : CoreAt w c tb cb rg pc ls st FT FC
  ref : RefAt w r tr cr rg pc ls us GT GC
  rel : Ch.Rel st us
theorem Both.kept {S : Nat → Prop} {w w' : World} {c tb cb r tr cr : Nat} {rg : List UInt32} {pc : Nat} {ls : List Tl.Lf} {st : Nat → List Int} {us : List Int} {FT FC GT GC : Nat → Prop} (h : Both w c tb cb r tr cr rg pc ls st us FT FC GT GC) (hK : Keeps S w w') (h1 : ∀ k, (k = c ∨ FT k ∨ FC k) → ¬ S k) (h2 : ∀ k, (k = r ∨ GT k ∨ GC k) → ¬ S k) : Both w' c tb cb r tr cr rg pc ls st us FT FC GT GC :=
  ⟨h.core.kept hK h1, h.ref.kept hK h2, h.rel⟩

set_option maxHeartbeats 8000000 in
theorem held_both (c tb cb r tr cr : Nat) (rg : List UInt32) (pc : Nat) (ls : List Tl.Lf) (st : Nat → List Int) (us : List Int) (FT FC GT GC : Nat → Prop) (w : World) (h : Both w c tb cb r tr cr rg pc ls st us FT FC GT GC) :
    Calls Tryz.prog 21 #[ptr c, ptr r] w fun e w' => e = .returned (.bool true) ∧ Keeps (fun _ => False) w w' := by
  have HB : Hid (Both w c tb cb r tr cr rg pc ls st us FT FC GT GC) := h
  clear h
  go_enter Tryz.func21, Tryz.ntmps21
  go_wp2
  go_loopw [5] (fun i wr => ∃ k : Nat, k ≤ 2 ∧ i = .int .i64 k ∧ Keeps (fun _ => False) w wr) (fun i _ => 2 - (intOf i).toNat)
  case atStart => exact ⟨0, by omega, rfl, Keeps.refl _ _⟩
  case round =>
    obtain ⟨k, hk, rfl, hK⟩ := hrel
    have b0 := HB.out.kept hK (fun _ _ h => h) (fun _ _ h => h)
    by_cases hlt : k < 2
    · have hkz : (k : Int) < 2 := by omega
      have H1 : Hid (Calls _ _ _ _ _) := heldF_any c tb cb rg pc ls st FT FC wr b0.core
      have HK : Hid (Keeps (fun _ => False) w wr ∧ Both wr c tb cb r tr cr rg pc ls st us FT FC GT GC ∧ k < 2) := ⟨hK, b0, hlt⟩
      have hr16 := b0.core.len
      have hpl := b0.core.pcl
      have hst2 : ∀ i, i < 4 → (st i).length ≤ 2 := fun i hi => b0.core.ca.fits i hi
      have hl4 := b0.core.tl.le
      have HC : Hid (rg.length = 16 ∧ pc < 4294967296 ∧ (∀ i, i < 4 → (st i).length ≤ 2) ∧ ls.length ≤ 4) := ⟨hr16, hpl, hst2, hl4⟩
      clear hK b0 hlt hk hr16 hpl hst2 hl4
      go_wp2_with fail
      go_wp2_with fail
      refine H1.out.mono ?_
      rintro e w1 ⟨G1, gv1, cap1, rfl, o1, ⟨vs1, f1⟩, z1, k1⟩
      obtain ⟨V1, eV1⟩ : ∃ V, V = heldL rg pc (.slice (some ⟨G1, 0, none⟩) 4 4) (.slice (some ⟨gv1, 0, none⟩) ls.length cap1) := ⟨_, rfl⟩
      have l1 : V1.length = 19 := by rw [eV1]; exact heldL_len HC.out.1 _ _ _
      have p1 := put_held w1 V1 l1 (by rw [eV1]; exact heldL_oneg _ _ _ _ _ _ _ _)
      rw [← eV1]
      obtain ⟨w2, hw1⟩ : ∃ w2, w2 = (w1.alloc (.cells heldZ.toArray 44)).setCells w1.heap.size 0 V1.toArray.toList := ⟨_, rfl⟩
      rw [← hw1] at p1
      have HP1 : Hid ((w1.alloc (.cells heldZ.toArray 44)).there w1.heap.size 0 V1.toArray.size ∧ (Tryz.prog.info? 44).map (·.size) = some V1.toArray.size ∧ V1.toArray.all (·.oneCell') = true) := p1.1
      have HW1 : Hid (w2 = (w1.alloc (.cells heldZ.toArray 44)).setCells w1.heap.size 0 V1.toArray.toList) := hw1
      simp only [heldZ] at HP1 HW1
      obtain ⟨lo, elo⟩ : ∃ lo, lo = wr.heap.size := ⟨_, rfl⟩
      obtain ⟨mid, emid⟩ : ∃ mid, mid = gv1 + 1 := ⟨_, rfl⟩
      obtain ⟨ba, eba⟩ : ∃ ba, ba = w1.heap.size := ⟨_, rfl⟩
      have hgv1 : gv1 < w1.heap.size := owns_lt o1 rfl
      have HA2 : Hid (HO w2 lo mid st ls G1 gv1 cap1 vs1 ∧ Blk w2 ba V1 44 ∧ mid ≤ w2.heap.size ∧ V1 = heldL rg pc (.slice (some ⟨G1, 0, none⟩) 4 4) (.slice (some ⟨gv1, 0, none⟩) ls.length cap1) ∧ V1.length = 19 ∧ Keeps (fun _ => False) wr w2 ∧ lo = wr.heap.size) := by
        have h0 : HO w1 lo mid st ls G1 gv1 cap1 vs1 := ⟨f1.mono fun b hb _ => ⟨by omega, by omega⟩, o1, ⟨by omega, by omega⟩, ⟨by omega, by omega⟩⟩
        refine ⟨h0.kept p1.2.2.1 fun _ _ _ h => h, by rw [eba]; exact p1.2.1, by have := p1.2.2.2; omega, eV1, l1, k1.trans p1.2.2.1 fun _ _ h => h, elo⟩
      have H2 : Hid (Calls _ _ _ _ _) := heldF_any c tb cb rg pc ls st FT FC w2 (HK.out.2.1.core.kept HA2.out.2.2.2.2.2.1 fun _ _ h => h)
      have HEB : Hid (ba = w1.heap.size) := eba
      clear o1 f1 z1 k1 eV1 l1 p1 hw1 hgv1 elo emid eba H1
      go_wp2_with (refine wpList_store_mid rfl 44 (.tmp 6) (.tmp 14) rfl w1.heap.size 0 V1.toArray rfl rfl HP1.out.1 HP1.out.2.1 HP1.out.2.2 ?_; refine Hid.out ?_)
      unfold Hid
      rw [← HW1.out]
      clear HP1 HW1
      rw [← HEB.out]
      clear HEB
      go_wp2_with fail
      refine H2.out.mono ?_
      rintro e w3 ⟨G2, gv2, cap2, rfl, o2, ⟨vs2, f2⟩, z2, k3⟩
      obtain ⟨V2, eV2⟩ : ∃ V, V = heldL rg pc (.slice (some ⟨G2, 0, none⟩) 4 4) (.slice (some ⟨gv2, 0, none⟩) ls.length cap2) := ⟨_, rfl⟩
      have l2 : V2.length = 19 := by rw [eV2]; exact heldL_len HC.out.1 _ _ _
      have p2 := put_held w3 V2 l2 (by rw [eV2]; exact heldL_oneg _ _ _ _ _ _ _ _)
      rw [← eV2]
      obtain ⟨w4, hw2⟩ : ∃ w4, w4 = (w3.alloc (.cells heldZ.toArray 44)).setCells w3.heap.size 0 V2.toArray.toList := ⟨_, rfl⟩
      rw [← hw2] at p2
      have HP2 : Hid ((w3.alloc (.cells heldZ.toArray 44)).there w3.heap.size 0 V2.toArray.size ∧ (Tryz.prog.info? 44).map (·.size) = some V2.toArray.size ∧ V2.toArray.all (·.oneCell') = true) := p2.1
      have HW2 : Hid (w4 = (w3.alloc (.cells heldZ.toArray 44)).setCells w3.heap.size 0 V2.toArray.toList) := hw2
      simp only [heldZ] at HP2 HW2
      obtain ⟨hi, ehi⟩ : ∃ hi, hi = gv2 + 1 := ⟨_, rfl⟩
      obtain ⟨bb, ebb⟩ : ∃ bb, bb = w3.heap.size := ⟨_, rfl⟩
      have hgv2 : gv2 < w3.heap.size := owns_lt o2 rfl
      have HA4 : Hid (HO w4 lo mid st ls G1 gv1 cap1 vs1 ∧ HO w4 mid hi st ls G2 gv2 cap2 vs2 ∧ Blk w4 ba V1 44 ∧ Blk w4 bb V2 44 ∧ hi ≤ w4.heap.size ∧ V1 = heldL rg pc (.slice (some ⟨G1, 0, none⟩) 4 4) (.slice (some ⟨gv1, 0, none⟩) ls.length cap1) ∧ V2 = heldL rg pc (.slice (some ⟨G2, 0, none⟩) 4 4) (.slice (some ⟨gv2, 0, none⟩) ls.length cap2) ∧ V1.length = 19 ∧ V2.length = 19 ∧ Keeps (fun _ => False) wr w4 ∧ lo = wr.heap.size) := by
        obtain ⟨q1, q2, q3, q4, q5, q6, q7⟩ := HA2.out
        have k24 := k3.trans p2.2.2.1 fun _ _ h => h
        have h0 : HO w3 mid hi st ls G2 gv2 cap2 vs2 := ⟨f2.mono fun b hb _ => ⟨by omega, by omega⟩, o2, ⟨by omega, by omega⟩, ⟨by omega, by omega⟩⟩
        refine ⟨q1.kept k24 fun _ _ _ h => h, h0.kept p2.2.2.1 fun _ _ _ h => h, q2.kept k24 fun h => h, by rw [ebb]; exact p2.2.1, by have := p2.2.2.2; omega, q4, eV2, q5, l2, q6.trans k24 fun _ _ h => h, q7⟩
      have H3 : Hid (Calls _ _ _ _ _) := refHeld_any r tr cr rg pc ls us GT GC w4 (HK.out.2.1.ref.kept HA4.out.2.2.2.2.2.2.2.2.2.1 fun _ _ h => h)
      have HEB : Hid (bb = w3.heap.size) := ebb
      clear o2 f2 z2 k3 eV2 l2 p2 hw2 hgv2 ehi ebb H2 HA2
      go_wp2_with (refine wpList_store_mid rfl 44 (.tmp 7) (.tmp 16) rfl w3.heap.size 0 V2.toArray rfl rfl HP2.out.1 HP2.out.2.1 HP2.out.2.2 ?_; refine Hid.out ?_)
      unfold Hid
      rw [← HW2.out]
      clear HP2 HW2
      rw [← HEB.out]
      clear HEB
      go_wp2_with fail
      refine H3.out.mono ?_
      rintro e w5 ⟨l, v, rfl, hR, k5⟩
      rw [rows_rel HK.out.2.1.rel] at hR
      obtain ⟨V3, eV3⟩ : ∃ V, V = heldL rg pc l v := ⟨_, rfl⟩
      have l3 : V3.length = 19 := by rw [eV3]; exact heldL_len HC.out.1 _ _ _
      have p3 := put_held w5 V3 l3 (by rw [eV3]; exact hR.one rg pc)
      rw [← eV3]
      obtain ⟨w6, hw3⟩ : ∃ w6, w6 = (w5.alloc (.cells heldZ.toArray 44)).setCells w5.heap.size 0 V3.toArray.toList := ⟨_, rfl⟩
      rw [← hw3] at p3
      have HP3 : Hid ((w5.alloc (.cells heldZ.toArray 44)).there w5.heap.size 0 V3.toArray.size ∧ (Tryz.prog.info? 44).map (·.size) = some V3.toArray.size ∧ V3.toArray.all (·.oneCell') = true) := p3.1
      have HW3 : Hid (w6 = (w5.alloc (.cells heldZ.toArray 44)).setCells w5.heap.size 0 V3.toArray.toList) := hw3
      simp only [heldZ] at HP3 HW3
      obtain ⟨bc, ebc⟩ : ∃ bc, bc = w5.heap.size := ⟨_, rfl⟩
      have HA6 : Hid (HO w6 lo mid st ls G1 gv1 cap1 vs1 ∧ HO w6 mid hi st ls G2 gv2 cap2 vs2 ∧ Blk w6 ba V1 44 ∧ Blk w6 bb V2 44 ∧ Blk w6 bc V3 44 ∧ hi ≤ w6.heap.size ∧ V1 = heldL rg pc (.slice (some ⟨G1, 0, none⟩) 4 4) (.slice (some ⟨gv1, 0, none⟩) ls.length cap1) ∧ V2 = heldL rg pc (.slice (some ⟨G2, 0, none⟩) 4 4) (.slice (some ⟨gv2, 0, none⟩) ls.length cap2) ∧ V3 = heldL rg pc l v ∧ V1.length = 19 ∧ V2.length = 19 ∧ V3.length = 19 ∧ Keeps (fun _ => False) wr w6 ∧ lo = wr.heap.size ∧ HR w6 (rows st) ls l v) := by
        obtain ⟨q1, q2, q3, q4, q5, q6, q7, q8, q9, q10, q11⟩ := HA4.out
        have k46 := k5.trans p3.2.2.1 fun _ _ h => h
        refine ⟨q1.kept k46 fun _ _ _ h => h, q2.kept k46 fun _ _ _ h => h, q3.kept k46 fun h => h, q4.kept k46 fun h => h, by rw [ebc]; exact p3.2.1, by have := k46.size; omega, q6, q7, eV3, q8, q9, l3, q10.trans k46 fun _ _ h => h, q11, hR.kept p3.2.2.1⟩
      have HEB : Hid (bc = w5.heap.size) := ebc
      clear hR k5 eV3 l3 p3 hw3 ebc H3 HA4
      go_wp2_with (refine wpList_store_mid rfl 44 (.tmp 8) (.tmp 18) rfl w5.heap.size 0 V3.toArray rfl rfl HP3.out.1 HP3.out.2.1 HP3.out.2.2 ?_; refine Hid.out ?_)
      unfold Hid
      rw [← HW3.out]
      clear HP3 HW3
      rw [← HEB.out]
      clear HEB
      obtain ⟨q1, q2, q3, q4, q5, q6, q7, q8, q9, q10, q11, q12, q13, q14, q15⟩ := HA6.out
      have HLa : Hid (w6.rangeAt ba 0 V1) := q3.range
      have HLc : Hid (w6.rangeAt bc 0 V3) := q5.range
      have HI1 : Hid ((Tryz.prog.info? 44).map (·.size) = some V1.length) := info44 q10
      have HI2 : Hid ((Tryz.prog.info? 44).map (·.size) = some V2.length) := info44 q11
      have HI3 : Hid ((Tryz.prog.info? 44).map (·.size) = some V3.length) := info44 q12
      have hRa : HR w6 (rows st) ls (.slice (some ⟨G1, 0, none⟩) 4 4) (.slice (some ⟨gv1, 0, none⟩) ls.length cap1) := HR.of (gv := 0) (n := 0) q1.four.lst HC.out.2.2.1 q1.row
      have hRb : HR w6 (rows st) ls (.slice (some ⟨G2, 0, none⟩) 4 4) (.slice (some ⟨gv2, 0, none⟩) ls.length cap2) := HR.of (gv := 0) (n := 0) q2.four.lst HC.out.2.2.1 q2.row
      have HRb : Hid (HR w6 (rows st) ls (.slice (some ⟨G2, 0, none⟩) 4 4) (.slice (some ⟨gv2, 0, none⟩) ls.length cap2)) := hRb
      have h1 := sameHeld_any rg pc (rows st) ls _ _ _ _ w6 HC.out.1 HC.out.2.1 hRa q15 (by simp [rows])
      rw [← q7, ← q9] at h1
      have HX1 : Hid (Calls Tryz.prog 29 #[.agg V1.toArray, .agg V3.toArray] w6 fun e w' => e = .returned (.bool true) ∧ Keeps (fun _ => False) w6 w') := h1
      clear q1 q2 q3 q4 q5 q6 q7 q8 q9 q10 q11 q12 q13 q14 q15 hRa hRb h1
      go_wp2_with (refine wpList_load_on rfl 44 (.tmp 6) rfl ba 0 rfl V1 _ HLa.out Tryz.underlying44 rfl HI1.out ?_; refine Hid.out ?_)
      unfold Hid
      go_wp2_with (refine wpList_load_on rfl 44 (.tmp 8) rfl bc 0 rfl V3 _ HLc.out Tryz.underlying44 rfl HI3.out ?_; refine Hid.out ?_)
      unfold Hid
      go_wp2_with fail
      refine HX1.out.mono ?_
      rintro e w7 ⟨rfl, k7⟩
      obtain ⟨q1, q2, q3, q4, q5, q6, q7, q8, q9, q10, q11, q12, q13, q14, q15⟩ := HA6.out
      have HLb : Hid (w7.rangeAt bb 0 V2) := (q4.kept k7 fun h => h).range
      have HLc : Hid (w7.rangeAt bc 0 V3) := (q5.kept k7 fun h => h).range
      have h2 := sameHeld_any rg pc (rows st) ls _ _ _ _ w7 HC.out.1 HC.out.2.1 (HRb.out.kept k7) (q15.kept k7) (by simp [rows])
      rw [← q8, ← q9] at h2
      have HX2 : Hid (Calls Tryz.prog 29 #[.agg V2.toArray, .agg V3.toArray] w7 fun e w' => e = .returned (.bool true) ∧ Keeps (fun _ => False) w7 w') := h2
      have HK7 : Hid (Keeps (fun _ => False) w6 w7) := k7
      clear q1 q2 q3 q4 q5 q6 q7 q8 q9 q10 q11 q12 q13 q14 q15 h2 k7 HX1 HLa
      go_wp2_with (refine wpList_load_on rfl 44 (.tmp 7) rfl bb 0 rfl V2 _ HLb.out Tryz.underlying44 rfl HI2.out ?_; refine Hid.out ?_)
      unfold Hid
      go_wp2_with (refine wpList_load_on rfl 44 (.tmp 8) rfl bc 0 rfl V3 _ HLc.out Tryz.underlying44 rfl HI3.out ?_; refine Hid.out ?_)
      unfold Hid
      go_wp2_with fail
      refine HX2.out.mono ?_
      rintro e w8 ⟨rfl, k8⟩
      obtain ⟨q1, q2, q3, q4, q5, q6, q7, q8, q9, q10, q11, q12, q13, q14, q15⟩ := HA6.out
      have k68 := HK7.out.trans k8 fun _ _ h => h
      have HLa : Hid (w8.rangeAt ba 0 V1) := (q3.kept k68 fun h => h).range
      have HLb : Hid (w8.rangeAt bb 0 V2) := (q4.kept k68 fun h => h).range
      have h3 := apart_any rg rg pc pc lo mid hi st st ls ls G1 G2 gv1 gv2 cap1 cap2 vs1 vs2 w8 (q1.kept k68 fun _ _ _ h => h) (q2.kept k68 fun _ _ _ h => h) (by have := k68.size; omega) HC.out.1 HC.out.1 HC.out.2.2.2 HC.out.2.2.2 HC.out.2.2.1 HC.out.2.2.1
      rw [← q7, ← q8] at h3
      have HX3 : Hid (Calls Tryz.prog 49 #[.agg V1.toArray, .agg V2.toArray] w8 fun e w' => e = .returned (.bool true) ∧ Keeps (fun k => lo ≤ k ∧ k < hi) w8 w') := h3
      have HK8 : Hid (Keeps (fun _ => False) wr w8 ∧ lo = wr.heap.size) := ⟨q13.trans k68 fun _ _ h => h, q14⟩
      clear q1 q2 q3 q4 q5 q6 q7 q8 q9 q10 q11 q12 q13 q14 q15 h3 k8 k68 HX2 HK7 HA6 HRb
      go_wp2_with (refine wpList_load_on rfl 44 (.tmp 6) rfl ba 0 rfl V1 _ HLa.out Tryz.underlying44 rfl HI1.out ?_; refine Hid.out ?_)
      unfold Hid
      go_wp2_with (refine wpList_load_on rfl 44 (.tmp 7) rfl bb 0 rfl V2 _ HLb.out Tryz.underlying44 rfl HI2.out ?_; refine Hid.out ?_)
      unfold Hid
      go_wp2_with fail
      refine HX3.out.mono ?_
      rintro e w9 ⟨rfl, k9⟩
      have HK9 : Hid (Keeps (fun _ => False) w w9 ∧ k < 2) := ⟨HK.out.1.trans (HK8.out.1.trans' k9) fun b hb hS => by have := HK8.out.2; have := HK.out.1.size; omega, HK.out.2.2⟩
      clear k9 HX3 HK8 HK HC HLa HLb HLc HI1 HI2 HI3
      go_wp2
      go_roundw
      case rel => exact ⟨k + 1, by have := HK9.out.2; omega, by go_num, HK9.out.1⟩
      case measure => have := HK9.out.2; simp [intOf]; omega
    · have hkz : ¬ (k : Int) < 2 := by omega
      have H1 : Hid (Calls _ _ _ _ _) := heldF_any c tb cb rg pc ls st FT FC wr b0.core
      have HK : Hid (Keeps (fun _ => False) w wr ∧ Both wr c tb cb r tr cr rg pc ls st us FT FC GT GC) := ⟨hK, b0⟩
      clear hK b0 hlt hk
      go_wp2_with fail
      go_wp2_with fail
      refine H1.out.mono ?_
      rintro e w1 ⟨G1, gv1, cap1, rfl, o1, ⟨vs1, f1⟩, z1, k1⟩
      have hRa : HR w1 (rows st) ls (.slice (some ⟨G1, 0, none⟩) 4 4) (.slice (some ⟨gv1, 0, none⟩) ls.length cap1) := HR.of (gv := 0) (n := 0) f1.lst (fun i hi => HK.out.2.core.ca.fits i hi) o1
      have H2 : Hid (Calls _ _ _ _ _) := refHeld_any r tr cr rg pc ls us GT GC w1 (HK.out.2.ref.kept k1 fun _ _ h => h)
      have HR1 : Hid (HR w1 (rows st) ls (.slice (some ⟨G1, 0, none⟩) 4 4) (.slice (some ⟨gv1, 0, none⟩) ls.length cap1) ∧ Keeps (fun _ => False) w w1) := ⟨hRa, HK.out.1.trans k1 fun _ _ h => h⟩
      clear o1 f1 z1 k1 hRa H1
      go_wp2_with fail
      refine H2.out.mono ?_
      rintro e w2 ⟨l, v, rfl, hR, k2⟩
      rw [rows_rel HK.out.2.rel] at hR
      have H3 : Hid (Calls _ _ _ _ _) := sameHeld_any rg pc (rows st) ls _ _ _ _ w2 HK.out.2.core.len HK.out.2.core.pcl (HR1.out.1.kept k2) hR (by simp [rows])
      have HK2 : Hid (Keeps (fun _ => False) w w2) := HR1.out.2.trans k2 fun _ _ h => h
      clear hR k2 HR1 H2 HK
      go_wp2_with fail
      refine H3.out.mono ?_
      rintro e w3 ⟨rfl, k3⟩
      have HK3 : Hid (Keeps (fun _ => False) w w3) := HK2.out.trans k3 fun _ _ h => h
      clear k3 HK2 H3
      go_wp2
      go_ret
      exact ⟨rfl, HK3.out⟩

end Go.Proofs.YtipejahmjdamjaaGreatDoor
namespace Go.Proofs.YtipejahmjdamjaaGreatDoor
open Go.RowKit Go.Shelf
set_option linter.unusedVariables false
set_option maxRecDepth 6000

def markI (i : Nat) : Int := -5000 - (i : Int)

/-- The cells of N things. -/
def fI (N : Nat) (f : Nat → Int) : List Value := (List.range N).map fun i => .int .i64 (f i)
theorem fI_get {N : Nat} (f : Nat → Int) {i : Nat} (h : i < N) : (fI N f)[i]? = some (.int .i64 (f i)) := by
  unfold fI
  rw [List.getElem?_map, List.getElem?_range h]
  rfl
theorem fI_length (N : Nat) (f : Nat → Int) : (fI N f).length = N := by simp [fI]
theorem fI_set {N : Nat} (f : Nat → Int) (m : Nat) (x : Int) : (fI N f).set m (.int .i64 (x)) = fI N (fun i => if i = m then x else f i) := by
  apply List.ext_getElem?
  intro i
  rw [List.getElem?_set]
  by_cases hi : i < N
  · rw [fI_get _ hi, fI_get _ hi]
    by_cases e : m = i
    · subst e
      simp [fI_length, hi]
    · have e2 : ¬ i = m := fun h => e h.symm
      simp [e, e2]
  · have h1 : (fI N f)[i]? = none := by rw [List.getElem?_eq_none_iff, fI_length]; omega
    have h2 : (fI N (fun i => if i = m then x else f i))[i]? = none := by rw [List.getElem?_eq_none_iff, fI_length]; omega
    rw [h1, h2]
    by_cases e : m = i
    · subst e; simp [fI_length, hi]
    · simp [e]
theorem fI_congr {N : Nat} {f g : Nat → Int} (h : ∀ i, i < N → f i = g i) : fI N f = fI N g := by
  unfold fI
  refine List.map_congr_left fun i hi => ?_
  rw [h i (by simpa using hi)]

/-- What a handed list has in its places and behind them. -/
def spareI (ks : List Int) (i : Nat) : Int := (ks[i]?).getD (markI i)

theorem makeI (w : World) (N : Nat) (hN : N ≤ 3000000000) : (Instr.makeSlice 99 (.int .i64 N) (.int .i64 N)).run Tryz.prog w = .ok (.slice (some ⟨w.heap.size, 0, none⟩) N N) (w.alloc (.cells (fI N (fun _ => 0)).toArray 3)) := by
  obtain ⟨i0, hi, hz0, hz1, hz2⟩ := info_parts Ch.Tryz.info3
  have h := run_make (P := Tryz.prog) w 99 3 i0 _ Tryz.underlying99 hi hz0 .i64 .i64 N N (by omega) (by omega) (by rw [hz2]; omega) (by omega)
  rw [hz1, Nat.mul_one, Int.toNat_natCast] at h
  have e : madeCells (Value.int .i64 0).cells N = (fI N (fun _ => 0)).toArray := by
    apply Array.ext'
    apply List.ext_getElem?
    intro i
    have hm : i % 1 = 0 := by omega
    by_cases hi : i < N
    · simp [madeCells, fI, hi, Value.cells, hm]
    · simp [madeCells, fI, hi]
  rw [e] at h
  exact h


set_option maxHeartbeats 2000000 in
theorem handI_any (a : Option Addr) (n c : Nat) (ks : List Int) (w : World) (hs : Ch.SegI w a ks) (hn : n = ks.length) (hl : n ≤ 2147483647) :
    Calls Tryz.prog 50 #[.slice a n c] w fun e w' => e = .returned (.slice (some ⟨w.heap.size, 0, none⟩) n (n + 70)) ∧ Blk w' w.heap.size (fI (n + 70) (spareI ks)) 3 ∧ Keeps (fun _ => False) w w' := by
  obtain ⟨N, hN⟩ : ∃ N, N = n + 70 := ⟨_, rfl⟩
  obtain ⟨W1, hW1⟩ : ∃ W1, W1 = w.alloc (.cells (fI N (fun _ => 0)).toArray 3) := ⟨_, rfl⟩
  have HM : Hid ((Instr.makeSlice 99 (.int .i64 N) (.int .i64 N)).run Tryz.prog w = .ok (.slice (some ⟨w.heap.size, 0, none⟩) N N) W1) := by
    have := makeI w N (by omega)
    rw [hW1]; exact this
  have hB : Blk W1 w.heap.size (fI N (fun _ => 0)) 3 := by rw [hW1]; exact Blk.new w _ 3
  have hK : Keeps (fun _ => False) w W1 := by rw [hW1]; exact (Keeps.refl _ w).alloc _
  have hnN : (n : Int) + 70 = (N : Int) := by omega
  have hwN : IntKind.i64.wrap ((n : Int) + 70) = (N : Int) := by rw [IntKind.wrap_i64]; omega
  obtain ⟨B, hBB⟩ : ∃ B, B = w.heap.size := ⟨_, rfl⟩
  rw [← hN, ← hBB]
  rw [← hBB] at hB HM
  have HB : Hid (Blk W1 B (fI N (fun _ => 0)) 3 ∧ Keeps (fun _ => False) w W1 ∧ Ch.SegI w a ks ∧ n = ks.length ∧ N = n + 70 ∧ B = w.heap.size ∧ N ≤ 2147483717) := ⟨hB, hK, hs, hn, hN, hBB, by omega⟩
  have hN2 : (N : Int) ≤ 9000000000000000000 := by omega
  have hnle : (n : Int) ≤ N := by omega
  clear hB hK hs hn hN hBB hW1 hl
  go_enter Tryz.func50, Tryz.ntmps50
  go_wp2_with (at_make; refine wpList_make_run rfl _ _ 99 rfl (.int .i64 N) (.int .i64 N) (.slice (some ⟨B, 0, none⟩) N N) W1 rfl rfl HM.out ?_; refine Hid.out ?_)
  unfold Hid
  clear HM hwN
  go_wp2
  go_loopw [4] (fun i wr => ∃ m : Nat, m ≤ N ∧ i = .int .i64 m ∧ Keeps (fun _ => False) w wr ∧ Blk wr B (fI N (fun i => if i < m then markI i else 0)) 3) (fun i _ => N - (intOf i).toNat)
  case atStart => exact ⟨0, by omega, rfl, HB.out.2.1, by simpa using HB.out.1⟩
  case round =>
    obtain ⟨m, hm, rfl, hK, hB⟩ := hrel
    by_cases hlt : m < N
    · have hmz : (m : Int) < N := by omega
      have cu := hB.cell (fI_get _ hlt)
      have fu := hB.frozen m
      have HR : Hid (Keeps (fun _ => False) w (wr.setCell ⟨B, m, none⟩ (.int .i64 (markI m))) ∧ Blk (wr.setCell ⟨B, m, none⟩ (.int .i64 (markI m))) B (fI N (fun i => if i < m + 1 then markI i else 0)) 3 ∧ m < N) := by
        refine ⟨hK.setCell _ _ fun h => by have := HB.out.2.2.2.2.2.1; simp at h; omega, ?_, hlt⟩
        have h1 := hB.setCell m (.int .i64 (markI m))
        rw [fI_set] at h1
        rw [fI_congr (f := fun i => if i < m + 1 then markI i else 0) fun i hi => ?_]
        · exact h1
        · by_cases e : i = m
          · subst e; simp
          · by_cases e2 : i < m
            · have : i < m + 1 := by omega
              simp [e, e2, this]
            · have : ¬ i < m + 1 := by omega
              simp [e, e2, this]
      have hw : IntKind.i64.wrap (-5000 - (m : Int)) = -5000 - (m : Int) := by rw [IntKind.wrap_i64]; have := HB.out.2.2.2.2.2.2; omega
      have em : markI m = -5000 - (m : Int) := rfl
      rw [em] at HR
      clear hB hK hm hlt
      go_wp2
      go_roundw
      case rel => exact ⟨m + 1, by have := HR.out.2.2; omega, by go_num, HR.out.1, HR.out.2.1⟩
      case measure => have := HR.out.2.2; simp [intOf]; omega
    · obtain rfl : m = N := by omega
      have HR : Hid (Keeps (fun _ => False) w wr ∧ Blk wr B (fI m (fun i => markI i)) 3) := by
        refine ⟨hK, ?_⟩
        rw [fI_congr (g := fun i => if i < m then markI i else 0) fun i hi => by simp [hi]]
        exact hB
      clear hB hK hm hlt
      go_wp2
      go_loopw [5] (fun i wr => ∃ j : Nat, j ≤ n ∧ i = .int .i64 j ∧ Keeps (fun _ => False) w wr ∧ Blk wr B (fI m (fun i => if i < j then spareI ks i else markI i)) 3) (fun i _ => n - (intOf i).toNat)
      case atStart => exact ⟨0, by omega, rfl, HR.out.1, by simpa using HR.out.2⟩
      case round =>
        obtain ⟨j, hj, rfl, hK, hB⟩ := hrel
        by_cases hlt : j < n
        · obtain ⟨g1, g2, g3, g4, g5, g6, g7⟩ := HB.out
          have hju : j < ks.length := by omega
          rcases g3 with h0 | ⟨b, o, rfl, hcell⟩
          · exact absurd hju (by rw [h0]; simp)
          · have hjz : (j : Int) < n := by omega
            have hjm : (j : Int) < m := by omega
            have cx := Ch.cell_kept (hcell j hju) hK fun h => h
            have cu := hB.cell (fI_get _ (show j < m by omega))
            have fu := hB.frozen j
            obtain ⟨x, hxx⟩ : ∃ x, x = ks[j]'hju := ⟨_, rfl⟩
            rw [← hxx] at cx
            have HR2 : Hid (Keeps (fun _ => False) w (wr.setCell ⟨B, j, none⟩ (.int .i64 (x))) ∧ Blk (wr.setCell ⟨B, j, none⟩ (.int .i64 (x))) B (fI m (fun i => if i < j + 1 then spareI ks i else markI i)) 3 ∧ j < n) := by
              refine ⟨hK.setCell _ _ fun h => by simp at h; omega, ?_, hlt⟩
              have h1 := hB.setCell j (.int .i64 (x))
              rw [fI_set] at h1
              rw [fI_congr (f := fun i => if i < j + 1 then spareI ks i else markI i) fun i hi => ?_]
              · exact h1
              · by_cases e : i = j
                · subst e; simp [spareI, hju, hxx]
                · by_cases e2 : i < j
                  · have : i < j + 1 := by omega
                    simp [e, e2, this]
                  · have : ¬ i < j + 1 := by omega
                    simp [e, e2, this]
            clear hB hK hj hlt hcell hju hxx g1 g2 g4 g5 g6 g7 HR
            go_wp2
            go_roundw
            case rel => exact ⟨j + 1, by have := HR2.out.2.2; omega, by go_num, HR2.out.1, HR2.out.2.1⟩
            case measure => have := HR2.out.2.2; simp [intOf]; omega
        · obtain rfl : j = n := by omega
          have HR2 : Hid (Blk wr B (fI m (spareI ks)) 3 ∧ Keeps (fun _ => False) w wr) := by
            refine ⟨?_, hK⟩
            rw [fI_congr (g := fun i => if i < j then spareI ks i else markI i) fun i hi => ?_]
            · exact hB
            · by_cases e : i < j
              · simp [e]
              · have h1 : ks[i]? = none := by rw [List.getElem?_eq_none_iff]; have := HB.out.2.2.2.1; omega
                simp [e, spareI, h1]
          clear hB hK hj hlt HR
          go_wp2
          go_ret
          exact ⟨rfl, HR2.out⟩

set_option maxHeartbeats 2000000 in
theorem keptI_any (B : Nat) (a : Option Addr) (n c : Nat) (ks : List Int) (w : World) (hB : Blk w B (fI (n + 70) (spareI ks)) 3) (hs : Ch.SegI w a ks) (hn : n = ks.length) (hl : n ≤ 2147483647) :
    Calls Tryz.prog 55 #[.slice (some ⟨B, 0, none⟩) n (n + 70), .slice a n c] w fun e w' => e = .returned (.bool true) ∧ w' = w := by
  obtain ⟨N, hN⟩ : ∃ N, N = n + 70 := ⟨_, rfl⟩
  have hwN : IntKind.i64.wrap ((n : Int) + 70) = (N : Int) := by rw [IntKind.wrap_i64]; omega
  have hN2 : (N : Int) ≤ 9000000000000000000 := by omega
  have hnN : (n : Int) ≤ N := by omega
  have hnz : (n : Int) + 70 = N := by omega
  rw [← hN] at hB ⊢
  have HB : Hid (Blk w B (fI N (spareI ks)) 3 ∧ Ch.SegI w a ks ∧ n = ks.length ∧ N ≤ 2147483717) := ⟨hB, hs, hn, by omega⟩
  clear hB hs hn hN hl
  go_enter Tryz.func55, Tryz.ntmps55
  go_wp2
  go_loopw [6] (fun i wr => ∃ m : Nat, m ≤ N ∧ i = .int .i64 m ∧ wr = w) (fun i _ => N - (intOf i).toNat)
  case atStart => exact ⟨0, by omega, rfl, rfl⟩
  case round =>
    obtain ⟨m, hm, rfl, rfl⟩ := hrel
    by_cases hlt : m < N
    · obtain ⟨g1, g2, g3, g4⟩ := HB.out
      have hmz : (m : Int) < N := by omega
      have cu := g1.cell (fI_get _ hlt)
      have hw : IntKind.i64.wrap (-5000 - (m : Int)) = -5000 - (m : Int) := by rw [IntKind.wrap_i64]; omega
      have em : markI m = -5000 - (m : Int) := rfl
      have HM : Hid (m < N) := hlt
      by_cases hmn : m < n
      · have hmu : m < ks.length := by omega
        rcases g2 with h0 | ⟨b, o, rfl, hcell⟩
        · exact absurd hmu (by rw [h0]; simp)
        · have cx := hcell m hmu
          have e1 : spareI ks m = ks[m]'hmu := by simp [spareI, hmu]
          rw [e1] at cu
          obtain ⟨x, hxx⟩ : ∃ x, x = ks[m]'hmu := ⟨_, rfl⟩
          rw [← hxx] at cu cx
          have hmz2 : (m : Int) < n := by omega
          clear g1 g3 g4 hcell hxx e1 hmu hmn hlt hm
          go_wp2
          go_roundw
          case rel => exact ⟨m + 1, by have := HM.out; omega, by go_num, trivial⟩
          case measure => have := HM.out; simp [intOf]; omega
      · have e1 : spareI ks m = markI m := by
          have h1 : ks[m]? = none := by rw [List.getElem?_eq_none_iff]; omega
          simp [spareI, h1]
        rw [e1] at cu
        have hmz2 : ¬ ((m : Int) < n) := by omega
        clear g1 g2 g3 g4 e1 hmn hlt hm
        rw [em] at cu
        go_wp2
        go_roundw
        case rel => exact ⟨m + 1, by have := HM.out; omega, by go_num, trivial⟩
        case measure => have := HM.out; simp [intOf]; omega
    · obtain rfl : m = N := by omega
      go_wp2
      go_ret
      exact ⟨rfl, rfl⟩

end Go.Proofs.YtipejahmjdamjaaGreatDoor
namespace Go.Proofs.YtipejahmjdamjaaGreatDoor
open Go.RowKit Go.Shelf
set_option linter.unusedVariables false
set_option linter.unusedSimpArgs false
set_option maxRecDepth 20000

set_option maxHeartbeats 4000000 in
theorem spoilI_any (a : Option Addr) (n c : Nat) (vs : List Value) (w : World) (h : w.ownsRow 0 3 1 (.slice a n c) n vs) (hn : n ≤ 2147483647) :
    Calls Tryz.prog 56 #[.slice a n c, .int .i64 (-9)] w fun e w' => e = .returned (.tuple #[]) ∧ Keeps (fun k => some k = (Value.slice a n c).ownBlock) w w' := by
  have HS : Hid (w.ownsRow 0 3 1 (.slice a n c) n vs ∧ n ≤ 2147483647) := ⟨h, hn⟩
  have hnz : (n : Int) ≤ 2147483647 := by omega
  clear h hn
  go_enter Tryz.func56, Tryz.ntmps56
  go_wp2
  go_loopw [4] (fun i wr => ∃ t : Nat, t ≤ n ∧ i = .int .i64 t ∧ (∃ vs, wr.ownsRow 0 3 1 (.slice a n c) n vs) ∧ Keeps (fun k => some k = (Value.slice a n c).ownBlock) w wr) (fun i _ => n - (intOf i).toNat)
  case atStart => exact ⟨0, by omega, rfl, ⟨vs, HS.out.1⟩, Keeps.refl _ _⟩
  case round =>
    obtain ⟨t, ht, rfl, ⟨us, hO⟩, hK⟩ := hrel
    by_cases hlt : t < n
    · have htz : (t : Int) < n := by omega
      obtain ⟨gb, l, ha, hB, hle⟩ := owns_blk hO (by omega)
      have hw1 : IntKind.i64.wrap ((t : Int) * 3) = (t : Int) * 3 := by rw [IntKind.wrap_i64]; omega
      obtain ⟨M, eM⟩ : ∃ M, M = -9 + (t : Int) * 3 := ⟨_, rfl⟩
      have hw2 : IntKind.i64.wrap (-9 + (t : Int) * 3) = M := by rw [IntKind.wrap_i64, eM]; omega
      obtain ⟨x, cv⟩ : ∃ x, wr.cell? ⟨gb, t, none⟩ = some x := ⟨_, hB.cell (List.getElem?_eq_getElem (show t < l.length by omega))⟩
      have fv := hB.frozen t
      subst ha
      have HE : Hid ((∃ vs, (wr.setCell ⟨gb, t, none⟩ (.int .i64 M)).ownsRow 0 3 1 (.slice (some ⟨gb, 0, none⟩) n c) n vs) ∧ Keeps (fun k => some k = (Value.slice (some ⟨gb, 0, none⟩) n c).ownBlock) w (wr.setCell ⟨gb, t, none⟩ (.int .i64 M)) ∧ t < n) :=
        ⟨⟨_, owns_setV hO t (.int .i64 M) hlt⟩, hK.setCell _ _ fun _ => rfl, hlt⟩
      clear hO hK hB hle hlt ht eM
      go_wp2
      go_roundw
      case rel => exact ⟨t + 1, by have := HE.out.2.2; omega, by go_num, HE.out.1, HE.out.2.1⟩
      case measure => have := HE.out.2.2; simp [intOf]; omega
    · have et : t = n := by omega
      have htz : ¬ (t : Int) < n := by omega
      have htb : (t : Int) ≤ 2147483647 := by omega
      have HE : Hid ((∃ vs, wr.ownsRow 0 3 1 (.slice a n c) n vs) ∧ Keeps (fun k => some k = (Value.slice a n c).ownBlock) w wr) := ⟨⟨us, hO⟩, hK⟩
      clear hO hK ht hlt et
      go_wp2
      go_loopw [0, 5] (fun v i wr => ∃ k : Nat, k ≤ 72 ∧ i = .int .i64 k ∧ (∃ vs, wr.ownsRow 0 3 1 v (n + k) vs) ∧ Keeps (fun k => some k = (Value.slice a n c).ownBlock) w wr ∧ ∀ b, v.ownBlock = some b → some b = (Value.slice a n c).ownBlock ∨ w.heap.size ≤ b) (fun _ i _ => 72 - (intOf i).toNat)
      case atStart => exact ⟨0, by omega, rfl, HE.out.1, HE.out.2, fun b hb => .inl hb.symm⟩
      case round =>
        obtain ⟨k, hk, rfl, ⟨us, hO⟩, hK, hb⟩ := hrel
        by_cases hlt : k < 72
        · have hkz : (k : Int) < 72 := by omega
          obtain ⟨av, cv, rfl, -, -⟩ := own_slice hO
          obtain ⟨M, eM⟩ : ∃ M, M = 9 - (k : Int) := ⟨_, rfl⟩
          have hw2 : IntKind.i64.wrap (9 - (k : Int)) = M := by rw [IntKind.wrap_i64, eM]; omega
          obtain ⟨v', W', happ, hown', hgr⟩ := app_one elemI (.int .i64 M) rfl av (n + k) cv us hO (by have := HS.out.2; omega)
          obtain ⟨nk, hnk⟩ : ∃ nk, nk = n + k := ⟨_, rfl⟩
          rw [← hnk] at happ ⊢
          have HAP : Hid (∀ ty, _) := happ
          have HF : Hid ((∃ vs, W'.ownsRow 0 3 1 v' (n + (k + 1)) vs) ∧ Keeps (fun k => some k = (Value.slice a n c).ownBlock) w W' ∧ (∀ b, v'.ownBlock = some b → some b = (Value.slice a n c).ownBlock ∨ w.heap.size ≤ b) ∧ k < 72) := by
            have hsz := hK.size
            rcases hgr with ⟨e1, e2⟩ | ⟨⟨b, e1, e2⟩, e3⟩
            · refine ⟨⟨_, hown'⟩, hK.trans e2 fun b hb' he => ?_, fun b hb' => ?_, hlt⟩
              · rcases hb b he.symm with h | h
                · exact h
                · omega
              · rw [e1] at hb'
                exact hb b (by rw [← hb']; exact own_any _ _ _ _ _)
            · refine ⟨⟨_, hown'⟩, hK.trans e3 fun _ _ h => h.elim, fun b2 hb' => ?_, hlt⟩
              rw [e1] at hb'
              injection hb' with hb'
              right
              omega
          clear hO hK hb hlt hk happ hown' hgr eM hnk
          go_wp2_with (at_builtin; go_must (refine wpList_append_run rfl (.tmp 23) (.tmp 28) 99 99 rfl (.slice av nk cv) (.slice (some ⟨wr.heap.size, 0, none⟩) 1 1) v' W' rfl rfl HAP.out ?_; refine Hid.out ?_))
          unfold Hid
          clear HAP
          go_wp2
          go_roundw
          case rel => exact ⟨k + 1, by have := HF.out.2.2.2; omega, by go_num, HF.out.1, HF.out.2.1, HF.out.2.2.1⟩
          case measure => have := HF.out.2.2.2; simp [intOf]; omega
        · have et : k = 72 := by omega
          have hkz : ¬ (k : Int) < 72 := by omega
          have HF : Hid (Keeps (fun k => some k = (Value.slice a n c).ownBlock) w wr) := hK
          clear hO hK hb hlt hk et
          go_wp2
          go_end0
          exact ⟨rfl, HF.out⟩

end Go.Proofs.YtipejahmjdamjaaGreatDoor
