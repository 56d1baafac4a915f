import Derived.Test.YtekijhhpldnmnaaTf
namespace Go.Proofs.Ytekijhhpldnmnaa
open Go.RowKit
set_option linter.unusedVariables false
set_option linter.unusedSimpArgs false

set_option maxRecDepth 20000 in
set_option maxHeartbeats 4000000 in
theorem port_in (D M c n d p : Nat) (xs : List UInt32) (w : World) (hB : Blk w D (wvs xs) 52) (hM : M = xs.length) (hm : M ≤ 256) (hf : fitE false n d = 0) (ho : p + rsz 3 n d ≤ M) :
    Calls Try.prog 58 #[.slice (some ⟨D, 0, none⟩) M c, .int .i64 p, .int .i64 n, .int .i64 d] w fun e w' => RdP w (lkE false xs p 3 n d) (rdA xs p 3 n d) e w' := by
  obtain ⟨_, f1', f2', f3', f4'⟩ := fit_ok hf
  have hn1 : n ≤ 16 := by omega
  have hd1 : d ≤ 8 := by omega
  have hd0 : 1 ≤ d := by omega
  obtain ⟨W1, hW1, hK1, hB1, hs1⟩ := zrow3 w
  have hb := Nat.mul_le_mul hd1 (show 1 + n ≤ 17 by omega)
  have hr := rsz_nat 3 n d
  have hb0 := Nat.mul_le_mul hd0 (show 1 + 0 ≤ 1 + n by omega)
  have HS : Hid (Calls _ _ _ _ _) := portWords_any n d W1 hn1 hd1
  have hfit := rfits_any (some ⟨D, 0, none⟩) M c p (rsz 3 n d : Nat) W1 hm ⟨by omega, by omega⟩
  rw [decide_eq_true (by omega)] at hfit
  have HF : Hid (Calls _ _ _ _ _) := hfit
  have eL := lkE_in (h := 3) hf (show p + rsz 3 n d ≤ xs.length by omega)
  have eF : fstW 3 (win xs p (rsz 3 n d)) = (wd xs p).toNat := by
    show (wd (win xs p (rsz 3 n d)) 0).toNat = _
    rw [wd_win (by omega), Nat.add_zero]
  have eC : cntW 3 (win xs p (rsz 3 n d)) = (wd xs (p + 1)).toNat := by
    show (wd (win xs p (rsz 3 n d)) 1).toNat = _
    rw [wd_win (by omega)]
  have eX : (rdA xs p 3 n d).lost = wd xs (p + 2) := by
    show wd (win xs p (rsz 3 n d)) 2 = _
    rw [wd_win (by omega)]
  obtain ⟨F, hF⟩ : ∃ F, F = (wd xs p).toNat := ⟨_, rfl⟩
  have hF32 : F < 4294967296 := by rw [hF]; exact (wd xs p).toNat_lt
  rw [← hF] at eF
  obtain ⟨X, hX⟩ : ∃ X, X = (wd xs (p + 2)).toNat := ⟨_, rfl⟩
  obtain ⟨C, hC⟩ : ∃ C, C = (wd xs (p + 1)).toNat := ⟨_, rfl⟩
  have hC32 : C < 4294967296 := by rw [hC]; exact (wd xs (p + 1)).toNat_lt
  rw [← hC] at eC
  obtain ⟨P, hP⟩ : ∃ P : Nat → List UInt32, P = fun i => win xs (p + 3 + pos d F i * (1 + n)) (1 + n) := ⟨_, rfl⟩
  have HRR : Hid (F < d → C ≤ d → (C = 0 → F = 0) → lkE false xs p 3 n d = (if rowB d C P = true then 0 else 201) ∧ (rdA xs p 3 n d).ms = (List.range C).map fun i => msgO (P i)) := fun a1 a2 a3 => by
    have q := right_row (xs := xs) (p := p) (h := 3) (n := n) (d := d) (by omega) eF eC a1 a2 a3
    rw [eL, q.1, hP]
    exact ⟨rfl, q.2⟩
  have HRN : Hid ((¬ F < d ∨ ¬ C ≤ d ∨ (C = 0 ∧ ¬ F = 0)) → lkE false xs p 3 n d = 201) := fun a => by
    rw [eL, right_no eF eC a]; rfl
  have HRF : Hid ((rdA xs p 3 n d).f = F ∧ (rdA xs p 3 n d).lost.toNat = X) := ⟨by rw [← eF]; rfl, by rw [eX, hX]⟩
  have HRC : Hid (∀ wr, Keeps (fun _ => False) w wr → F < d → C ≤ d → Calls Try.prog 67 #[.slice (some ⟨D, 0, none⟩) M c, .int .i64 ((p : Int) + 3), .int .i64 n, .int .i64 d, .int .i64 F, .int .i64 C] wr fun e w' => RowP wr (rowB d C P) F ((List.range C).map fun i => msgO (P i)) e w') := fun wr hk a1 a2 => by
    exact row_any D M c (p + 3) n d F C xs P wr hP (hB.kept hk fun e => e) hM hm ⟨hd0, hd1⟩ hn1 a1 (by omega) a2
  have HCL : Hid (∀ wr, Keeps (fun _ => False) w wr → wr.cell? ⟨D, p, none⟩ = some (.int .u32 (F : Nat)) ∧ wr.cell? ⟨D, p + 1, none⟩ = some (.int .u32 (C : Nat)) ∧ wr.cell? ⟨D, p + 2, none⟩ = some (.int .u32 (X : Nat))) := fun wr hk => by
    have hBw := hB.kept hk fun e => e
    rw [hF, hC, hX]; exact ⟨hBw.cell (wvs_wd (by omega)), hBw.cell (wvs_wd (by omega)), hBw.cell (wvs_wd (by omega))⟩
  obtain ⟨E, hE⟩ : ∃ E, E = lkE false xs p 3 n d := ⟨_, rfl⟩
  obtain ⟨r, hrr⟩ : ∃ r, r = rdA xs p 3 n d := ⟨_, rfl⟩
  rw [← hE] at HRR HRN ⊢
  rw [← hrr] at HRR HRF ⊢
  obtain ⟨R, hR⟩ : ∃ R : Int, R = (rsz 3 n d : Nat) := ⟨_, rfl⟩
  rw [← hR] at HS HF
  have HW : Hid (W1 = w.alloc (.cells zc3 92) ∧ Keeps (fun _ => False) w W1 ∧ Blk W1 w.heap.size zc3.toList 92) := ⟨hW1, hK1, hB1⟩
  obtain ⟨O, hO⟩ : ∃ O, O = w.heap.size := ⟨_, rfl⟩
  rw [← hO] at hB1
  have HO : Hid (O = w.heap.size ∧ Blk W1 O zc3.toList 92) := ⟨hO, hB1⟩
  obtain ⟨⟨c0, c1, c2⟩, f0, f1, f2⟩ := z3_facts hB1
  have y1 : (p : Int) + 3 ≤ (M : Int) := by omega
  have y2 : (M : Int) ≤ 256 := by omega
  have y3 : (d : Int) ≤ 8 := by omega
  have y4 : (n : Int) ≤ 16 := by omega
  have y5 : (p : Int) < (M : Int) := by omega
  obtain ⟨g0, g1, g2⟩ := HCL.out W1 hK1
  have y6 : (p : Int) + 1 < (M : Int) := by omega
  have y7 : (p : Int) + 2 < (M : Int) := by omega
  clear hB hM hm hf ho hn1 hd1 hW1 hK1 hB1 hs1 hb hr hb0 hfit eL eF eC hP hE hrr hR hO hC hF hX eX f1' f2' f3' f4'
  by_cases hbF : d ≤ F
  · have hb1 : (d : Int) ≤ (F : Int) := by omega
    have HE : Hid (E = 201) := HRN.out (.inl (by omega))
    go_enter Try.func58, Try.ntmps58
    go_wp2_with fail
    rw [← HW.out.1, ← HO.out.1]
    refine HS.out.mono ?_
    rintro e w1 ⟨rfl, rfl⟩
    go_wp2_with fail
    refine HF.out.mono ?_
    rintro e w1 ⟨rfl, rfl⟩
    clear HS HF
    go_wp2
    obtain ⟨W6, hW6, hB6, hk6, hm6⟩ := ret92 HW.out.2.1 HO.out.2 rfl (by rw [HO.out.1]; exact Nat.le_refl _) (MsR.nil 0 _) (.int .i64 0) (.slice none 0 0) (.int .u32 0)
    rw [← hW6]
    have d0 := hB6.cell (i := 0) rfl
    have d1 := hB6.cell (i := 1) rfl
    have d2 := hB6.cell (i := 2) rfl
    refine bodyPost_ret (by simp [results, Try.results58, go_sem, d0, d1, d2]; try rfl) rfl ?_
    exact .inr ⟨by rw [HE.out]; decide, by rw [HE.out], hk6⟩
  by_cases hbig : d < C
  · have hb0 : ¬ (d : Int) ≤ (F : Int) := by omega
    have hb1 : (d : Int) < (C : Int) := by omega
    have HE : Hid (E = 201) := HRN.out (.inr (.inl (by omega)))
    go_enter Try.func58, Try.ntmps58
    go_wp2_with fail
    rw [← HW.out.1, ← HO.out.1]
    refine HS.out.mono ?_
    rintro e w1 ⟨rfl, rfl⟩
    go_wp2_with fail
    refine HF.out.mono ?_
    rintro e w1 ⟨rfl, rfl⟩
    clear HS HF
    go_wp2
    obtain ⟨W6, hW6, hB6, hk6, hm6⟩ := ret92 HW.out.2.1 HO.out.2 rfl (by rw [HO.out.1]; exact Nat.le_refl _) (MsR.nil 0 _) (.int .i64 0) (.slice none 0 0) (.int .u32 0)
    rw [← hW6]
    have d0 := hB6.cell (i := 0) rfl
    have d1 := hB6.cell (i := 1) rfl
    have d2 := hB6.cell (i := 2) rfl
    refine bodyPost_ret (by simp [results, Try.results58, go_sem, d0, d1, d2]; try rfl) rfl ?_
    exact .inr ⟨by rw [HE.out]; decide, by rw [HE.out], hk6⟩
  by_cases hz : C = 0 ∧ ¬ F = 0
  · obtain ⟨rfl, hz2⟩ := hz
    have hb0 : ¬ (d : Int) ≤ (F : Int) := by omega
    have hz3 : ((F : Int) != 0) = true := bne_iff_ne.2 (by omega)
    have HE : Hid (E = 201) := HRN.out (.inr (.inr ⟨rfl, hz2⟩))
    go_enter Try.func58, Try.ntmps58
    go_wp2_with fail
    rw [← HW.out.1, ← HO.out.1]
    refine HS.out.mono ?_
    rintro e w1 ⟨rfl, rfl⟩
    go_wp2_with fail
    refine HF.out.mono ?_
    rintro e w1 ⟨rfl, rfl⟩
    clear HS HF
    go_wp2
    obtain ⟨W6, hW6, hB6, hk6, hm6⟩ := ret92 HW.out.2.1 HO.out.2 rfl (by rw [HO.out.1]; exact Nat.le_refl _) (MsR.nil 0 _) (.int .i64 0) (.slice none 0 0) (.int .u32 0)
    rw [← hW6]
    have d0 := hB6.cell (i := 0) rfl
    have d1 := hB6.cell (i := 1) rfl
    have d2 := hB6.cell (i := 2) rfl
    refine bodyPost_ret (by simp [results, Try.results58, go_sem, d0, d1, d2]; try rfl) rfl ?_
    exact .inr ⟨by rw [HE.out]; decide, by rw [HE.out], hk6⟩
  have hb0 : ¬ (d : Int) ≤ (F : Int) := by omega
  have hb1 : ¬ (d : Int) < (C : Int) := by omega
  have HCd : Hid (C ≤ d) := (by omega : C ≤ d)
  have HFd : Hid (F < d ∧ (C = 0 → F = 0)) := ⟨by omega, fun _ => by omega⟩
  by_cases hC0 : C = 0
  · have hF0 : F = 0 := by omega
    subst hF0
    subst hC0
    have e00 : ((0 : Nat) : Int) = 0 := rfl
    rw [e00] at g0 g1
    have HRC0 : Hid (∀ wr, Keeps (fun _ => False) w wr → Calls Try.prog 67 #[.slice (some ⟨D, 0, none⟩) M c, .int .i64 ((p : Int) + 3), .int .i64 n, .int .i64 d, .int .i64 0, .int .i64 0] wr fun e w' => RowP wr (rowB d 0 P) 0 ((List.range 0).map fun i => msgO (P i)) e w') := fun wr hk => HRC.out wr hk HFd.out.1 HCd.out
    clear HRC e00 hb0 hb1 hz
    go_enter Try.func58, Try.ntmps58
    go_wp2_with fail
    rw [← HW.out.1, ← HO.out.1]
    refine HS.out.mono ?_
    rintro e w1 ⟨rfl, rfl⟩
    go_wp2_with fail
    refine HF.out.mono ?_
    rintro e w1 ⟨rfl, rfl⟩
    clear HS HF
    go_wp2_with fail
    refine (HRC0.out _ HW.out.2.1).mono ?_
    intro e w2 hpp
    obtain ⟨hE1, hMs⟩ := HRR.out HFd.out.1 HCd.out HFd.out.2
    rcases hpp with ⟨hg, v, rfl, hms, hk⟩ | ⟨hg, rfl, hk⟩
    · rw [hg, if_pos rfl] at hE1
      rw [← hMs] at hms
      obtain ⟨a, cc, hv, hcc, hlc⟩ := hms.form
      obtain ⟨LL, hLL⟩ : ∃ LL, LL = r.ms.length := ⟨_, rfl⟩
      rw [← hLL] at hv hlc
      subst hv
      have hk3 : Keeps (fun _ => False) w2 (w2.alloc (.cells #[.int .i64 0, .slice a LL cc, .int .u32 0] 92)) := (Keeps.refl _ w2).alloc _
      have hT3 : Blk (w2.alloc (.cells #[.int .i64 0, .slice a LL cc, .int .u32 0] 92)) w2.heap.size [.int .i64 0, .slice a LL cc, .int .u32 0] 92 := Blk.new w2 _ 92
      have hO3 := (HO.out.2.kept hk fun e => e).kept hk3 fun e => e
      have hm3 := (hms.kept hk3 fun _ _ _ e => e).mono HW.out.2.1.size
      have hk4 : Keeps (fun _ => False) w2 (w2.alloc (.cells #[.int .i64 0, .slice a LL cc, .int .u32 X] 92)) := (Keeps.refl _ w2).alloc _
      have hT4 : Blk (w2.alloc (.cells #[.int .i64 0, .slice a LL cc, .int .u32 X] 92)) w2.heap.size [.int .i64 0, .slice a LL cc, .int .u32 X] 92 := Blk.new w2 _ 92
      have hO4 := (HO.out.2.kept hk fun e => e).kept hk4 fun e => e
      have hm4 := (hms.kept hk4 fun _ _ _ e => e).mono HW.out.2.1.size
      obtain ⟨⟨o0, o1, o2⟩, q0, q1, q2⟩ := z3_facts hO4
      have t0 := hT4.cell (i := 0) rfl
      have t1 := hT4.cell (i := 1) rfl
      have t2 := hT4.cell (i := 2) rfl
      have e2 := (HCL.out (w2.alloc (.cells #[.int .i64 0, .slice a LL cc, .int .u32 0] 92)) ((HW.out.2.1.trans hk fun _ _ e => e).trans hk3 fun _ _ e => e)).2.2
      have HX3 : Hid (True ∧ True ∧ Keeps (fun _ => False) w (w2.alloc (.cells #[.int .i64 0, .slice a LL cc, .int .u32 X] 92)) ∧ Blk (w2.alloc (.cells #[.int .i64 0, .slice a LL cc, .int .u32 X] 92)) O zc3.toList 92 ∧ MsR w.heap.size (w2.alloc (.cells #[.int .i64 0, .slice a LL cc, .int .u32 X] 92)) (.slice a LL cc) r.ms ∧ E = 0) := ⟨trivial, trivial, (HW.out.2.1.trans hk fun _ _ e => e).trans hk4 fun _ _ e => e, hO4, hm4, hE1⟩
      clear hg hms hk hMs hLL hk3 hT3 hO3 hm3 hE1 HRC0 hk4 hT4 hO4 hm4
      go_wp2
      obtain ⟨W6, hW6, hB6, hk6, hm6⟩ := ret92 HX3.out.2.2.1 HX3.out.2.2.2.1 rfl (by rw [HO.out.1]; exact Nat.le_refl _) HX3.out.2.2.2.2.1 (.int .i64 0) (.slice a LL cc) (.int .u32 X)
      rw [← hW6]
      have d0 := hB6.cell (i := 0) rfl
      have d1 := hB6.cell (i := 1) rfl
      have d2 := hB6.cell (i := 2) rfl
      refine bodyPost_ret (by simp [results, Try.results58, go_sem, d0, d1, d2]; try rfl) rfl ?_
      refine .inl ⟨HX3.out.2.2.2.2.2, .slice a LL cc, ?_, hm6, hk6⟩
      rw [HRF.out.1, HRF.out.2] <;> rfl
    · rw [hg, if_neg (by decide)] at hE1
      have hk3 : Keeps (fun _ => False) w2 (w2.alloc (.cells zc3 92)) := (Keeps.refl _ w2).alloc _
      have hO3 := (HO.out.2.kept hk fun e => e).kept hk3 fun e => e
      obtain ⟨⟨o0, o1, o2⟩, q0, q1, q2⟩ := z3_facts hO3
      have HX3 : Hid (True ∧ True ∧ Keeps (fun _ => False) w (w2.alloc (.cells zc3 92)) ∧ Blk (w2.alloc (.cells zc3 92)) O zc3.toList 92 ∧ E = 201) := ⟨trivial, trivial, (HW.out.2.1.trans hk fun _ _ e => e).trans hk3 fun _ _ e => e, hO3, hE1⟩
      clear hg hk hMs hk3 hO3 hE1 HRC0
      go_wp2
      obtain ⟨W6, hW6, hB6, hk6, hm6⟩ := ret92 HX3.out.2.2.1 HX3.out.2.2.2.1 rfl (by rw [HO.out.1]; exact Nat.le_refl _) (MsR.nil 0 _) (.int .i64 0) (.slice none 0 0) (.int .u32 0)
      rw [← hW6]
      have d0 := hB6.cell (i := 0) rfl
      have d1 := hB6.cell (i := 1) rfl
      have d2 := hB6.cell (i := 2) rfl
      refine bodyPost_ret (by simp [results, Try.results58, go_sem, d0, d1, d2]; try rfl) rfl ?_
      exact .inr ⟨by rw [HX3.out.2.2.2.2]; decide, by rw [HX3.out.2.2.2.2], hk6⟩
  have hC1 : ¬ (C : Int) = 0 := by omega
  clear hz
  go_enter Try.func58, Try.ntmps58
  go_wp2_with fail
  rw [← HW.out.1, ← HO.out.1]
  refine HS.out.mono ?_
  rintro e w1 ⟨rfl, rfl⟩
  go_wp2_with fail
  refine HF.out.mono ?_
  rintro e w1 ⟨rfl, rfl⟩
  clear HS HF
  go_wp2_with fail
  refine (HRC.out _ HW.out.2.1 HFd.out.1 HCd.out).mono ?_
  intro e w2 hpp
  obtain ⟨hE1, hMs⟩ := HRR.out HFd.out.1 HCd.out HFd.out.2
  rcases hpp with ⟨hg, v, rfl, hms, hk⟩ | ⟨hg, rfl, hk⟩
  · rw [hg, if_pos rfl] at hE1
    rw [← hMs] at hms
    obtain ⟨a, cc, hv, hcc, hlc⟩ := hms.form
    obtain ⟨LL, hLL⟩ : ∃ LL, LL = r.ms.length := ⟨_, rfl⟩
    rw [← hLL] at hv hlc
    subst hv
    have hk3 : Keeps (fun _ => False) w2 (w2.alloc (.cells #[.int .i64 F, .slice a LL cc, .int .u32 0] 92)) := (Keeps.refl _ w2).alloc _
    have hT3 : Blk (w2.alloc (.cells #[.int .i64 F, .slice a LL cc, .int .u32 0] 92)) w2.heap.size [.int .i64 F, .slice a LL cc, .int .u32 0] 92 := Blk.new w2 _ 92
    have hO3 := (HO.out.2.kept hk fun e => e).kept hk3 fun e => e
    have hm3 := (hms.kept hk3 fun _ _ _ e => e).mono HW.out.2.1.size
    have hk4 : Keeps (fun _ => False) w2 (w2.alloc (.cells #[.int .i64 F, .slice a LL cc, .int .u32 X] 92)) := (Keeps.refl _ w2).alloc _
    have hT4 : Blk (w2.alloc (.cells #[.int .i64 F, .slice a LL cc, .int .u32 X] 92)) w2.heap.size [.int .i64 F, .slice a LL cc, .int .u32 X] 92 := Blk.new w2 _ 92
    have hO4 := (HO.out.2.kept hk fun e => e).kept hk4 fun e => e
    have hm4 := (hms.kept hk4 fun _ _ _ e => e).mono HW.out.2.1.size
    obtain ⟨⟨o0, o1, o2⟩, q0, q1, q2⟩ := z3_facts hO4
    have t0 := hT4.cell (i := 0) rfl
    have t1 := hT4.cell (i := 1) rfl
    have t2 := hT4.cell (i := 2) rfl
    have e2 := (HCL.out (w2.alloc (.cells #[.int .i64 F, .slice a LL cc, .int .u32 0] 92)) ((HW.out.2.1.trans hk fun _ _ e => e).trans hk3 fun _ _ e => e)).2.2
    have HX3 : Hid (True ∧ True ∧ Keeps (fun _ => False) w (w2.alloc (.cells #[.int .i64 F, .slice a LL cc, .int .u32 X] 92)) ∧ Blk (w2.alloc (.cells #[.int .i64 F, .slice a LL cc, .int .u32 X] 92)) O zc3.toList 92 ∧ MsR w.heap.size (w2.alloc (.cells #[.int .i64 F, .slice a LL cc, .int .u32 X] 92)) (.slice a LL cc) r.ms ∧ E = 0) := ⟨trivial, trivial, (HW.out.2.1.trans hk fun _ _ e => e).trans hk4 fun _ _ e => e, hO4, hm4, hE1⟩
    clear hg hms hk hMs hLL hk3 hT3 hO3 hm3 hE1 HRC hk4 hT4 hO4 hm4
    go_wp2
    obtain ⟨W6, hW6, hB6, hk6, hm6⟩ := ret92 HX3.out.2.2.1 HX3.out.2.2.2.1 rfl (by rw [HO.out.1]; exact Nat.le_refl _) HX3.out.2.2.2.2.1 (.int .i64 F) (.slice a LL cc) (.int .u32 X)
    rw [← hW6]
    have d0 := hB6.cell (i := 0) rfl
    have d1 := hB6.cell (i := 1) rfl
    have d2 := hB6.cell (i := 2) rfl
    refine bodyPost_ret (by simp [results, Try.results58, go_sem, d0, d1, d2]; try rfl) rfl ?_
    refine .inl ⟨HX3.out.2.2.2.2.2, .slice a LL cc, ?_, hm6, hk6⟩
    rw [HRF.out.1, HRF.out.2] <;> rfl
  · rw [hg, if_neg (by decide)] at hE1
    have hk3 : Keeps (fun _ => False) w2 (w2.alloc (.cells zc3 92)) := (Keeps.refl _ w2).alloc _
    have hO3 := (HO.out.2.kept hk fun e => e).kept hk3 fun e => e
    obtain ⟨⟨o0, o1, o2⟩, q0, q1, q2⟩ := z3_facts hO3
    have HX3 : Hid (True ∧ True ∧ Keeps (fun _ => False) w (w2.alloc (.cells zc3 92)) ∧ Blk (w2.alloc (.cells zc3 92)) O zc3.toList 92 ∧ E = 201) := ⟨trivial, trivial, (HW.out.2.1.trans hk fun _ _ e => e).trans hk3 fun _ _ e => e, hO3, hE1⟩
    clear hg hk hMs hk3 hO3 hE1 HRC
    go_wp2
    obtain ⟨W6, hW6, hB6, hk6, hm6⟩ := ret92 HX3.out.2.2.1 HX3.out.2.2.2.1 rfl (by rw [HO.out.1]; exact Nat.le_refl _) (MsR.nil 0 _) (.int .i64 0) (.slice none 0 0) (.int .u32 0)
    rw [← hW6]
    have d0 := hB6.cell (i := 0) rfl
    have d1 := hB6.cell (i := 1) rfl
    have d2 := hB6.cell (i := 2) rfl
    refine bodyPost_ret (by simp [results, Try.results58, go_sem, d0, d1, d2]; try rfl) rfl ?_
    exact .inr ⟨by rw [HX3.out.2.2.2.2]; decide, by rw [HX3.out.2.2.2.2], hk6⟩

end Go.Proofs.Ytekijhhpldnmnaa
