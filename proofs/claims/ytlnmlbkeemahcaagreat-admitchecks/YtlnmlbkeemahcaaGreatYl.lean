import Derived.Test.YtlnmlbkeemahcaaGreatYj
namespace Go.Proofs.YtlnmlbkeemahcaaGreat
open Go.RowKit
set_option linter.unusedVariables false
set_option maxRecDepth 6000
set_option linter.unusedSimpArgs false
set_option maxHeartbeats 4000000 in
theorem dneed_of (hof : ∀ (x : Cfg) (w : World) (N : Nat), x.In w N → N ≤ w.heap.size → Calls Tryz.prog 56 #[x.v] w (OfP x w)) (x : Cfg) (w : World) (N : Nat) (hi : x.In w N) (hN : N ≤ w.heap.size) : Calls Tryz.prog 33 #[x.v] w (NeedP x w) := by
 have HO1 := One.mk' hi hN
 obtain ⟨W, hW⟩ : ∃ W, W = x.laid w := ⟨_, rfl⟩
 obtain ⟨C, hC⟩ : ∃ C, C = w.heap.size := ⟨_, rfl⟩
 rw [← hW, ← hC] at HO1
 have HO : Hid (One w x C N W) := HO1
 have HC : Hid (Calls Tryz.prog 56 #[x.v] W (OfP x W)) := hof x W N HO1.cin HO1.nn
 obtain ⟨q0, q1, q2, q3, q4, q5, q6⟩ := HO1.cells
 unfold Cfg.laid at hW
 clear hi hN HO1 hof
 go_enter Tryz.func33, Tryz.ntmps33
 go_upto_region 1 with fail
 rw [← hW, ← hC]
 clear hW hC
 go_wp2_with fail
 refine HC.out.mono ?_
 rintro e w1 ⟨hK, h | ⟨hm, b1, b2, F, G, T, D, rfl, _⟩⟩
 ·
  obtain ⟨hm, rfl⟩ := h
  have HO2 : Hid (One w x C N w1) := HO.out.kept hK
  have HM : Hid (x.mayB = false) := hm
  clear hK hm HC q0 q1 q2 q3 q4 q5 q6
  go_wp2
  go_ret2
  exact ⟨HO2.out.keeps.trans ((Keeps.refl (fun _ => False) _).alloc _) fun _ _ h => h, .inl ⟨HM.out, rfl⟩⟩
 ·
  have HO2 : Hid (One w x C N w1) := HO.out.kept hK
  have HM : Hid (x.mayB = true) := hm
  have hb := Cfg.endW_bd hm
  change x.kernel ≤ x.endW ∧ _ at hb
  rw [show rtAt x (rtB x (16 * x.kernel)) x.ps.length / 16 = x.endW from rfl]
  obtain ⟨EN, hEN⟩ : ∃ EN, x.endW = EN := ⟨_, rfl⟩
  have HEN : Hid (x.endW = EN) := hEN
  rw [hEN] at hb ⊢
  clear hEN
  obtain ⟨W2, hW2⟩ : ∃ W2, W2 = w1.alloc (.cells #[.int .i64 (16 * x.kernel), .slice (some ⟨b1, 0, none⟩) x.ps.length x.ps.length, .slice (some ⟨b2, 0, none⟩) x.hs.length x.hs.length, .int .i64 EN] 92) := ⟨_, rfl⟩
  obtain ⟨Q, hQ⟩ : ∃ Q, Q = w1.heap.size := ⟨_, rfl⟩
  have hB : Blk W2 Q [.int .i64 (16 * x.kernel), .slice (some ⟨b1, 0, none⟩) x.ps.length x.ps.length, .slice (some ⟨b2, 0, none⟩) x.hs.length x.hs.length, .int .i64 EN] 92 := by rw [hW2, hQ]; exact Blk.new _ _ _
  have d3 := hB.cell (i := 3) rfl
  have HO3 : Hid (One w x C N W2) := by rw [hW2]; exact HO2.out.kept ((Keeps.refl _ _).alloc _)
  have k2 := HO3.out.cfg.cell (i := 2) rfl
  have q9 : IntKind.i64.wrap (EN - x.kernel) = EN - x.kernel := by rw [IntKind.wrap_i64]; omega
  clear hK hm HC q0 q1 q2 q3 q4 q5 q6 hB
  go_upto_region 2 with fail
  rw [← hW2, ← hQ]
  clear hW2 hQ
  go_wp2
  go_ret2
  exact ⟨HO3.out.keeps, .inr ⟨HM.out, by rw [HEN.out]; rfl⟩⟩
theorem meets_comm (r o : Rn) : r.meets o = o.meets r := by
 unfold Rn.meets
 rw [Bool.and_comm]
set_option maxHeartbeats 4000000 in
theorem darea_of (hof : ∀ (x : Cfg) (w : World) (N : Nat), x.In w N → N ≤ w.heap.size → Calls Tryz.prog 56 #[x.v] w (OfP x w)) (x : Cfg) (w : World) (N : Nat) (hi : x.In w N) (hN : N ≤ w.heap.size) (hf : 1 ≤ x.frames ∧ x.frames ≤ 1024) (hp : x.ps.length ≤ 8) (hr : ∀ P ∈ x.ps, P.rs.length ≤ 8 ∧ ∀ s ∈ P.rs, s.okB x.frames = true) :
  Calls Tryz.prog 21 #[x.v] w (BoP x.kerB w) := by
 obtain ⟨V, hV⟩ : ∃ V, x.kerB = V := ⟨_, rfl⟩
 rw [hV]
 obtain ⟨W, hW⟩ : ∃ W, W = x.laid w := ⟨_, rfl⟩
 obtain ⟨C, hC⟩ : ∃ C, C = w.heap.size := ⟨_, rfl⟩
 have HO : Hid (One w x C N W) := by rw [hW, hC]; exact One.mk' hi hN
 obtain ⟨FR, hFR⟩ : ∃ n, x.frames = n := ⟨_, rfl⟩
 obtain ⟨KN, hKN⟩ : ∃ n, x.kernel = n := ⟨_, rfl⟩
 obtain ⟨RM, hRM⟩ : ∃ n, x.room = n := ⟨_, rfl⟩
 obtain ⟨L, hL⟩ : ∃ L, x.ps.length = L := ⟨_, rfl⟩
 obtain ⟨pa, hpa⟩ : ∃ pa, pa = x.pa := ⟨_, rfl⟩
 have hkI : I64 KN ∧ I64 RM := by
  have := hi.ns
  rw [← hKN, ← hRM]
  exact ⟨this _ (by simp [Cfg.ns]), this _ (by simp [Cfg.ns])⟩
 rw [hFR] at hf
 have HX : Hid (x.kerB = V ∧ x.frames = FR ∧ x.kernel = KN ∧ x.room = RM ∧ x.ps.length = L ∧ pa = x.pa ∧ (∀ P ∈ x.ps, P.rs.length ≤ 8 ∧ ∀ s ∈ P.rs, s.okB x.frames = true)) := ⟨hV, hFR, hKN, hRM, hL, hpa, hr⟩
 have HKV : Hid (V = (inR KN 0 (FR - 1) && (inR RM 1 (FR - KN) && (!x.hitB && x.fitB)))) := by
  show V = _
  rw [← hV]
  unfold Cfg.kerB
  rw [hFR, hKN, hRM]
 have HOF : Hid (∀ (x : Cfg) (w : World) (N : Nat), x.In w N → N ≤ w.heap.size → Calls Tryz.prog 56 #[x.v] w (OfP x w)) := hof
 have HIn : Hid (∀ n a b w, Calls Tryz.prog 26 #[.int .i64 n, .int .i64 a, .int .i64 b] w fun e w' => e = .returned (.bool (inR n a b)) ∧ w' = w) := rin_any
 have hpc1 : (L : Int) ≤ x.pc := by have := hi.plen; omega
 have hpc2 : (x.pc : Int) ≤ 9223372036854775807 := by have := hi.plen; unfold maxLen at this; omega
 have hL8 : (L : Int) ≤ 8 := by omega
 obtain ⟨q0, q1, q2, q3, q4, q5, q6⟩ := HO.out.cells
 rw [hFR] at q0
 rw [hKN] at q2
 rw [hRM] at q3
 have w1 : IntKind.i64.wrap (FR - 1) = FR - 1 := by rw [IntKind.wrap_i64]; omega
 clear hV hi hN hFR hKN hRM hL hpa hr hof hp q1 q4 q5 q6
 unfold Cfg.laid at hW
 unfold I64 at hkI
 go_enter Tryz.func21, Tryz.ntmps21
 go_upto_region 1 with fail
 rw [← hW, ← hC]
 clear hW hC
 go_wp2_with fail
 refine (HIn.out KN 0 (FR - 1) W).mono ?_
 rintro e w2 ⟨rfl, rfl⟩
 cases b1 : inR KN 0 (FR - 1) with
 | false =>
  have HF : Hid (V = false) := by show V = false; rw [HKV.out, b1]; rfl
  clear b1
  go_wp2
  go_ret
  exact ⟨by rw [HF.out]; rfl, HO.out.keeps⟩
 | true =>
 have H1 : Hid (inR KN 0 (FR - 1) = true) := b1
 have hk1 := inR_iff.1 b1
 have w3 : IntKind.i64.wrap (FR - KN) = FR - KN := by rw [IntKind.wrap_i64]; omega
 clear b1
 go_wp2_with fail
 refine (HIn.out RM 1 (FR - KN) w2).mono ?_
 rintro e w4 ⟨rfl, rfl⟩
 cases b2 : inR RM 1 (FR - KN) with
 | false =>
  have HF : Hid (V = false) := by show V = false; rw [HKV.out, H1.out, b2]; rfl
  clear b2
  go_wp2
  go_ret
  exact ⟨by rw [HF.out]; rfl, HO.out.keeps⟩
 | true =>
 have HV2 : Hid (V = (!x.hitB && x.fitB)) := by show V = _; rw [HKV.out, H1.out, b2]; rfl
 have hk2 := inR_iff.1 b2
 have HM : Hid (∀ (s : Rgn) (w : World), s.okB x.frames = true → Calls Tryz.prog 32 #[.int .i64 s.frame, .int .i64 s.pages, .int .i64 KN, .int .i64 RM] w (NaP (s.fr.meets ⟨x.kernel, x.room⟩) w)) := fun s w hs => by
  have h1 := okB_bd hs (by rw [HX.out.2.1]; exact hf.2)
  rw [meets_comm, HX.out.2.2.1, HX.out.2.2.2.1]
  exact rmeet_any ⟨s.frame, s.pages⟩ ⟨KN, RM⟩ w ⟨by dsimp only; omega, by dsimp only; omega, by dsimp only; omega, by dsimp only; omega⟩ ⟨by dsimp only; omega, by dsimp only; omega, by dsimp only; omega, by dsimp only; omega⟩
 clear b2 q0 q2 q3 hk1 hk2 hkI
 go_wp2
 go_loopw [3] (fun i wr => ∃ j : Nat, j ≤ L ∧ i = .int .i64 j ∧ ((x.ps.take j).any fun P => P.rs.any fun s => s.fr.meets ⟨x.kernel, x.room⟩) = false ∧ KF w4 wr) (fun i _ => L - (intOf i).toNat)
 case atStart => exact ⟨0, by omega, rfl, rfl, Keeps.refl _ _⟩
 case round =>
  obtain ⟨j, hj, rfl, hno, hK⟩ := hrel
  have HN : Hid (((x.ps.take j).any fun P => P.rs.any fun s => s.fr.meets ⟨x.kernel, x.room⟩) = false ∧ KF w4 wr) := ⟨hno, hK⟩
  have q5 := (HO.out.kept hK).cells.2.2.2.2.2.1
  rw [HX.out.2.2.2.2.1, ← HX.out.2.2.2.2.2.1] at q5
  clear hno
  by_cases hlt : j < L
  ·
   have hjl : (j : Int) < L := by omega
   obtain ⟨P, hP⟩ : ∃ P, x.ps[j]? = some P := ⟨_, List.getElem?_eq_getElem (by have := HX.out.2.2.2.2.1; omega)⟩
   obtain ⟨D, hD⟩ : ∃ D, P.rs.length = D := ⟨_, rfl⟩
   obtain ⟨qa, hqa⟩ : ∃ qa, qa = P.ra := ⟨_, rfl⟩
   have hPi := (HO.out.kept hK).cin.pin P (List.mem_of_getElem? hP)
   have hqc1 : (D : Int) ≤ P.rc := by have := hPi.rlen; omega
   have hqc2 : (P.rc : Int) ≤ 9223372036854775807 := by have := hPi.rlen; unfold maxLen at this; omega
   have hD8 : (D : Int) ≤ 8 := by have := (HX.out.2.2.2.2.2.2 P (List.mem_of_getElem? hP)).1; omega
   have HP : Hid (x.ps[j]? = some P ∧ P.rs.length = D ∧ qa = P.ra) := ⟨hP, hD, hqa⟩
   clear hP hD hqa hPi hK
   go_wp2
   clear q5
   go_loopw [4] (fun i wr => ∃ k : Nat, k ≤ D ∧ i = .int .i64 k ∧ ((P.rs.take k).any fun s => s.fr.meets ⟨x.kernel, x.room⟩) = false ∧ KF w4 wr) (fun i _ => D - (intOf i).toNat)
   case atStart => exact ⟨0, by omega, rfl, rfl, HN.out.2⟩
   case round =>
    obtain ⟨k, hk, rfl, hno, hK⟩ := hrel
    have hO := HO.out.kept hK
    obtain ⟨g, o, ha, hc⟩ := hO.cin.par HP.out.1
    rw [← HX.out.2.2.2.2.2.1] at ha
    have q5 := hO.cells.2.2.2.2.2.1
    rw [HX.out.2.2.2.2.1, ← HX.out.2.2.2.2.2.1, ha] at q5
    have p6 := hc 6 _ rfl
    rw [HP.out.2.1, ← HP.out.2.2] at p6
    have HK : Hid (KF w4 wr ∧ ((P.rs.take k).any fun s => s.fr.meets ⟨x.kernel, x.room⟩) = false) := ⟨hK, hno⟩
    clear hno
    by_cases hlk : k < D
    ·
     have hkk : (k : Int) < D := by omega
     obtain ⟨s, hs⟩ : ∃ s, P.rs[k]? = some s := ⟨_, List.getElem?_eq_getElem (by have := HP.out.2.1; omega)⟩
     obtain ⟨g2, o2, ha2, hc2⟩ := (hO.cin.pin P (List.mem_of_getElem? HP.out.1)).rseg.at hs
     rw [← HP.out.2.2] at ha2
     subst ha2
     have hsok := (HX.out.2.2.2.2.2.2 P (List.mem_of_getElem? HP.out.1)).2 s (List.mem_of_getElem? hs)
     obtain ⟨sg, sn, sf, st⟩ := s
     have y0 := hc2 0 _ rfl
     rw [Nat.add_zero] at y0
     have y1 := hc2 1 _ rfl
     have y2 := hc2 2 _ rfl
     have y3 := hc2 3 _ rfl
     dsimp only at y0 y1 y2 y3
     obtain ⟨A, hA⟩ : ∃ A, A = wr.heap.size := ⟨_, rfl⟩
     obtain ⟨W3, hW3⟩ : ∃ W3, W3 = wr.alloc (.cells #[.int .i64 sg, .int .i64 sn, .int .i64 sf, .int .i64 st] 54) := ⟨_, rfl⟩
     have hO3 : One w x C N W3 := by rw [hW3]; exact hO.kept ((Keeps.refl _ _).alloc _)
     have hb3 : Blk W3 A [.int .i64 sg, .int .i64 sn, .int .i64 sf, .int .i64 st] 54 := by rw [hW3, hA]; exact Blk.new _ _ _
     have HI3 : Hid (One w x C N W3 ∧ P.rs[k]? = some ⟨sg, sn, sf, st⟩ ∧ KF w4 W3) := ⟨hO3, hs, by rw [hW3]; exact hK.alloc _⟩
     have HC : Hid (Calls Tryz.prog 32 #[.int .i64 sf, .int .i64 sn, .int .i64 KN, .int .i64 RM] W3 (NaP (Rn.meets (Rgn.fr ⟨sg, sn, sf, st⟩) ⟨x.kernel, x.room⟩) W3)) := HM.out ⟨sg, sn, sf, st⟩ W3 hsok
     have z1 := hb3.cell (i := 1) rfl
     have z2 := hb3.cell (i := 2) rfl
     have q2 := hO3.cells.2.2.1
     have q3 := hO3.cells.2.2.2.1
     rw [HX.out.2.2.1] at q2
     rw [HX.out.2.2.2.1] at q3
     clear hs hc hc2 hO hK hO3 hb3 hsok ha
     go_upto_region 10 with fail
     rw [← hW3, ← hA]
     clear hW3 hA y0 y1 y2 y3 q5 p6
     go_wp2_with fail
     refine HC.out.mono ?_
     rintro e w5 ⟨rfl, rfl⟩
     cases hb : Rn.meets (Rgn.fr ⟨sg, sn, sf, st⟩) ⟨x.kernel, x.room⟩ with
     | true =>
      have HF : Hid (V = false) := by
       show V = false
       rw [HV2.out]
       have : x.hitB = true := by
        unfold Cfg.hitB
        exact List.any_eq_true.2 ⟨P, List.mem_of_getElem? HP.out.1, List.any_eq_true.2 ⟨_, List.mem_of_getElem? HI3.out.2.1, hb⟩⟩
       rw [this]
       rfl
      clear hb
      go_wp2
      go_ret
      exact ⟨by rw [HF.out]; rfl, HI3.out.1.keeps⟩
     | false =>
      have HF : Hid (((P.rs.take (k + 1)).any fun s => s.fr.meets ⟨x.kernel, x.room⟩) = false) := any_next HI3.out.2.1 HK.out.2 hb
      clear hb
      go_wp2
      go_roundw
      case rel => exact ⟨k + 1, by omega, by go_num, HF.out, HI3.out.2.2⟩
      case measure => simp [intOf]; omega
    ·
     obtain rfl : k = D := by omega
     have HF : Hid (((x.ps.take (j + 1)).any fun P => P.rs.any fun s => s.fr.meets ⟨x.kernel, x.room⟩) = false) := by
      refine any_next HP.out.1 HN.out.1 ?_
      have := HK.out.2
      rw [List.take_of_length_le (by have := HP.out.2.1; omega)] at this
      exact this
     clear hO hK hc
     go_wp2
     go_roundw
     case rel => exact ⟨j + 1, by omega, by go_num, HF.out, HK.out.1⟩
     case measure => simp [intOf]; omega
  ·
   obtain rfl : j = L := by omega
   have hO := HO.out.kept HN.out.2
   have HH : Hid (V = x.fitB) := by
    show V = _
    rw [HV2.out]
    have : x.hitB = false := by
     have := HN.out.1
     rw [List.take_of_length_le (by have := HX.out.2.2.2.2.1; omega)] at this
     exact this
    rw [this]
    rfl
   have HC : Hid (Calls Tryz.prog 33 #[x.v] wr (NeedP x wr)) := dneed_of HOF.out x wr N hO.cin hO.nn
   obtain ⟨q0, q1, q2, q3, q4, q5', q6⟩ := hO.cells
   have q5'' := q5
   rw [← HX.out.2.2.2.2.1, HX.out.2.2.2.2.2.1] at q5''
   have HR : Hid (One w x C N wr) := hO
   clear hO hK
   go_upto_region 12 with fail
   clear q5 q5''
   go_wp2_with fail
   refine HC.out.mono ?_
   rintro e w6 ⟨hK6, ⟨hm, rfl⟩ | ⟨hm, rfl⟩⟩
   ·
    have HF : Hid (V = false ∧ KF w w6) := ⟨by rw [HH.out]; unfold Cfg.fitB; rw [hm]; rfl, HR.out.keeps.trans hK6 fun _ _ h => h⟩
    clear hm hK6 q0 q1 q2 q3 q4 q5' q6
    go_wp2
    go_ret
    exact ⟨by rw [HF.out.1]; rfl, HF.out.2⟩
   ·
    obtain ⟨Z, hZ⟩ : ∃ Z, x.endW - x.kernel = Z := ⟨_, rfl⟩
    rw [hZ]
    have k3 := (HR.out.kept hK6).cells.2.2.2.1
    have HF : Hid (V = decide (Z ≤ x.room) ∧ KF w w6) := ⟨by rw [HH.out]; unfold Cfg.fitB; rw [hm, hZ]; rfl, HR.out.keeps.trans hK6 fun _ _ h => h⟩
    clear hm hK6 q0 q1 q2 q3 q4 q5' q6 hZ
    go_wp2
    go_ret
    exact ⟨by rw [HF.out.1]; rfl, HF.out.2⟩
theorem chk_who {x : Cfg} (h : whoN x ≠ 0) : chk x = ⟨whoN x, -1, -1⟩ := by
 revert h
 unfold whoN chk cfgF
 cases inR x.frames 1 1024
 ·
  simp [firstF, unl]
 ·
  cases inR x.major 1 16384
  ·
   simp [firstF, unl, Flt.no]
  ·
   cases inR (x.cs.length : Int) 1 4
   ·
    simp [firstF, unl, Flt.no]
   ·
    cases inR (x.ps.length : Int) 1 8
    ·
     simp [firstF, unl, Flt.no]
    ·
     cases decide ((x.hs.length : Int) ≤ 16)
     ·
      simp [firstF, unl, Flt.no]
     ·
      intro h; exact absurd rfl h
theorem who_ok {x : Cfg} (h : whoN x = 0) : (1 ≤ x.frames ∧ x.frames ≤ 1024) ∧ x.cs.length ≤ 4 ∧ x.ps.length ≤ 8 ∧ x.hs.length ≤ 16 ∧ chk x = firstF [parsF x, chnsF x, corsF x, unl x.kerB ⟨423, -1, -1⟩] := by
 revert h
 unfold whoN chk cfgF
 cases h1 : inR x.frames 1 1024
 ·
  simp
 ·
  cases h2 : inR x.major 1 16384
  ·
   simp
  ·
   cases h3 : inR (x.cs.length : Int) 1 4
   ·
    simp
   ·
    cases h4 : inR (x.ps.length : Int) 1 8
    ·
     simp
    ·
     cases h5 : decide ((x.hs.length : Int) ≤ 16)
     ·
      simp
     ·
      intro _
      have e1 := inR_iff.1 h1
      have e3 := inR_iff.1 h3
      have e4 := inR_iff.1 h4
      rw [decide_eq_true_eq] at h5
      refine ⟨e1, by omega, by omega, by omega, ?_⟩
      rw [firstF_unl_true, firstF_unl_true, firstF_unl_true, firstF_unl_true, firstF_unl_true]
theorem list_hit {n : Nat} {f : Nat → Flt} {j : Nat} (hj : j < n) (h0 : ∀ i, i < j → (f i).n = 0) (h : (f j).n ≠ 0) : firstF ((List.range n).map f) = f j := by
 refine firstF_take (j := j) (by simp [hj]) (fun i hi g hg => ?_) h
 rw [List.getElem?_map, List.getElem?_range (by omega)] at hg
 simp only [Option.map_some, Option.some.injEq] at hg
 rw [← hg]
 exact h0 i hi
theorem parsF_hit {x : Cfg} {p : Nat} {P : Par} (hP : x.ps[p]? = some P) (h0 : ∀ (q : Nat) (Q : Par), q < p → x.ps[q]? = some Q → (firstF (parF x q Q)).n = 0) (h : (firstF (parF x p P)).n ≠ 0) : parsF x = firstF (parF x p P) := by
 have hj := (List.getElem?_eq_some_iff.1 hP).1
 have e : firstF (parF' x p) = firstF (parF x p P) := by unfold parF'; rw [hP]
 unfold parsF
 rw [list_hit hj (fun q hq => ?_) (by rw [e]; exact h), e]
 have hs : x.ps[q]? = some (x.ps[q]'(by omega)) := List.getElem?_eq_getElem (by omega)
 unfold parF'
 rw [hs]
 exact h0 q _ hq hs
theorem parsF_no {x : Cfg} (h0 : ∀ (q : Nat) (Q : Par), x.ps[q]? = some Q → (firstF (parF x q Q)).n = 0) : (parsF x).n = 0 := by
 unfold parsF
 rw [firstF_range]
 intro q hq
 have hs : x.ps[q]? = some (x.ps[q]'hq) := List.getElem?_eq_getElem hq
 unfold parF'
 rw [hs]
 exact h0 q _ hs
theorem chnsF_hit {x : Cfg} {p : Nat} {h : Chn} (hP : x.hs[p]? = some h) (h0 : ∀ (q : Nat) (g : Chn), q < p → x.hs[q]? = some g → chN x q g = 0) (hn : chN x p h ≠ 0) : chnsF x = ⟨chN x p h, p, -1⟩ := by
 have hj := (List.getElem?_eq_some_iff.1 hP).1
 have e : firstF (chnF' x p) = ⟨chN x p h, p, -1⟩ := by unfold chnF'; rw [hP]; exact chnF_at hn
 unfold chnsF
 rw [list_hit hj (fun q hq => ?_) (by rw [e]; exact hn), e]
 have hs : x.hs[q]? = some (x.hs[q]'(by omega)) := List.getElem?_eq_getElem (by omega)
 unfold chnF'
 rw [hs]
 exact h0 q _ hq hs
theorem chnsF_no {x : Cfg} (h0 : ∀ (q : Nat) (g : Chn), x.hs[q]? = some g → chN x q g = 0) : (chnsF x).n = 0 := by
 unfold chnsF
 rw [firstF_range]
 intro q hq
 have hs : x.hs[q]? = some (x.hs[q]'hq) := List.getElem?_eq_getElem hq
 unfold chnF'
 rw [hs]
 exact h0 q _ hs
theorem corsF_hit {x : Cfg} {p : Nat} {X : Core} (hP : x.cs[p]? = some X) (h0 : ∀ (q : Nat) (Y : Core), q < p → x.cs[q]? = some Y → (firstF (corF x q Y)).n = 0) (h : (firstF (corF x p X)).n ≠ 0) : corsF x = firstF (corF x p X) := by
 have hj := (List.getElem?_eq_some_iff.1 hP).1
 have e : firstF (corF' x p) = firstF (corF x p X) := by unfold corF'; rw [hP]
 unfold corsF
 rw [list_hit hj (fun q hq => ?_) (by rw [e]; exact h), e]
 have hs : x.cs[q]? = some (x.cs[q]'(by omega)) := List.getElem?_eq_getElem (by omega)
 unfold corF'
 rw [hs]
 exact h0 q _ hq hs
theorem corsF_no {x : Cfg} (h0 : ∀ (q : Nat) (Y : Core), x.cs[q]? = some Y → (firstF (corF x q Y)).n = 0) : (corsF x).n = 0 := by
 unfold corsF
 rw [firstF_range]
 intro q hq
 have hs : x.cs[q]? = some (x.cs[q]'hq) := List.getElem?_eq_getElem hq
 unfold corF'
 rw [hs]
 exact h0 q _ hs
theorem corF_len {x : Cfg} {p : Nat} {X : Core} (h : (firstF (corF x p X)).n = 0) : X.ws.length ≤ 16 := by
 have := (unl_n (by simp)).1 (firstF_eq0.1 h (unl (inR (X.ws.length : Int) 1 16) ⟨418, p, -1⟩) (by simp [corF]))
 have := inR_iff.1 this
 omega
def Check16P (x : Cfg) := FlP (chk x)
set_option maxHeartbeats 8000000 in
theorem dcheck_of (hof : ∀ (x : Cfg) (w : World) (N : Nat), x.In w N → N ≤ w.heap.size → Calls Tryz.prog 56 #[x.v] w (OfP x w)) (x : Cfg) (w : World) (N : Nat) (hi : x.In w N) (hN : N ≤ w.heap.size) : Calls Tryz.prog 5 #[x.v] w (FlP (chk x) w) := by
 obtain ⟨F, hF⟩ : ∃ F, chk x = F := ⟨_, rfl⟩
 rw [hF]
 obtain ⟨W, hW⟩ : ∃ W, W = (x.laid w).alloc (.cells #[.int .i64 0, .int .i64 0] 34) := ⟨_, rfl⟩
 obtain ⟨C, hC⟩ : ∃ C, C = w.heap.size := ⟨_, rfl⟩
 obtain ⟨R, hR⟩ : ∃ R, R = w.heap.size + 1 := ⟨_, rfl⟩
 have HI : Hid (CoI w x C N R W) := by
  refine ⟨by rw [hW, hC]; exact (One.mk' hi hN).kept ((Keeps.refl _ _).alloc _), ?_, by omega⟩
  have := Blk.new (x.laid w) #[.int .i64 0, .int .i64 0] 34
  rw [hW, hR]
  simpa [Cfg.laid] using this
 obtain ⟨LP, hLP⟩ : ∃ L, x.ps.length = L := ⟨_, rfl⟩
 obtain ⟨LH, hLH⟩ : ∃ L, x.hs.length = L := ⟨_, rfl⟩
 obtain ⟨LC, hLC⟩ : ∃ L, x.cs.length = L := ⟨_, rfl⟩
 have HX : Hid (chk x = F ∧ x.ps.length = LP ∧ x.hs.length = LH ∧ x.cs.length = LC) := ⟨hF, hLP, hLH, hLC⟩
 have HOF : Hid (∀ (x : Cfg) (w : World) (N : Nat), x.In w N → N ≤ w.heap.size → Calls Tryz.prog 56 #[x.v] w (OfP x w)) := hof
 have HNo : Hid (∀ w, Calls Tryz.prog 16 #[] w fun e w' => e = .returned (.agg #[.int .i64 (-1), .int .i64 (-1)]) ∧ KF w w') := rnone_any
 have HOf : Hid (∀ n w, Calls Tryz.prog 19 #[.int .i64 n] w fun e w' => e = .returned (.agg #[.int .i64 n, .int .i64 (-1)]) ∧ KF w w') := rof_any
 have HC : Hid (Calls Tryz.prog 15 #[x.v] W (NuP (whoN x) W)) := dwhole_any x W N HI.out.one.cin HI.out.one.nn
 obtain ⟨q0, q1, q2, q3, q4, q5, q6⟩ := HI.out.one.cells
 obtain ⟨V, hV⟩ : ∃ V, whoN x = V := ⟨_, rfl⟩
 rw [hV] at HC
 have HV : Hid (whoN x = V) := hV
 clear hF hi hN hof hLP hLH hLC hV
 unfold Cfg.laid at hW
 go_enter Tryz.func5, Tryz.ntmps5
 go_upto_region 1 with fail
 rw [← hW, ← hR, ← hC]
 clear hW hC hR
 go_wp2_with fail
 refine HC.out.mono ?_
 rintro e w1 ⟨rfl, hK1⟩
 have HI1 : Hid (CoI w x C N R w1) := HI.out.kept hK1
 clear HC hK1 q0 q1 q2 q3 q4 q5 q6 HI
 have HI := HI1
 clear HI1
 by_cases hv0 : V = 0
 rotate_left
 ·
  have HF : Hid (F = ⟨V, -1, -1⟩) := by
   show F = _
   rw [← HX.out.1, chk_who (by rw [HV.out]; exact hv0), HV.out]
  go_wp2_with fail
  refine (HNo.out w1).mono ?_
  rintro e w9 ⟨rfl, hK9⟩
  have HI9 : Hid (CoI w x C N R w9) := HI.out.kept hK9
  clear hK9
  have t0 := HI9.out.res.cell (i := 0) rfl
  have t1 := HI9.out.res.cell (i := 1) rfl
  have u0 := HI9.out.res.frozen 0
  have u1 := HI9.out.res.frozen 1
  go_wp2
  obtain ⟨W9, hW9⟩ : ∃ W9, W9 = (w9.setCell ⟨R, 0, none⟩ (.int .i64 (-1))).setCell ⟨R, 1, none⟩ (.int .i64 (-1)) := ⟨_, rfl⟩
  rw [← hW9]
  obtain ⟨hb9, hk9⟩ := HI9.out.set (-1) (-1)
  rw [← hW9] at hb9 hk9
  (try simp only [Exit.inBlock, Exit.then])
  refine bodyPost_ret (results_two_cell rfl _ _ R 34 _ (0, 0) _ rfl hb9 Tryz.underlying34 rfl (by kernel_rfl)) rfl ?_
  exact ⟨by rw [HF.out]; rfl, hk9⟩
 have HB : Hid ((1 ≤ x.frames ∧ x.frames ≤ 1024) ∧ LC ≤ 4 ∧ LP ≤ 8 ∧ LH ≤ 16 ∧ F = firstF [parsF x, chnsF x, corsF x, unl x.kerB ⟨423, -1, -1⟩]) := by
  obtain ⟨h1, h2, h3, h4, h5⟩ := who_ok (x := x) (by rw [HV.out]; exact hv0)
  have := HX.out
  exact ⟨h1, by omega, by omega, by omega, by rw [← this.1]; exact h5⟩
 have hb1 : (LP : Int) ≤ 8 ∧ (LH : Int) ≤ 16 ∧ (LC : Int) ≤ 4 := by have := HB.out; omega
 subst hv0
 go_wp2
 go_loopw [5] (fun a wr => ∃ p : Nat, p ≤ LP ∧ a = .int .i64 p ∧ (∀ (q : Nat) (Q : Par), q < p → x.ps[q]? = some Q → (firstF (parF x q Q)).n = 0) ∧ CoI w x C N R wr) (fun a _ => LP - (intOf a).toNat)
 case atStart => exact ⟨0, by omega, rfl, fun q Q h => absurd h (by omega), HI.out⟩
 case round =>
  obtain ⟨p, hv, rfl, hno, hI⟩ := hrel
  clear HI
  have HI : Hid (CoI w x C N R wr) := hI
  have HN : Hid (∀ (q : Nat) (Q : Par), q < p → x.ps[q]? = some Q → (firstF (parF x q Q)).n = 0) := hno
  obtain ⟨q0, q1, q2, q3, q4, q5, q6⟩ := hI.one.cells
  clear hno hI
  by_cases hlt : p < LP
  ·
   have hlt' : (p : Int) < (x.ps.length : Int) := by have := HX.out.2.1; omega
   have hlen : p < x.ps.length := by have := HX.out.2.1; omega
   obtain ⟨P, hP⟩ : ∃ P, x.ps[p]? = some P := ⟨_, List.getElem?_eq_getElem hlen⟩
   have HP : Hid (x.ps[p]? = some P) := hP
   have HC : Hid (Calls Tryz.prog 17 #[x.v, .int .i64 (p : Int)] wr (FlP (firstF (parF x p P)) wr)) := dpartition_any x p P hP wr N HI.out.one.cin HI.out.one.nn HB.out.1 (by have := HX.out.2.2.1; have := HB.out; omega) (fun Q hQ => by
    obtain ⟨q, hq⟩ := List.getElem?_of_mem hQ
    rw [List.getElem?_take] at hq
    split at hq
    ·
     exact (parF_n.1 (HN.out q Q (by omega) hq)).rok
    ·
     cases hq)
   obtain ⟨f, hf⟩ : ∃ f, firstF (parF x p P) = f := ⟨_, rfl⟩
   rw [hf] at HC
   have HFl : Hid (firstF (parF x p P) = f) := hf
   obtain ⟨fn, fa, fb⟩ := f
   clear hP hlen hf
   go_wp2_with fail
   refine HC.out.mono ?_
   rintro e w8 ⟨rfl, hK8⟩
   dsimp only
   obtain ⟨T, hT⟩ : ∃ T, T = w8.heap.size := ⟨_, rfl⟩
   obtain ⟨W8, hW8⟩ : ∃ W8, W8 = w8.alloc (.cells #[.int .i64 fa, .int .i64 fb] 34) := ⟨_, rfl⟩
   have HI8 : Hid (CoI w x C N R W8 ∧ Blk W8 T [.int .i64 fa, .int .i64 fb] 34 ∧ T ≠ R) := by
    have h1 := HI.out.kept hK8
    have h2 := h1.res.lt
    rw [hW8, hT]
    exact ⟨h1.kept ((Keeps.refl _ _).alloc _), Blk.new _ _ _, by omega⟩
   clear HC hK8 q0 q1 q2 q3 q4 q5 q6 HI
   go_upto_region 8 with fail
   rw [← hW8, ← hT]
   clear hW8 hT
   by_cases hn0 : fn = 0
   ·
    have HN0 : Hid (fn = 0) := hn0
    go_wp2
    go_roundw
    case rel =>
     refine ⟨p + 1, by omega, by go_num, fun q Q h1 h2 => ?_, HI8.out.1⟩
     by_cases e : q = p
     ·
      subst e
      rw [HP.out] at h2
      cases h2
      rw [HFl.out]
      exact HN0.out
     ·
      exact HN.out q Q (by omega) h2
    case measure => simp [intOf]; omega
   ·
    have HF : Hid (F = ⟨fn, fa, fb⟩) := by
     show F = _
     rw [HB.out.2.2.2.2, firstF_cons_yes (by rw [parsF_hit HP.out HN.out (by rw [HFl.out]; exact hn0), HFl.out]; exact hn0), parsF_hit HP.out HN.out (by rw [HFl.out]; exact hn0), HFl.out]
    obtain ⟨Wd, hWd⟩ : ∃ Wd, Wd = W8.drew := ⟨_, rfl⟩
    obtain ⟨W9, hW9⟩ : ∃ W9, W9 = Wd.setRow R #[.int .i64 fa, .int .i64 fb] := ⟨_, rfl⟩
    have HId : Hid (CoI w x C N R Wd ∧ Blk Wd T [.int .i64 fa, .int .i64 fb] 34) := by rw [hWd]; exact ⟨HI8.out.1.kept (Keeps.refl _ _).drew, HI8.out.2.1.drew⟩
    have H9 : Hid (Blk W9 R [.int .i64 fa, .int .i64 fb] 34 ∧ KF w W9) := by
     rw [hW9]
     exact ⟨HId.out.1.res.setRow _, HId.out.1.one.keeps.setRow _ _ fun h => by have := HId.out.1.lo; omega⟩
    have hTR : T ≠ R := HI8.out.2.2
    have hT9 : Blk W9 T [.int .i64 fa, .int .i64 fb] 34 := by
     rw [hW9]
     exact HId.out.2.setRow_ne hTR _
    have HSd : Hid ((Wd.cell? ⟨T, 0, none⟩ = some (.int .i64 fa) ∧ Wd.cell? ⟨T, 1, none⟩ = some (.int .i64 fb)) ∧ (W9.cell? ⟨T, 0, none⟩ = some (.int .i64 fa) ∧ W9.cell? ⟨T, 1, none⟩ = some (.int .i64 fb))) := ⟨⟨HId.out.2.cell rfl, HId.out.2.cell rfl⟩, hT9.cell rfl, hT9.cell rfl⟩
    clear hT9 hTR
    go_upto_region 9 with fail
    refine wp_region_held_drew (S := (fun w' => w'.cell? ⟨T, 0, none⟩ = some (.int .i64 fa) ∧ w'.cell? ⟨T, 1, none⟩ = some (.int .i64 fb))) Tryz.mixd (by rw [← hWd]; exact HSd.out.1) (fun hHeld => ?_)
    rw [← hWd]
    rw [← hWd] at hHeld
    simp only [t1, t2, List.length_nil, Nat.reduceAdd, t4, Array.replicate_zero, t6, List.nil_append, t8]
    refine tk 0 (.int .i64 fn) hHeld ?_
    refine tk 1 (.agg #[.int .i64 fa, .int .i64 fb]) hHeld ?_
    refine tk 2 (.int .i64 fn) hHeld ?_
    simp only [Act.put, s1, s2, s3]
    refine rd 3 fun Kq hK => ?_
    refine wp_store_row 34 _ _ rfl R #[.int .i64 fa, .int .i64 fb] (by rfl) (by rfl) 34 _ HId.out.1.res Tryz.size34 rfl (all29 ..) ?_
    rw [← hW9]
    refine hK.out _ _ HSd.out.2 (fun hHeld => ?_)
    simp only [Act.put, s1, s2, s3]
    refine wpAnyH_done (by kernel_rfl) ?_ _
    clear hHeld
    go_wp2
    (try simp only [Exit.inBlock, Exit.then])
    refine bodyPost_ret (results_two_cell rfl _ _ R 34 _ (0, 0) _ rfl H9.out.1 Tryz.underlying34 rfl (by kernel_rfl)) rfl ?_
    exact ⟨by rw [HF.out]; rfl, H9.out.2⟩
  ·
   obtain rfl : p = LP := by omega
   have HG : Hid ((∀ (p : Nat) (P : Par), x.ps[p]? = some P → GP x p P) ∧ F = firstF [chnsF x, corsF x, unl x.kerB ⟨423, -1, -1⟩]) := by
    have h1 : ∀ (q : Nat) (Q : Par), x.ps[q]? = some Q → (firstF (parF x q Q)).n = 0 := fun q Q h => HN.out q Q (by have := (List.getElem?_eq_some_iff.1 h).1; have := HX.out.2.1; omega) h
    exact ⟨fun q Q h => parF_n.1 (h1 q Q h), by rw [HB.out.2.2.2.2, firstF_cons_no (parsF_no h1)]⟩
   have hge : ¬ (p : Int) < (x.ps.length : Int) := by have := HX.out.2.1; omega
   clear HN hv hlt
   go_wp2
   clear q0 q1 q2 q3 q4 q5 q6 hge
   go_loopw [8] (fun a wr => ∃ h : Nat, h ≤ LH ∧ a = .int .i64 h ∧ (∀ (q : Nat) (g : Chn), q < h → x.hs[q]? = some g → chN x q g = 0) ∧ CoI w x C N R wr) (fun a _ => LH - (intOf a).toNat)
   case atStart => exact ⟨0, by omega, rfl, fun q Q h => absurd h (by omega), HI.out⟩
   case round =>
    obtain ⟨h, hv, rfl, hno, hI⟩ := hrel
    clear HI
    have HI : Hid (CoI w x C N R wr) := hI
    have HN : Hid (∀ (q : Nat) (g : Chn), q < h → x.hs[q]? = some g → chN x q g = 0) := hno
    obtain ⟨q0, q1, q2, q3, q4, q5, q6⟩ := hI.one.cells
    clear hno hI
    by_cases hlt : h < LH
    ·
     have hlt' : (h : Int) < (x.hs.length : Int) := by have := HX.out.2.2.1; omega
     have hlen : h < x.hs.length := by have := HX.out.2.2.1; omega
     obtain ⟨g, hg⟩ : ∃ g, x.hs[h]? = some g := ⟨_, List.getElem?_eq_getElem hlen⟩
     have HP : Hid (x.hs[h]? = some g) := hg
     have HC : Hid (Calls Tryz.prog 18 #[x.v, .int .i64 (h : Int)] wr (NuP (chN x h g) wr)) := dchannel_any x h g hg wr N HI.out.one.cin HI.out.one.nn (by have := HX.out.2.1; have := HB.out; omega) (fun P hP => by
      obtain ⟨q, hq⟩ := List.getElem?_of_mem hP
      exact (HG.out.1 q P hq).plen)
     obtain ⟨V, hV⟩ : ∃ V, chN x h g = V := ⟨_, rfl⟩
     rw [hV] at HC
     have HV2 : Hid (chN x h g = V) := hV
     clear hg hlen hV
     go_wp2_with fail
     refine HC.out.mono ?_
     rintro e w8 ⟨rfl, hK8⟩
     have HI8 : Hid (CoI w x C N R w8) := HI.out.kept hK8
     clear HC hK8 q0 q1 q2 q3 q4 q5 q6 HI
     have HI := HI8
     clear HI8
     by_cases hn0 : V = 0
     ·
      have HN0 : Hid (V = 0) := hn0
      go_wp2
      go_roundw
      case rel =>
       refine ⟨h + 1, by omega, by go_num, fun q Q h1 h2 => ?_, HI.out⟩
       by_cases e : q = h
       ·
        subst e
        rw [HP.out] at h2
        cases h2
        rw [HV2.out]
        exact HN0.out
       ·
        exact HN.out q Q (by omega) h2
      case measure => simp [intOf]; omega
     ·
      have HF : Hid (F = ⟨V, h, -1⟩) := by
       show F = _
       have e := chnsF_hit HP.out HN.out (by rw [HV2.out]; exact hn0)
       rw [HG.out.2, firstF_cons_yes (by rw [e]; dsimp only; rw [HV2.out]; exact hn0), e, HV2.out]
      go_wp2_with fail
      refine (HOf.out (h : Int) w8).mono ?_
      rintro e w9 ⟨rfl, hK9⟩
      have HI9 : Hid (CoI w x C N R w9) := HI.out.kept hK9
      clear hK9
      have t0 := HI9.out.res.cell (i := 0) rfl
      have t1 := HI9.out.res.cell (i := 1) rfl
      have u0 := HI9.out.res.frozen 0
      have u1 := HI9.out.res.frozen 1
      go_wp2
      obtain ⟨W9, hW9⟩ : ∃ W9, W9 = (w9.setCell ⟨R, 0, none⟩ (.int .i64 (h : Int))).setCell ⟨R, 1, none⟩ (.int .i64 (-1)) := ⟨_, rfl⟩
      rw [← hW9]
      obtain ⟨hb9, hk9⟩ := HI9.out.set (h : Int) (-1)
      rw [← hW9] at hb9 hk9
      (try simp only [Exit.inBlock, Exit.then])
      refine bodyPost_ret (results_two_cell rfl _ _ R 34 _ (0, 0) _ rfl hb9 Tryz.underlying34 rfl (by kernel_rfl)) rfl ?_
      exact ⟨by rw [HF.out]; rfl, hk9⟩
    ·
     obtain rfl : h = LH := by omega
     have HG2 : Hid (F = firstF [corsF x, unl x.kerB ⟨423, -1, -1⟩]) := by
      show F = _
      rw [HG.out.2, firstF_cons_no (chnsF_no fun q g hq => HN.out q g (by have := (List.getElem?_eq_some_iff.1 hq).1; have := HX.out.2.2.1; omega) hq)]
     have hge : ¬ (h : Int) < (x.hs.length : Int) := by have := HX.out.2.2.1; omega
     clear HN hv hlt
     go_wp2
     clear q0 q1 q2 q3 q4 q5 q6 hge
     go_loopw [10] (fun a wr => ∃ i : Nat, i ≤ LC ∧ a = .int .i64 i ∧ (∀ (q : Nat) (Q : Core), q < i → x.cs[q]? = some Q → (firstF (corF x q Q)).n = 0) ∧ CoI w x C N R wr) (fun a _ => LC - (intOf a).toNat)
     case atStart => exact ⟨0, by omega, rfl, fun q Q h => absurd h (by omega), HI.out⟩
     case round =>
      obtain ⟨i, hv, rfl, hno, hI⟩ := hrel
      clear HI
      have HI : Hid (CoI w x C N R wr) := hI
      have HN : Hid (∀ (q : Nat) (Q : Core), q < i → x.cs[q]? = some Q → (firstF (corF x q Q)).n = 0) := hno
      obtain ⟨q0, q1, q2, q3, q4, q5, q6⟩ := hI.one.cells
      clear hno hI
      by_cases hlt : i < LC
      ·
       have hlt' : (i : Int) < (x.cs.length : Int) := by have := HX.out.2.2.2; omega
       have hlen : i < x.cs.length := by have := HX.out.2.2.2; omega
       obtain ⟨P, hP⟩ : ∃ P, x.cs[i]? = some P := ⟨_, List.getElem?_eq_getElem hlen⟩
       have HP : Hid (x.cs[i]? = some P) := hP
       have HC : Hid (Calls Tryz.prog 20 #[x.v, .int .i64 (i : Int)] wr (FlP (firstF (corF x i P)) wr)) := dcore_any x i P hP wr N HI.out.one.cin HI.out.one.nn (by have := HX.out.2.1; have := HB.out; omega) (by have := HX.out.2.2.2; have := HB.out; omega) (fun Q hQ => by
        obtain ⟨q, hq⟩ := List.getElem?_of_mem hQ
        rw [List.getElem?_take] at hq
        split at hq
        ·
         exact corF_len (HN.out q Q (by omega) hq)
        ·
         cases hq)
       obtain ⟨f, hf⟩ : ∃ f, firstF (corF x i P) = f := ⟨_, rfl⟩
       rw [hf] at HC
       have HFl : Hid (firstF (corF x i P) = f) := hf
       obtain ⟨fn, fa, fb⟩ := f
       clear hP hlen hf
       go_wp2_with fail
       refine HC.out.mono ?_
       rintro e w8 ⟨rfl, hK8⟩
       dsimp only
       obtain ⟨T, hT⟩ : ∃ T, T = w8.heap.size := ⟨_, rfl⟩
       obtain ⟨W8, hW8⟩ : ∃ W8, W8 = w8.alloc (.cells #[.int .i64 fa, .int .i64 fb] 34) := ⟨_, rfl⟩
       have HI8 : Hid (CoI w x C N R W8 ∧ Blk W8 T [.int .i64 fa, .int .i64 fb] 34 ∧ T ≠ R) := by
        have h1 := HI.out.kept hK8
        have h2 := h1.res.lt
        rw [hW8, hT]
        exact ⟨h1.kept ((Keeps.refl _ _).alloc _), Blk.new _ _ _, by omega⟩
       clear HC hK8 q0 q1 q2 q3 q4 q5 q6 HI
       go_upto_region 20 with fail
       rw [← hW8, ← hT]
       clear hW8 hT
       by_cases hn0 : fn = 0
       ·
        have HN0 : Hid (fn = 0) := hn0
        go_wp2
        go_roundw
        case rel =>
         refine ⟨i + 1, by omega, by go_num, fun q Q h1 h2 => ?_, HI8.out.1⟩
         by_cases e : q = i
         ·
          subst e
          rw [HP.out] at h2
          cases h2
          rw [HFl.out]
          exact HN0.out
         ·
          exact HN.out q Q (by omega) h2
        case measure => simp [intOf]; omega
       ·
        have HF : Hid (F = ⟨fn, fa, fb⟩) := by
         show F = _
         rw [HG2.out, firstF_cons_yes (by rw [corsF_hit HP.out HN.out (by rw [HFl.out]; exact hn0), HFl.out]; exact hn0), corsF_hit HP.out HN.out (by rw [HFl.out]; exact hn0), HFl.out]
        obtain ⟨Wd, hWd⟩ : ∃ Wd, Wd = W8.drew := ⟨_, rfl⟩
        obtain ⟨W9, hW9⟩ : ∃ W9, W9 = Wd.setRow R #[.int .i64 fa, .int .i64 fb] := ⟨_, rfl⟩
        have HId : Hid (CoI w x C N R Wd ∧ Blk Wd T [.int .i64 fa, .int .i64 fb] 34) := by rw [hWd]; exact ⟨HI8.out.1.kept (Keeps.refl _ _).drew, HI8.out.2.1.drew⟩
        have H9 : Hid (Blk W9 R [.int .i64 fa, .int .i64 fb] 34 ∧ KF w W9) := by
         rw [hW9]
         exact ⟨HId.out.1.res.setRow _, HId.out.1.one.keeps.setRow _ _ fun h => by have := HId.out.1.lo; omega⟩
        have hTR : T ≠ R := HI8.out.2.2
        have hT9 : Blk W9 T [.int .i64 fa, .int .i64 fb] 34 := by
         rw [hW9]
         exact HId.out.2.setRow_ne hTR _
        have HSd : Hid ((Wd.cell? ⟨T, 0, none⟩ = some (.int .i64 fa) ∧ Wd.cell? ⟨T, 1, none⟩ = some (.int .i64 fb)) ∧ (W9.cell? ⟨T, 0, none⟩ = some (.int .i64 fa) ∧ W9.cell? ⟨T, 1, none⟩ = some (.int .i64 fb))) := ⟨⟨HId.out.2.cell rfl, HId.out.2.cell rfl⟩, hT9.cell rfl, hT9.cell rfl⟩
        clear hT9 hTR
        go_upto_region 21 with fail
        refine wp_region_held_drew (S := (fun w' => w'.cell? ⟨T, 0, none⟩ = some (.int .i64 fa) ∧ w'.cell? ⟨T, 1, none⟩ = some (.int .i64 fb))) Tryz.mixd (by rw [← hWd]; exact HSd.out.1) (fun hHeld => ?_)
        rw [← hWd]
        rw [← hWd] at hHeld
        simp only [t1, t2, List.length_nil, Nat.reduceAdd, t4, Array.replicate_zero, t6, List.nil_append, t8]
        refine tk 0 (.int .i64 fn) hHeld ?_
        refine tk 1 (.agg #[.int .i64 fa, .int .i64 fb]) hHeld ?_
        refine tk 2 (.int .i64 fn) hHeld ?_
        simp only [Act.put, s1, s2, s3]
        refine rd 3 fun Kq hK => ?_
        refine wp_store_row 34 _ _ rfl R #[.int .i64 fa, .int .i64 fb] (by rfl) (by rfl) 34 _ HId.out.1.res Tryz.size34 rfl (all29 ..) ?_
        rw [← hW9]
        refine hK.out _ _ HSd.out.2 (fun hHeld => ?_)
        simp only [Act.put, s1, s2, s3]
        refine wpAnyH_done (by kernel_rfl) ?_ _
        clear hHeld
        go_wp2
        (try simp only [Exit.inBlock, Exit.then])
        refine bodyPost_ret (results_two_cell rfl _ _ R 34 _ (0, 0) _ rfl H9.out.1 Tryz.underlying34 rfl (by kernel_rfl)) rfl ?_
        exact ⟨by rw [HF.out]; rfl, H9.out.2⟩
      ·
       obtain rfl : i = LC := by omega
       have HG3 : Hid (F = firstF [unl x.kerB ⟨423, -1, -1⟩]) := by
        show F = _
        rw [HG2.out, firstF_cons_no (corsF_no fun q Q hq => HN.out q Q (by have := (List.getElem?_eq_some_iff.1 hq).1; have := HX.out.2.2.2; omega) hq)]
       have HC : Hid (Calls Tryz.prog 21 #[x.v] wr (BoP x.kerB wr)) := darea_of HOF.out x wr N HI.out.one.cin HI.out.one.nn HB.out.1 (by have := HX.out.2.1; have := HB.out; omega) (fun P hP => by
        obtain ⟨q, hq⟩ := List.getElem?_of_mem hP
        exact ⟨(HG.out.1 q P hq).rlen.2, (HG.out.1 q P hq).rok⟩)
       have hge : ¬ (i : Int) < (x.cs.length : Int) := by have := HX.out.2.2.2; omega
       clear HN hv hlt
       go_upto_region 22 with fail
       go_wp2_with fail
       refine HC.out.mono ?_
       rintro e w8 ⟨rfl, hK8⟩
       have HI8 : Hid (CoI w x C N R w8) := HI.out.kept hK8
       clear HC hK8 q0 q1 q2 q3 q4 q5 q6 HI
       have HI := HI8
       clear HI8
       cases hk : x.kerB with
       | false =>
        have HF : Hid (F = ⟨423, -1, -1⟩) := by show F = _; rw [HG3.out, hk, firstF_unl_false (by simp)]
        clear hk
        go_wp2_with fail
        refine (HNo.out w8).mono ?_
        rintro e w9 ⟨rfl, hK9⟩
        have HI9 : Hid (CoI w x C N R w9) := HI.out.kept hK9
        clear hK9
        have t0 := HI9.out.res.cell (i := 0) rfl
        have t1 := HI9.out.res.cell (i := 1) rfl
        have u0 := HI9.out.res.frozen 0
        have u1 := HI9.out.res.frozen 1
        go_wp2
        obtain ⟨W9, hW9⟩ : ∃ W9, W9 = (w9.setCell ⟨R, 0, none⟩ (.int .i64 (-1))).setCell ⟨R, 1, none⟩ (.int .i64 (-1)) := ⟨_, rfl⟩
        rw [← hW9]
        obtain ⟨hb9, hk9⟩ := HI9.out.set (-1) (-1)
        rw [← hW9] at hb9 hk9
        (try simp only [Exit.inBlock, Exit.then])
        refine bodyPost_ret (results_two_cell rfl _ _ R 34 _ (0, 0) _ rfl hb9 Tryz.underlying34 rfl (by kernel_rfl)) rfl ?_
        exact ⟨by rw [HF.out]; rfl, hk9⟩
       | true =>
        have HF : Hid (F = Flt.no) := by show F = _; rw [HG3.out, hk]; rfl
        clear hk
        have HI9 := HI
        have t0 := HI9.out.res.cell (i := 0) rfl
        have t1 := HI9.out.res.cell (i := 1) rfl
        have u0 := HI9.out.res.frozen 0
        have u1 := HI9.out.res.frozen 1
        go_wp2
        obtain ⟨W9, hW9⟩ : ∃ W9, W9 = (w8.setCell ⟨R, 0, none⟩ (.int .i64 0)).setCell ⟨R, 1, none⟩ (.int .i64 0) := ⟨_, rfl⟩
        rw [← hW9]
        obtain ⟨hb9, hk9⟩ := HI9.out.set 0 0
        rw [← hW9] at hb9 hk9
        (try simp only [Exit.inBlock, Exit.then])
        refine bodyPost_ret (results_two_cell rfl _ _ R 34 _ (0, 0) _ rfl hb9 Tryz.underlying34 rfl (by kernel_rfl)) rfl ?_
        exact ⟨by rw [HF.out]; rfl, hk9⟩
end Go.Proofs.YtlnmlbkeemahcaaGreat
