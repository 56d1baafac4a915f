import Derived.Test.YtlnmlbkeemahcaaGreatRo
import Derived.Test.YtlnmlbkeemahcaaGreatK
namespace Go.Proofs.YtlnmlbkeemahcaaGreat
open Go.RowKit
set_option linter.unusedVariables false
set_option maxRecDepth 6000
theorem body_any (h : Chn) (w : World) : Calls Tryz.prog 125 #[h.v] w fun e w' => e = .returned (.int .i64 h.bod) ∧ KF w w' := by
 obtain ⟨k, n, d⟩ := h
 have HN : Hid (Chn.sized ⟨k, n, d⟩ = false → Chn.bod ⟨k, n, d⟩ = 0) := fun h => by unfold Chn.bod; rw [h]; rfl
 by_cases h1 : n < 1
 ·
  have e1 : decide (n < 1) = true := by simp [h1]
  have HS := Chn.sized_no (k := k) (n := n) (d := d) (by omega)
  rw [HN.out HS.out]
  go_enter Tryz.func125, Tryz.ntmps125
  go_wp2
  go_ret
  exact ⟨rfl, (Keeps.refl _ _).alloc _⟩
 have e1 : decide (n < 1) = false := by simp [h1]
 by_cases h2 : 16 < n
 ·
  have e2 : decide (16 < n) = true := by simp [h2]
  have HS := Chn.sized_no (k := k) (n := n) (d := d) (by omega)
  rw [HN.out HS.out]
  go_enter Tryz.func125, Tryz.ntmps125
  go_wp2
  go_ret
  exact ⟨rfl, (Keeps.refl _ _).alloc _⟩
 have e2 : decide (16 < n) = false := by simp [h2]
 by_cases h3 : k = 1
 ·
  have HS := Chn.sized_yes (k := k) (n := n) (d := d) (by omega)
  have hb : Chn.bod ⟨k, n, d⟩ = n := by unfold Chn.bod; rw [HS.out]; subst h3; rfl
  rw [hb]
  subst h3
  clear hb
  go_enter Tryz.func125, Tryz.ntmps125
  go_wp2
  go_ret
  exact ⟨rfl, (Keeps.refl _ _).alloc _⟩
 have e3 : (k == 1) = false := by simp [h3]
 by_cases h4 : k = 2
 ·
  subst h4
  by_cases h5 : 1 ≤ d
  ·
   have e5 : decide (1 ≤ d) = true := by simp [h5]
   by_cases h6 : d ≤ 8
   ·
    have e6 : decide (d ≤ 8) = true := by simp [h6]
    have HS := Chn.sized_yes (k := 2) (n := n) (d := d) (by omega)
    have hp := Chn.plc_bd HS.out
    have hp2 : Chn.plc ⟨2, n, d⟩ = d * (1 + n) := rfl
    have hb : Chn.bod ⟨2, n, d⟩ = d * (1 + n) := by unfold Chn.bod; rw [HS.out]; rfl
    rw [hp2] at hp
    rw [hb]
    have q1 : IntKind.i64.wrap (1 + n) = 1 + n := by rw [IntKind.wrap_i64]; omega
    have q2 : IntKind.i64.wrap (d * (1 + n)) = d * (1 + n) := by rw [IntKind.wrap_i64]; omega
    clear hb hp2 hp
    go_enter Tryz.func125, Tryz.ntmps125
    go_wp2
    go_ret
    exact ⟨rfl, (Keeps.refl _ _).alloc _⟩
   ·
    have e6 : decide (d ≤ 8) = false := by simp [h6]
    have HS := Chn.sized_no (k := 2) (n := n) (d := d) (by omega)
    rw [HN.out HS.out]
    go_enter Tryz.func125, Tryz.ntmps125
    go_wp2
    go_ret
    exact ⟨rfl, (Keeps.refl _ _).alloc _⟩
  ·
   have e5 : decide (1 ≤ d) = false := by simp [h5]
   have HS := Chn.sized_no (k := 2) (n := n) (d := d) (by omega)
   rw [HN.out HS.out]
   go_enter Tryz.func125, Tryz.ntmps125
   go_wp2
   go_ret
   exact ⟨rfl, (Keeps.refl _ _).alloc _⟩
 ·
  have e4 : (k == 2) = false := by simp [h4]
  have HS := Chn.sized_no (k := k) (n := n) (d := d) (by omega)
  rw [HN.out HS.out]
  go_enter Tryz.func125, Tryz.ntmps125
  go_wp2
  go_ret
  exact ⟨rfl, (Keeps.refl _ _).alloc _⟩
theorem rStage_any (h : Chn) (w : World) : Calls Tryz.prog 113 #[h.v] w fun e w' => e = .returned (.int .i64 h.stgO) ∧ KF w w' := by
 obtain ⟨k, n, d⟩ := h
 have HC : Hid (∀ w, Calls Tryz.prog 125 #[Chn.v ⟨k, n, d⟩] w fun e w' => e = .returned (.int .i64 (Chn.bod ⟨k, n, d⟩)) ∧ KF w w') := body_any _
 obtain ⟨W, hW⟩ : ∃ W, W = w.alloc (.cells #[.int .i64 k, .int .i64 n, .int .i64 d] 48) := ⟨_, rfl⟩
 obtain ⟨C, hC⟩ : ∃ C, C = w.heap.size := ⟨_, rfl⟩
 have HW : Hid (KF w W ∧ Blk W C [.int .i64 k, .int .i64 n, .int .i64 d] 48) := by rw [hW, hC]; exact ⟨(Keeps.refl _ _).alloc _, Blk.new _ _ _⟩
 go_enter Tryz.func113, Tryz.ntmps113
 go_wp2_with fail
 rw [← hW, ← hC]
 clear hW hC
 refine (HC.out _).mono ?_
 rintro e w1 ⟨rfl, hK⟩
 have HK : Hid (KF w w1) := HW.out.1.trans hK fun _ _ h => h
 have c0 : w1.cell? ⟨C, 0, none⟩ = some (.int .i64 k) := (HW.out.2.kept hK fun h => h).cell rfl
 have c1 : w1.cell? ⟨C, 1, none⟩ = some (.int .i64 n) := (HW.out.2.kept hK fun h => h).cell rfl
 clear hK HC HW
 obtain ⟨b, hb⟩ : ∃ b, Chn.sized ⟨k, n, d⟩ = b := ⟨_, rfl⟩
 cases b with
 | false =>
  rw [Chn.bod_no hb]
  have H5 : Hid (Chn.stgO ⟨k, n, d⟩ = 0) := Chn.stgO_no hb
  clear hb
  go_wp2
  go_ret
  exact ⟨by rw [H5.out]; rfl, HK.out⟩
 | true =>
  have h2 := Chn.sized_iff.1 hb
  dsimp only at h2
  by_cases h4 : k = 2
  ·
   subst h4
   have h3 := Chn.bod_pos hb
   have h5 : Chn.stgO ⟨2, n, d⟩ = 1 + Chn.bod ⟨2, n, d⟩ := by unfold Chn.stgO Chn.bod Chn.stg; rw [hb]; rfl
   have H5 := Hid.mk' h5
   obtain ⟨B, hB⟩ : ∃ B, Chn.bod ⟨2, n, d⟩ = B := ⟨_, rfl⟩
   rw [hB] at h3 H5 ⊢
   have q1 : IntKind.i64.wrap (1 + B) = 1 + B := by rw [IntKind.wrap_i64]; omega
   have q2 : (B == 0) = false := by simp; omega
   clear hB h5 h3 h2 hb
   go_wp2
   go_ret
   exact ⟨by rw [H5.out]; rfl, HK.out⟩
  ·
   obtain rfl : k = 1 := by omega
   have h5 : Chn.stgO ⟨1, n, d⟩ = 2 + n := by unfold Chn.stgO Chn.stg; rw [hb]; show 1 + (1 + n) = 2 + n; omega
   have h6 : Chn.bod ⟨1, n, d⟩ = n := by unfold Chn.bod; rw [hb]; rfl
   have H5 := Hid.mk' h5
   rw [h6]
   have q1 : IntKind.i64.wrap (2 + n) = 2 + n := by rw [IntKind.wrap_i64]; omega
   have q2 : (n == 0) = false := by simp; omega
   clear h5 h6 hb h2
   go_wp2
   go_ret
   exact ⟨by rw [H5.out]; rfl, HK.out⟩
theorem rPort_any (h : Chn) (w : World) : Calls Tryz.prog 111 #[h.v] w fun e w' => e = .returned (.int .i64 h.prtO) ∧ KF w w' := by
 obtain ⟨k, n, d⟩ := h
 have HC : Hid (∀ w, Calls Tryz.prog 125 #[Chn.v ⟨k, n, d⟩] w fun e w' => e = .returned (.int .i64 (Chn.bod ⟨k, n, d⟩)) ∧ KF w w') := body_any _
 go_enter Tryz.func111, Tryz.ntmps111
 go_wp2_with fail
 refine (HC.out _).mono ?_
 rintro e w1 ⟨rfl, hK⟩
 have HK : Hid (KF w w1) := ((Keeps.refl _ w).alloc _).trans hK fun _ _ h => h
 clear hK HC
 obtain ⟨b, hb⟩ : ∃ b, Chn.sized ⟨k, n, d⟩ = b := ⟨_, rfl⟩
 cases b with
 | false =>
  rw [Chn.bod_no hb]
  have H5 : Hid (Chn.prtO ⟨k, n, d⟩ = 0) := Chn.prtO_no hb
  clear hb
  go_wp2
  go_ret
  exact ⟨by rw [H5.out]; rfl, HK.out⟩
 | true =>
  have h2 := Chn.sized_iff.1 hb
  dsimp only at h2
  have h3 := Chn.bod_pos hb
  have h5 : Chn.prtO ⟨k, n, d⟩ = 3 + Chn.bod ⟨k, n, d⟩ := by
   unfold Chn.prtO Chn.bod Chn.prt Chn.plc; rw [hb]; dsimp only [if_true]
   split <;> simp_all <;> omega
  have H5 := Hid.mk' h5
  obtain ⟨B, hB⟩ : ∃ B, Chn.bod ⟨k, n, d⟩ = B := ⟨_, rfl⟩
  rw [hB] at h3 H5 ⊢
  have q1 : IntKind.i64.wrap (3 + B) = 3 + B := by rw [IntKind.wrap_i64]; omega
  have q2 : (B == 0) = false := by simp; omega
  clear hB h5 h3 h2 hb
  go_wp2
  go_ret
  exact ⟨by rw [H5.out]; rfl, HK.out⟩
set_option maxHeartbeats 4000000 in
theorem rmayPartition_any (X : Par) (hh : Nat) (w : World) (N : Nat) (hi : X.In w N) (hN : N ≤ w.heap.size) :
  Calls Tryz.prog 110 #[X.v, .int .i64 hh] w fun e w' => e = .returned (.bool (X.mayB hh)) ∧ KF w w' := by
 obtain ⟨nm, en, ac, re, inp, ou, ra, rc, rs, pa, pc, ps⟩ := X
 obtain ⟨W, hW⟩ : ∃ W, W = Par.laid w ⟨nm, en, ac, re, inp, ou, ra, rc, rs, pa, pc, ps⟩ := ⟨_, rfl⟩
 obtain ⟨C, hC⟩ : ∃ C, C = w.heap.size := ⟨_, rfl⟩
 have HO : Hid (OneP w ⟨nm, en, ac, re, inp, ou, ra, rc, rs, pa, pc, ps⟩ C N W) := by rw [hW, hC]; exact OneP.mk' hi hN
 obtain ⟨R, hR⟩ : ∃ R, rs.length = R := ⟨_, rfl⟩
 obtain ⟨Q, hQ⟩ : ∃ Q, ps.length = Q := ⟨_, rfl⟩
 have HL : Hid (rs.length = R ∧ ps.length = Q) := ⟨hR, hQ⟩
 have hrc : (R : Int) ≤ rc ∧ (rc : Int) ≤ 9223372036854775807 := by have := hi.rlen; unfold maxLen at this; dsimp only at this; omega
 have hpc : (Q : Int) ≤ pc ∧ (pc : Int) ≤ 9223372036854775807 := by have := hi.plen; unfold maxLen at this; dsimp only at this; omega
 simp only [Par.v, Par.laid, hR, hQ] at hW ⊢
 have c6 : W.cell? ⟨C, 6, none⟩ = some (.slice ra R rc) := by have := HO.out.cfg.cell (i := 6) rfl; rw [← hR]; exact this
 have c7 : W.cell? ⟨C, 7, none⟩ = some (.slice pa Q pc) := by have := HO.out.cfg.cell (i := 7) rfl; rw [← hQ]; exact this
 clear hi hN hR hQ
 go_enter Tryz.func110, Tryz.ntmps110
 go_upto_region 1 with fail
 rw [← hW, ← hC]
 clear hW hC
 by_cases hr : 8 < R
 ·
  have e1 : decide (8 < (R : Int)) = true := by simp; omega
  have HM : Hid (Par.mayB hh ⟨nm, en, ac, re, inp, ou, ra, rc, rs, pa, pc, ps⟩ = false) := Par.mayB_no fun h => by have := h.1; dsimp only at this; have := HL.out.1; omega
  go_wp2
  go_ret
  exact ⟨by rw [HM.out]; rfl, HO.out.keeps⟩
 have e1 : decide (8 < (R : Int)) = false := by simp; omega
 by_cases hq : 8 < Q
 ·
  have e2 : decide (8 < (Q : Int)) = true := by simp; omega
  have HM : Hid (Par.mayB hh ⟨nm, en, ac, re, inp, ou, ra, rc, rs, pa, pc, ps⟩ = false) := Par.mayB_no fun h => by have := h.2.1; dsimp only at this; have := HL.out.2; omega
  go_wp2
  go_ret
  exact ⟨by rw [HM.out]; rfl, HO.out.keeps⟩
 have e2 : decide (8 < (Q : Int)) = false := by simp; omega
 go_wp2
 clear e1 e2
 go_loopw [21] (fun i wr => ∃ j : Nat, j ≤ R ∧ i = .int .i64 j ∧ (∀ r ∈ rs.take j, r.inB = true) ∧ OneP w ⟨nm, en, ac, re, inp, ou, ra, rc, rs, pa, pc, ps⟩ C N wr) (fun i _ => R - (intOf i).toNat)
 case atStart => exact ⟨0, by omega, rfl, by simp, HO.out⟩
 case round =>
  obtain ⟨j, hj, rfl, hall, hO⟩ := hrel
  clear c6 c7
  by_cases hlt : j < R
  ·
   obtain ⟨y, hy⟩ : ∃ y, rs[j]? = some y := ⟨_, List.getElem?_eq_getElem (by have := HL.out.1; omega)⟩
   have c6 : wr.cell? ⟨C, 6, none⟩ = some (.slice ra R rc) := by have := hO.cfg.cell (i := 6) rfl; rw [← HL.out.1]; exact this
   obtain ⟨g1, o1, e, hg1⟩ := hO.cin.rseg.at hy
   dsimp only at e
   subst e
   have y0 := hg1 0 _ rfl
   rw [Nat.add_zero] at y0
   have y1 := hg1 1 _ rfl
   have y2 := hg1 2 _ rfl
   have y3 := hg1 3 _ rfl
   have hfy := hO.cin.rfine y (List.mem_of_getElem? hy)
   have HK : Hid (OneP w ⟨nm, en, ac, re, inp, ou, some ⟨g1, o1, none⟩, rc, rs, pa, pc, ps⟩ C N wr ∧ (∀ r ∈ rs.take j, r.inB = true) ∧ rs[j]? = some y) := ⟨hO, hall, hy⟩
   obtain ⟨p, q, fr, t⟩ := y
   unfold Rgn.Fine at hfy
   dsimp only at hfy
   have no : ¬ (0 ≤ p ∧ 1 ≤ q ∧ q ≤ 256 ∧ p ≤ 256 - q) → Par.mayB hh ⟨nm, en, ac, re, inp, ou, some ⟨g1, o1, none⟩, rc, rs, pa, pc, ps⟩ = false := fun hn => (Par.mayB_no fun h => hn (Rgn.inB_iff.1 (h.2.2.1 _ (List.mem_of_getElem? HK.out.2.2)))).out
   clear hall hO hy hg1
   by_cases k1 : p < 0
   ·
    have f1 : decide (p < 0) = true := by simp [k1]
    have HM : Hid (_ = false) := no (by omega)
    clear no
    go_wp2
    go_ret
    exact ⟨by rw [HM.out]; rfl, HK.out.1.keeps.alloc _⟩
   have f1 : decide (p < 0) = false := by simp [k1]
   by_cases k2 : 256 < p
   ·
    have f2 : decide (256 < p) = true := by simp [k2]
    have HM : Hid (_ = false) := no (by omega)
    clear no
    go_wp2
    go_ret
    exact ⟨by rw [HM.out]; rfl, HK.out.1.keeps.alloc _⟩
   have f2 : decide (256 < p) = false := by simp [k2]
   by_cases k3 : q < 1
   ·
    have f3 : decide (q < 1) = true := by simp [k3]
    have HM : Hid (_ = false) := no (by omega)
    clear no
    go_wp2
    go_ret
    exact ⟨by rw [HM.out]; rfl, HK.out.1.keeps.alloc _⟩
   have f3 : decide (q < 1) = false := by simp [k3]
   have w1 : IntKind.i64.wrap (256 - p) = 256 - p := by rw [IntKind.wrap_i64]; omega
   by_cases k4 : 256 - p < q
   ·
    have f4 : decide (256 - p < q) = true := by simp [k4]
    have HM : Hid (_ = false) := no (by omega)
    clear no
    go_wp2
    go_ret
    exact ⟨by rw [HM.out]; rfl, HK.out.1.keeps.alloc _⟩
   have f4 : decide (256 - p < q) = false := by simp [k4]
   have HY := Rgn.inB_yes (p := p) (q := q) (fr := fr) (t := t) (by omega)
   clear no
   go_wp2
   go_roundw
   case rel => exact ⟨j + 1, by omega, by go_num, take_mem HK.out.2.2 HK.out.2.1 HY.out, HK.out.1.kept ((Keeps.refl _ _).alloc _)⟩
   case measure => simp [intOf]; omega
  ·
   obtain rfl : R = j := by omega
   rw [List.take_of_length_le (by have := HL.out.1; omega)] at hall
   have HR : Hid ((∀ r ∈ rs, r.inB = true) ∧ OneP w ⟨nm, en, ac, re, inp, ou, ra, rc, rs, pa, pc, ps⟩ C N wr) := ⟨hall, hO⟩
   have c7 : wr.cell? ⟨C, 7, none⟩ = some (.slice pa Q pc) := by have := HR.out.2.cfg.cell (i := 7) rfl; rw [← HL.out.2]; exact this
   clear hall hO HO
   go_wp2
   go_loopw [54] (fun i wr => ∃ j : Nat, j ≤ Q ∧ i = .int .i64 j ∧ (∀ y ∈ ps.take j, 0 ≤ y.ch ∧ y.ch < hh) ∧ OneP w ⟨nm, en, ac, re, inp, ou, ra, rc, rs, pa, pc, ps⟩ C N wr) (fun i _ => Q - (intOf i).toNat)
   case atStart => exact ⟨0, by omega, rfl, by simp, HR.out.2⟩
   case round =>
    obtain ⟨i, hi, rfl, hall, hO⟩ := hrel
    clear c7
    by_cases hlq : i < Q
    ·
     obtain ⟨y, hy⟩ : ∃ y, ps[i]? = some y := ⟨_, List.getElem?_eq_getElem (by have := HL.out.2; omega)⟩
     have c7 : wr.cell? ⟨C, 7, none⟩ = some (.slice pa Q pc) := by have := hO.cfg.cell (i := 7) rfl; rw [← HL.out.2]; exact this
     obtain ⟨g1, o1, e, hg1⟩ := hO.cin.pseg.at hy
     dsimp only at e
     subst e
     have y0 := hg1 0 _ rfl
     rw [Nat.add_zero] at y0
     have HK : Hid (OneP w ⟨nm, en, ac, re, inp, ou, ra, rc, rs, some ⟨g1, o1, none⟩, pc, ps⟩ C N wr ∧ (∀ y ∈ ps.take i, 0 ≤ y.ch ∧ y.ch < hh) ∧ ps[i]? = some y) := ⟨hO, hall, hy⟩
     clear hall hO hy hg1
     by_cases k1 : y.ch < 0
     ·
      have f1 : decide (y.ch < 0) = true := by simp [k1]
      have HM : Hid (Par.mayB hh ⟨nm, en, ac, re, inp, ou, ra, rc, rs, some ⟨g1, o1, none⟩, pc, ps⟩ = false) := Par.mayB_no fun h => by
       have := h.2.2.2 y (List.mem_of_getElem? HK.out.2.2); omega
      go_wp2
      go_ret
      exact ⟨by rw [HM.out]; rfl, HK.out.1.keeps⟩
     ·
      have f1 : decide (y.ch < 0) = false := by simp [k1]
      by_cases k2 : (hh : Int) ≤ y.ch
      ·
       have f2 : decide ((hh : Int) ≤ y.ch) = true := by simp [k2]
       have HM : Hid (Par.mayB hh ⟨nm, en, ac, re, inp, ou, ra, rc, rs, some ⟨g1, o1, none⟩, pc, ps⟩ = false) := Par.mayB_no fun h => by
        have := h.2.2.2 y (List.mem_of_getElem? HK.out.2.2); omega
       go_wp2
       go_ret
       exact ⟨by rw [HM.out]; rfl, HK.out.1.keeps⟩
      ·
       have f2 : decide ((hh : Int) ≤ y.ch) = false := by simp [k2]
       go_wp2
       go_roundw
       case rel => exact ⟨i + 1, by omega, by go_num, take_mem HK.out.2.2 HK.out.2.1 ⟨by omega, by omega⟩, HK.out.1⟩
       case measure => simp [intOf]; omega
    ·
     obtain rfl : Q = i := by omega
     rw [List.take_of_length_le (by have := HL.out.2; omega)] at hall
     have HM : Hid (Par.mayB hh ⟨nm, en, ac, re, inp, ou, ra, rc, rs, pa, pc, ps⟩ = true ∧ KF w wr) := ⟨Par.mayB_iff.2 ⟨by dsimp only; have := HL.out.1; omega, by dsimp only; have := HL.out.2; omega, HR.out.1, hall⟩, hO.keeps⟩
     clear hall hO
     go_wp2
     go_ret
     exact ⟨by rw [HM.out.1]; rfl, HM.out.2⟩
set_option maxHeartbeats 4000000 in
theorem rends_any (X : Par) (n : Int) (b : Bool) (p : Nat) (w : World) (N : Nat) (hi : X.In w N) (hN : N ≤ w.heap.size) (h8 : X.ps.length ≤ 8) :
  Calls Tryz.prog 112 #[X.v, .int .i64 n, .bool b] w fun e w' => e = .returned (.int .i64 (portsOf b n p X.ps X.ps.length).length) ∧ KF w w' := by
 obtain ⟨nm, en, ac, re, inp, ou, ra, rc, rs, pa, pc, ps⟩ := X
 obtain ⟨W, hW⟩ : ∃ W, W = Par.laid w ⟨nm, en, ac, re, inp, ou, ra, rc, rs, pa, pc, ps⟩ := ⟨_, rfl⟩
 obtain ⟨C, hC⟩ : ∃ C, C = w.heap.size := ⟨_, rfl⟩
 have HO : Hid (OneP w ⟨nm, en, ac, re, inp, ou, ra, rc, rs, pa, pc, ps⟩ C N W) := by rw [hW, hC]; exact OneP.mk' hi hN
 obtain ⟨Q, hQ⟩ : ∃ Q, ps.length = Q := ⟨_, rfl⟩
 have HL : Hid (ps.length = Q) := hQ
 have hpc : (Q : Int) ≤ pc ∧ (pc : Int) ≤ 9223372036854775807 := by have := hi.plen; unfold maxLen at this; dsimp only at this; omega
 have hq8 : Q ≤ 8 := by rw [← hQ]; exact h8
 simp only [Par.v, Par.laid, hQ] at hW ⊢
 have c7 : W.cell? ⟨C, 7, none⟩ = some (.slice pa Q pc) := by have := HO.out.cfg.cell (i := 7) rfl; rw [← hQ]; exact this
 clear hi hN hQ h8
 go_enter Tryz.func112, Tryz.ntmps112
 go_upto_region 1 with fail
 rw [← hW, ← hC]
 clear hW hC
 go_wp2
 go_loopw [7, 12] (fun u i wr => ∃ j : Nat, j ≤ Q ∧ i = .int .i64 j ∧ u = .int .i64 (portsOf b n p ps j).length ∧ OneP w ⟨nm, en, ac, re, inp, ou, ra, rc, rs, pa, pc, ps⟩ C N wr) (fun _ i _ => Q - (intOf i).toNat)
 case atStart => exact ⟨0, by omega, rfl, rfl, HO.out⟩
 case round =>
  obtain ⟨j, hj, rfl, rfl, hO⟩ := hrel
  clear c7
  by_cases hlt : j < Q
  ·
   obtain ⟨y, hy⟩ : ∃ y, ps[j]? = some y := ⟨_, List.getElem?_eq_getElem (by have := HL.out; omega)⟩
   have c7 : wr.cell? ⟨C, 7, none⟩ = some (.slice pa Q pc) := by have := hO.cfg.cell (i := 7) rfl; rw [← HL.out]; exact this
   obtain ⟨g1, o1, e, hg1⟩ := hO.cin.pseg.at hy
   dsimp only at e
   subst e
   have y0 := hg1 0 _ rfl
   rw [Nat.add_zero] at y0
   have y1 := hg1 1 _ rfl
   have HK : Hid (OneP w ⟨nm, en, ac, re, inp, ou, ra, rc, rs, some ⟨g1, o1, none⟩, pc, ps⟩ C N wr ∧ ps[j]? = some y) := ⟨hO, hy⟩
   have hln := portsOf_len b n p ps j
   obtain ⟨M, hM⟩ : ∃ M, (portsOf b n p ps j).length = M := ⟨_, rfl⟩
   have HM : Hid ((portsOf b n p ps j).length = M) := hM
   rw [hM] at hln ⊢
   have w1 : IntKind.i64.wrap ((M : Int) + 1) = (M : Int) + 1 := by rw [IntKind.wrap_i64]; omega
   clear hO hy hg1 hM hln
   obtain ⟨ch, sr⟩ := y
   dsimp only at y0 y1
   by_cases hc : ch = n
   ·
    subst hc
    by_cases hb : sr = b
    ·
     subst hb
     have HP := portsOf_yes (p := p) HK.out.2 rfl rfl
     have HP : Hid (_ = _) := HP
     cases sr
     all_goals
      go_wp2
      go_roundw
      case rel => exact ⟨j + 1, by omega, by go_num, by rw [HP.out, List.length_append, HM.out]; rfl, HK.out.1⟩
      case measure => simp [intOf]; omega
    ·
     have HP : Hid (_ = _) := portsOf_no (p := p) (n := ch) (b := b) HK.out.2 (fun h => hb h.2)
     cases sr <;> cases b
     all_goals first | (exact (hb rfl).elim) | skip
     all_goals
      clear hb
      go_wp2
      go_roundw
      case rel => exact ⟨j + 1, by omega, by go_num, by rw [HP.out, HM.out], HK.out.1⟩
      case measure => simp [intOf]; omega
   ·
    have HP : Hid (_ = _) := portsOf_no (p := p) (n := n) (b := b) HK.out.2 (fun h => hc h.1)
    have e1 : (ch == n) = false := by simp [hc]
    clear hc
    go_wp2
    go_roundw
    case rel => exact ⟨j + 1, by omega, by go_num, by rw [HP.out, HM.out], HK.out.1⟩
    case measure => simp [intOf]; omega
  ·
   obtain rfl : Q = j := by omega
   have HK : Hid (OneP w ⟨nm, en, ac, re, inp, ou, ra, rc, rs, pa, pc, ps⟩ C N wr) := hO
   clear hO
   go_wp2
   go_ret
   exact ⟨rfl, HK.out.keeps⟩
end Go.Proofs.YtlnmlbkeemahcaaGreat
