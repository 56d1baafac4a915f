import Derived.Test.YtjadpbkhfclldaaGreatJFa
namespace Go.Proofs.YtjadpbkhfclldaaGreat
open Go.RowKit
set_option linter.unusedVariables false
set_option maxRecDepth 6000
set_option linter.unusedSimpArgs false

/-- A row that grows, and a block beside it. -/
structure PS (W : World) (u : Value) (C : Nat) (cells : List Value) (t : TypeId) (wk : World) (uk : Value) (ys : List UInt8) : Prop where
  br : BR wk uk ys
  gr : Grw W u wk uk
  bx : Blk wk C cells t
  nb : uk.ownBlock ≠ some C
theorem PS.step {W wk w' : World} {u uk u' : Value} {C : Nat} {cells : List Value} {t : TypeId} {ys zs : List UInt8} (h : PS W u C cells t wk uk ys) (hb : BR w' u' zs) (hg : Grw wk uk w' u') : PS W u C cells t w' u' zs :=
  ⟨hb, h.gr.trans hg, h.bx.kept hg.kp fun e => h.nb e.symm, hg.box h.bx.lt h.nb⟩
theorem PS.cong {W wk : World} {u uk : Value} {C : Nat} {cells : List Value} {t : TypeId} {ys zs : List UInt8} (h : PS W u C cells t wk uk ys) (e : ys = zs) : PS W u C cells t wk uk zs := e ▸ h
theorem wN_nat {n : Nat} (h : n ≤ 255) : wN (n : Int) = false := by simp [wN]; omega
theorem any_mem {α : Type} {d : α → Bool} {l : List α} (h : l.any d = false) {x : α} (hx : x ∈ l) : d x = false := by
  cases hd : d x
  · rfl
  · rw [List.any_eq_true.2 ⟨x, hx, hd⟩] at h; cases h
theorem wNs_mem {ns : List Int} (h : wNs ns = false) {n : Int} (hn : n ∈ ns) : wN n = false := any_mem h hn

set_option maxHeartbeats 8000000 in
theorem fpartition_any (u : Value) (xs : List UInt8) (x : Par) (w : World) (N : Nat) (h : BR w u xs) (hN : N ≤ w.heap.size) (hu : ∀ k, u.ownBlock = some k → N ≤ k) (hi : x.In w N) (hd : x.pure.d = false) (hx : xs.length + 10000 ≤ 140737488355328) :
    Calls Tryz.prog 36 #[u, x.v] w fun e w' => ∃ u', e = .returned u' ∧ BR w' u' (xs ++ x.pure.e) ∧ Grw w u w' u' := by
  obtain ⟨s, n1, n2, n3, n4, n5, ra, rc, rs, pa, pc, ps⟩ := x
  have hdd : (nameW s || (wNs [n1, n2, n3, n4, n5] || (listW Rgn.d rs || listW Prt.d ps))) = false := hd
  simp only [Bool.or_eq_false_iff] at hdd
  obtain ⟨k1, k2, k3, k4⟩ := hdd
  have hs255 : s.size ≤ 255 := by unfold nameW at k1; simpa using k1
  unfold listW at k3 k4
  rw [Bool.or_eq_false_iff] at k3 k4
  obtain ⟨L1, hL1⟩ : ∃ L, rs.length = L := ⟨_, rfl⟩
  obtain ⟨L2, hL2⟩ : ∃ L, ps.length = L := ⟨_, rfl⟩
  have l1 : L1 ≤ 255 := by rw [← hL1]; simpa using k3.1
  have l2 : L2 ≤ 255 := by rw [← hL2]; simpa using k4.1
  have hE : (Par.pure ⟨s, n1, n2, n3, n4, n5, ra, rc, rs, pa, pc, ps⟩).e = nb s.size ++ s.data.toList ++ nb n1 ++ nb n2 ++ nb n3 ++ nb n4 ++ nb n5 ++ lowB 1 L1 ++ rs.flatMap Rgn.e ++ lowB 1 L2 ++ ps.flatMap Prt.e := by
    show nameBy s ++ (nbs [n1, n2, n3, n4, n5] ++ (listB Rgn.e rs ++ listB Prt.e ps)) = _
    have e1 : nameBy s = nb s.size ++ s.data.toList := by
      unfold nameBy; rw [if_neg (by omega)]; unfold nb; congr 2; omega
    have e2 : listB Rgn.e rs = lowB 1 L1 ++ rs.flatMap Rgn.e := by unfold listB; rw [if_neg (by omega), hL1]
    have e3 : listB Prt.e ps = lowB 1 L2 ++ ps.flatMap Prt.e := by unfold listB; rw [if_neg (by omega), hL2]
    rw [e1, e2, e3]
    simp only [nbs, List.flatMap_cons, List.flatMap_nil, List.append_nil, List.append_assoc]
  have hr := hi.rlen
  have hp := hi.plen
  simp only [hL1, hL2] at hr hp
  simp only [Par.v, hL1, hL2]
  have d1 : (L1 : Int) ≤ rc := by omega
  have d2 : (L2 : Int) ≤ pc := by omega
  have d3 : (rc : Int) ≤ 9223372036854775807 := by unfold maxLen at hr; omega
  have d4 : (pc : Int) ≤ 9223372036854775807 := by unfold maxLen at hp; omega
  obtain ⟨C, hC⟩ : ∃ C, C = w.heap.size := ⟨_, rfl⟩
  obtain ⟨W, hWd⟩ : ∃ W, W = w.alloc (.cells #[.string s, .int .i64 n1, .int .i64 n2, .int .i64 n3, .int .i64 n4, .int .i64 n5, .slice ra L1 rc, .slice pa L2 pc] 47) := ⟨_, rfl⟩
  have hKW : Keeps (fun _ => False) w W := by rw [hWd]; exact (Keeps.refl _ w).alloc _
  have HA : Hid (Keeps (fun _ => False) w W ∧ N ≤ W.heap.size ∧ (∀ k, u.ownBlock = some k → N ≤ k) ∧ (⟨s, n1, n2, n3, n4, n5, ra, rc, rs, pa, pc, ps⟩ : Par).In W N ∧ rs.length = L1 ∧ ps.length = L2) := ⟨hKW, Nat.le_trans hN hKW.size, hu, hi.below (hKW.below hN fun _ e => e.elim), hL1, hL2⟩
  have HD : Hid (wNs [n1, n2, n3, n4, n5] = false ∧ rs.any Rgn.d = false ∧ ps.any Prt.d = false) := ⟨k2, k3.2, k4.2⟩
  have HEE : Hid ((Par.pure ⟨s, n1, n2, n3, n4, n5, ra, rc, rs, pa, pc, ps⟩).e = nb s.size ++ s.data.toList ++ nb n1 ++ nb n2 ++ nb n3 ++ nb n4 ++ nb n5 ++ lowB 1 L1 ++ rs.flatMap Rgn.e ++ lowB 1 L2 ++ ps.flatMap Prt.e) := hE
  have hnC : u.ownBlock ≠ some C := by
    rcases h.2 with ⟨e, _⟩ | ⟨g, cap, cur, e, _, hg, _⟩
    · rw [e]; intro e'; cases e'
    · rw [e]; intro e'; have e2 : g = C := Option.some.inj e'; have := (Array.getElem?_eq_some_iff.1 hg).1; omega
  have HP0 : Hid (PS W u C [.string s, .int .i64 n1, .int .i64 n2, .int .i64 n3, .int .i64 n4, .int .i64 n5, .slice ra L1 rc, .slice pa L2 pc] 47 W u xs) := ⟨h.kept hKW fun _ _ e => e, Grw.refl _ _, by rw [hWd, hC]; exact Blk.new w _ _, hnC⟩
  have hsN : wN (s.size : Int) = false := wN_nat hs255
  have HsN : Hid (wN (s.size : Int) = false) := hsN
  obtain ⟨SL, hSL⟩ : ∃ SL, s.size = SL := ⟨_, rfl⟩
  have HSL : Hid (s.size = SL) := hSL
  have hSLb : (SL : Int) ≤ 255 := by omega
  have hXL : Hid (s.data.toList.length ≤ 255) := hs255
  clear h hN hu hi hd k1 k2 k3 k4 hL1 hL2 hE hr hp hKW hnC hsN
  go_enter Tryz.func36, Tryz.ntmps36
  go_wp2_with fail
  rw [← hWd, ← hC]
  clear hWd hC
  have HsN2 : Hid (wN (SL : Int) = false) := by rw [← HSL.out]; exact HsN.out
  clear hSL
  refine (fnumber_any u (xs) SL W HP0.out.br HsN2.out (by (try simp only [List.length_append, nb_length, lowB_len]); have := hXL.out; omega)).mono ?_
  rintro e w1 ⟨u1, rfl, hbr, hgr⟩
  have HP1 : Hid (PS W u C [.string s, .int .i64 n1, .int .i64 n2, .int .i64 n3, .int .i64 n4, .int .i64 n5, .slice ra L1 rc, .slice pa L2 pc] 47 w1 u1 (xs ++ nb SL)) := HP0.out.step hbr hgr
  have c1_0 := HP1.out.bx.cell (i := 0) rfl
  clear hbr hgr HP0
  have hapt := append_text u1 _ (xs ++ nb SL) HP1.out.br s (by simp only [List.length_append, nb_length]; have := hXL.out; have : s.data.toList.length = s.size := rfl; omega)
  obtain ⟨u2, w2, happ, hbr0, hgr1, hgr2⟩ := hapt
  have hbr : BR w2 u2 (xs ++ nb SL ++ s.data.toList) := by
    show World.ownsRow _ _ _ _ _ (xs ++ nb SL ++ s.data.toList).length _
    rw [List.length_append]; exact hbr0
  have HAP : Hid (∀ ty, (Builtin.append_ #[28, 9] ty #[u1, .string s]).run Tryz.prog w1 = .ok u2 w2) := happ
  have HP2 : Hid (PS W u C [.string s, .int .i64 n1, .int .i64 n2, .int .i64 n3, .int .i64 n4, .int .i64 n5, .slice ra L1 rc, .slice pa L2 pc] 47 w2 u2 (xs ++ nb SL ++ s.data.toList)) := HP1.out.step hbr ⟨hgr1, hgr2⟩
  clear happ hbr hbr0 hgr1 hgr2
  go_wp2_with (at_builtin; go_must (refine wpList_append_run rfl (.tmp 13) (.tmp 15) 28 9 rfl u1 (.string s) u2 w2 rfl rfl HAP.out ?_; refine Hid.out ?_))
  unfold Hid
  have c2_1 := HP2.out.bx.cell (i := 1) rfl
  clear HAP HP1 c1_0
  go_wp2_with fail
  refine (fnumber_any u2 (xs ++ nb SL ++ s.data.toList) n1 w2 HP2.out.br (wNs_mem HD.out.1 (by simp)) (by (try simp only [List.length_append, nb_length, lowB_len]); have := hXL.out; omega)).mono ?_
  rintro e w3 ⟨u3, rfl, hbr, hgr⟩
  have HP3 : Hid (PS W u C [.string s, .int .i64 n1, .int .i64 n2, .int .i64 n3, .int .i64 n4, .int .i64 n5, .slice ra L1 rc, .slice pa L2 pc] 47 w3 u3 (xs ++ nb SL ++ s.data.toList ++ nb n1)) := HP2.out.step hbr hgr
  have c3_2 := HP3.out.bx.cell (i := 2) rfl
  clear hbr hgr HP2 c2_1
  go_wp2_with fail
  refine (fnumber_any u3 (xs ++ nb SL ++ s.data.toList ++ nb n1) n2 w3 HP3.out.br (wNs_mem HD.out.1 (by simp)) (by (try simp only [List.length_append, nb_length, lowB_len]); have := hXL.out; omega)).mono ?_
  rintro e w4 ⟨u4, rfl, hbr, hgr⟩
  have HP4 : Hid (PS W u C [.string s, .int .i64 n1, .int .i64 n2, .int .i64 n3, .int .i64 n4, .int .i64 n5, .slice ra L1 rc, .slice pa L2 pc] 47 w4 u4 (xs ++ nb SL ++ s.data.toList ++ nb n1 ++ nb n2)) := HP3.out.step hbr hgr
  have c4_3 := HP4.out.bx.cell (i := 3) rfl
  clear hbr hgr HP3 c3_2
  go_wp2_with fail
  refine (fnumber_any u4 (xs ++ nb SL ++ s.data.toList ++ nb n1 ++ nb n2) n3 w4 HP4.out.br (wNs_mem HD.out.1 (by simp)) (by (try simp only [List.length_append, nb_length, lowB_len]); have := hXL.out; omega)).mono ?_
  rintro e w5 ⟨u5, rfl, hbr, hgr⟩
  have HP5 : Hid (PS W u C [.string s, .int .i64 n1, .int .i64 n2, .int .i64 n3, .int .i64 n4, .int .i64 n5, .slice ra L1 rc, .slice pa L2 pc] 47 w5 u5 (xs ++ nb SL ++ s.data.toList ++ nb n1 ++ nb n2 ++ nb n3)) := HP4.out.step hbr hgr
  have c5_4 := HP5.out.bx.cell (i := 4) rfl
  clear hbr hgr HP4 c4_3
  go_wp2_with fail
  refine (fnumber_any u5 (xs ++ nb SL ++ s.data.toList ++ nb n1 ++ nb n2 ++ nb n3) n4 w5 HP5.out.br (wNs_mem HD.out.1 (by simp)) (by (try simp only [List.length_append, nb_length, lowB_len]); have := hXL.out; omega)).mono ?_
  rintro e w6 ⟨u6, rfl, hbr, hgr⟩
  have HP6 : Hid (PS W u C [.string s, .int .i64 n1, .int .i64 n2, .int .i64 n3, .int .i64 n4, .int .i64 n5, .slice ra L1 rc, .slice pa L2 pc] 47 w6 u6 (xs ++ nb SL ++ s.data.toList ++ nb n1 ++ nb n2 ++ nb n3 ++ nb n4)) := HP5.out.step hbr hgr
  have c6_5 := HP6.out.bx.cell (i := 5) rfl
  clear hbr hgr HP5 c5_4
  go_wp2_with fail
  refine (fnumber_any u6 (xs ++ nb SL ++ s.data.toList ++ nb n1 ++ nb n2 ++ nb n3 ++ nb n4) n5 w6 HP6.out.br (wNs_mem HD.out.1 (by simp)) (by (try simp only [List.length_append, nb_length, lowB_len]); have := hXL.out; omega)).mono ?_
  rintro e w7 ⟨u7, rfl, hbr, hgr⟩
  have HP7 : Hid (PS W u C [.string s, .int .i64 n1, .int .i64 n2, .int .i64 n3, .int .i64 n4, .int .i64 n5, .slice ra L1 rc, .slice pa L2 pc] 47 w7 u7 (xs ++ nb SL ++ s.data.toList ++ nb n1 ++ nb n2 ++ nb n3 ++ nb n4 ++ nb n5)) := HP6.out.step hbr hgr
  have c7_6 := HP7.out.bx.cell (i := 6) rfl
  clear hbr hgr HP6 c6_5
  have hcv1 : IntKind.u8.wrap (L1 : Int) = L1 := by rw [IntKind.wrap_u8']; omega
  obtain ⟨u8, w8, happ, hbr, hgr⟩ := append_byte u7 (xs ++ nb SL ++ s.data.toList ++ nb n1 ++ nb n2 ++ nb n3 ++ nb n4 ++ nb n5) L1 (by omega) HP7.out.br (by (try simp only [List.length_append, nb_length, lowB_len]); have := hXL.out; omega)
  have HAP : Hid (∀ ty, (Builtin.append_ #[28, 28] ty #[u7, .slice (some ⟨w7.heap.size, 0, none⟩) 1 1]).run Tryz.prog (w7.alloc (.cells #[.int .u8 ((L1 : Nat) : Int)] 5)) = .ok u8 w8) := happ
  have HP8 : Hid (PS W u C [.string s, .int .i64 n1, .int .i64 n2, .int .i64 n3, .int .i64 n4, .int .i64 n5, .slice ra L1 rc, .slice pa L2 pc] 47 w8 u8 (xs ++ nb SL ++ s.data.toList ++ nb n1 ++ nb n2 ++ nb n3 ++ nb n4 ++ nb n5 ++ lowB 1 L1)) := HP7.out.step hbr hgr
  clear happ hbr hgr
  go_wp2_with (at_builtin; go_must (refine wpList_append_run rfl (.tmp 37) (.tmp 42) 28 28 rfl u7 (.slice (some ⟨w7.heap.size, 0, none⟩) 1 1) u8 w8 rfl rfl HAP.out ?_; refine Hid.out ?_))
  unfold Hid
  have c8_6 := HP8.out.bx.cell (i := 6) rfl
  clear HAP HP7 c7_6
  go_wp2
  go_loopw [0, 47] (fun b i wr => ∃ j : Nat, j ≤ L1 ∧ i = .int .i64 j ∧ PS W u C [.string s, .int .i64 n1, .int .i64 n2, .int .i64 n3, .int .i64 n4, .int .i64 n5, .slice ra L1 rc, .slice pa L2 pc] 47 wr b (xs ++ nb SL ++ s.data.toList ++ nb n1 ++ nb n2 ++ nb n3 ++ nb n4 ++ nb n5 ++ lowB 1 L1 ++ (rs.take j).flatMap Rgn.e)) (fun _ i _ => L1 - (intOf i).toNat)
  case atStart => exact ⟨0, by omega, rfl, HP8.out.cong (by simp)⟩
  case round =>
    clear c8_6
    obtain ⟨j, hj, rfl, hP⟩ := hrel
    have b1 := hP.bx.cell (i := 6) rfl
    by_cases hlt : j < L1
    · obtain ⟨y, hy⟩ : ∃ y, rs[j]? = some y := ⟨_, List.getElem?_eq_getElem (by have := HA.out.2.2.2.2; omega)⟩
      obtain ⟨g, o, ha, _⟩ := HA.out.2.2.2.1.rseg.at hy
      simp only at ha
      have HHa : Hid (_ = some (⟨g, o, none⟩ : Addr)) := ha
      clear ha
      rw [HHa.out] at b1
      have HRg : Hid (∀ wk uk ys, PS W u C [.string s, .int .i64 n1, .int .i64 n2, .int .i64 n3, .int .i64 n4, .int .i64 n5, .slice ra L1 rc, .slice pa L2 pc] 47 wk uk (ys) → ∀ i v, (Rgn.vs y)[i]? = some v → wk.cell? ⟨g, o + j * 4 + i, none⟩ = some v) := by
        intro wk uk ys hPk i v hv
        obtain ⟨g', o', ha', hg'⟩ := (HA.out.2.2.2.1.below (hPk.gr.below HA.out.2.1 HA.out.2.2.1)).rseg.at hy
        rw [HHa.out] at ha'
        cases ha'
        exact hg' i v hv
      have HYd : Hid (Rgn.d y = false ∧ (rs.take (j + 1)).flatMap Rgn.e = (rs.take j).flatMap Rgn.e ++ Rgn.e y) := ⟨any_mem HD.out.2.1 (List.mem_of_getElem? hy), take_get Rgn.e rs j y hy⟩
      have HLN : Hid (((rs.take j).flatMap Rgn.e).length ≤ 4080) := by
        have h1 := flat_le Rgn.e 16 (fun x => Nat.le_trans (Rgn.e_le x) (by decide)) (rs.take j)
        have h2 : (rs.take j).length ≤ j := List.length_take_le _ _
        have h3 : (rs.take j).length * 16 ≤ 255 * 16 := Nat.mul_le_mul_right _ (by omega)
        show ((rs.take j).flatMap Rgn.e).length ≤ 4080
        omega
      have HQ0 : Hid (PS W u C [.string s, .int .i64 n1, .int .i64 n2, .int .i64 n3, .int .i64 n4, .int .i64 n5, .slice ra L1 rc, .slice pa L2 pc] 47 wr u0 (xs ++ nb SL ++ s.data.toList ++ nb n1 ++ nb n2 ++ nb n3 ++ nb n4 ++ nb n5 ++ lowB 1 L1 ++ (rs.take j).flatMap Rgn.e)) := hP
      clear hy hP
      obtain ⟨f1, f2, f3, f4⟩ := y
      have yc := HRg.out _ _ _ HQ0.out 0 _ rfl
      rw [Nat.add_zero] at yc
      go_wp2_with fail
      refine (fnumber_any u0 (xs ++ nb SL ++ s.data.toList ++ nb n1 ++ nb n2 ++ nb n3 ++ nb n4 ++ nb n5 ++ lowB 1 L1 ++ (rs.take j).flatMap Rgn.e) f1 wr HQ0.out.br (wNs_mem HYd.out.1 (by simp [Rgn.ns])) (by (try simp only [List.length_append, nb_length, lowB_len]); have := hXL.out; have := HLN.out; (try have := HLR.out); omega)).mono ?_
      rintro e v1 ⟨q1, rfl, hbr, hgr⟩
      have HQ1 : Hid (PS W u C [.string s, .int .i64 n1, .int .i64 n2, .int .i64 n3, .int .i64 n4, .int .i64 n5, .slice ra L1 rc, .slice pa L2 pc] 47 v1 q1 (xs ++ nb SL ++ s.data.toList ++ nb n1 ++ nb n2 ++ nb n3 ++ nb n4 ++ nb n5 ++ lowB 1 L1 ++ (rs.take j).flatMap Rgn.e ++ nb f1)) := HQ0.out.step hbr hgr
      clear hbr hgr yc b1 HQ0
      have yc := HRg.out _ _ _ HQ1.out 1 _ rfl
      have b1 := HQ1.out.bx.cell (i := 6) rfl
      rw [HHa.out] at b1
      go_wp2_with fail
      refine (fnumber_any q1 (xs ++ nb SL ++ s.data.toList ++ nb n1 ++ nb n2 ++ nb n3 ++ nb n4 ++ nb n5 ++ lowB 1 L1 ++ (rs.take j).flatMap Rgn.e ++ nb f1) f2 v1 HQ1.out.br (wNs_mem HYd.out.1 (by simp [Rgn.ns])) (by (try simp only [List.length_append, nb_length, lowB_len]); have := hXL.out; have := HLN.out; (try have := HLR.out); omega)).mono ?_
      rintro e v2 ⟨q2, rfl, hbr, hgr⟩
      have HQ2 : Hid (PS W u C [.string s, .int .i64 n1, .int .i64 n2, .int .i64 n3, .int .i64 n4, .int .i64 n5, .slice ra L1 rc, .slice pa L2 pc] 47 v2 q2 (xs ++ nb SL ++ s.data.toList ++ nb n1 ++ nb n2 ++ nb n3 ++ nb n4 ++ nb n5 ++ lowB 1 L1 ++ (rs.take j).flatMap Rgn.e ++ nb f1 ++ nb f2)) := HQ1.out.step hbr hgr
      clear hbr hgr yc b1 HQ1
      have yc := HRg.out _ _ _ HQ2.out 2 _ rfl
      have b1 := HQ2.out.bx.cell (i := 6) rfl
      rw [HHa.out] at b1
      go_wp2_with fail
      refine (fnumber_any q2 (xs ++ nb SL ++ s.data.toList ++ nb n1 ++ nb n2 ++ nb n3 ++ nb n4 ++ nb n5 ++ lowB 1 L1 ++ (rs.take j).flatMap Rgn.e ++ nb f1 ++ nb f2) f3 v2 HQ2.out.br (wNs_mem HYd.out.1 (by simp [Rgn.ns])) (by (try simp only [List.length_append, nb_length, lowB_len]); have := hXL.out; have := HLN.out; (try have := HLR.out); omega)).mono ?_
      rintro e v3 ⟨q3, rfl, hbr, hgr⟩
      have HQ3 : Hid (PS W u C [.string s, .int .i64 n1, .int .i64 n2, .int .i64 n3, .int .i64 n4, .int .i64 n5, .slice ra L1 rc, .slice pa L2 pc] 47 v3 q3 (xs ++ nb SL ++ s.data.toList ++ nb n1 ++ nb n2 ++ nb n3 ++ nb n4 ++ nb n5 ++ lowB 1 L1 ++ (rs.take j).flatMap Rgn.e ++ nb f1 ++ nb f2 ++ nb f3)) := HQ2.out.step hbr hgr
      clear hbr hgr yc b1 HQ2
      have yc := HRg.out _ _ _ HQ3.out 3 _ rfl
      have b1 := HQ3.out.bx.cell (i := 6) rfl
      rw [HHa.out] at b1
      go_wp2_with fail
      refine (fnumber_any q3 (xs ++ nb SL ++ s.data.toList ++ nb n1 ++ nb n2 ++ nb n3 ++ nb n4 ++ nb n5 ++ lowB 1 L1 ++ (rs.take j).flatMap Rgn.e ++ nb f1 ++ nb f2 ++ nb f3) f4 v3 HQ3.out.br (wNs_mem HYd.out.1 (by simp [Rgn.ns])) (by (try simp only [List.length_append, nb_length, lowB_len]); have := hXL.out; have := HLN.out; (try have := HLR.out); omega)).mono ?_
      rintro e v4 ⟨q4, rfl, hbr, hgr⟩
      have HQ4 : Hid (PS W u C [.string s, .int .i64 n1, .int .i64 n2, .int .i64 n3, .int .i64 n4, .int .i64 n5, .slice ra L1 rc, .slice pa L2 pc] 47 v4 q4 (xs ++ nb SL ++ s.data.toList ++ nb n1 ++ nb n2 ++ nb n3 ++ nb n4 ++ nb n5 ++ lowB 1 L1 ++ (rs.take j).flatMap Rgn.e ++ nb f1 ++ nb f2 ++ nb f3 ++ nb f4)) := HQ3.out.step hbr hgr
      clear hbr hgr yc b1 HQ3
      have HR : Hid (PS W u C [.string s, .int .i64 n1, .int .i64 n2, .int .i64 n3, .int .i64 n4, .int .i64 n5, .slice ra L1 rc, .slice pa L2 pc] 47 v4 q4 (xs ++ nb SL ++ s.data.toList ++ nb n1 ++ nb n2 ++ nb n3 ++ nb n4 ++ nb n5 ++ lowB 1 L1 ++ (rs.take (j + 1)).flatMap Rgn.e)) := HQ4.out.cong (by rw [HYd.out.2]; simp only [Rgn.e, Rgn.ns, nbs, List.flatMap_cons, List.flatMap_nil, List.append_nil, List.append_assoc])
      clear HQ4 HYd HRg HLN
      go_wp2
      go_roundw
      case rel => exact ⟨j + 1, by omega, by go_num, HR.out⟩
      case measure => simp [intOf]; omega
    · have hjL : L1 = j := by omega
      subst hjL
      have HZ : Hid (PS W u C [.string s, .int .i64 n1, .int .i64 n2, .int .i64 n3, .int .i64 n4, .int .i64 n5, .slice ra L1 rc, .slice pa L2 pc] 47 wr u0 (xs ++ nb SL ++ s.data.toList ++ nb n1 ++ nb n2 ++ nb n3 ++ nb n4 ++ nb n5 ++ lowB 1 L1 ++ rs.flatMap Rgn.e)) := by
        rw [List.take_of_length_le (by have := HA.out.2.2.2.2; omega)] at hP; exact hP
      clear hP b1
      have HXX : Hid (PS W u C [.string s, .int .i64 n1, .int .i64 n2, .int .i64 n3, .int .i64 n4, .int .i64 n5, .slice ra L1 rc, .slice pa L2 pc] 47 wr u0 (xs ++ nb SL ++ s.data.toList ++ nb n1 ++ nb n2 ++ nb n3 ++ nb n4 ++ nb n5 ++ lowB 1 L1 ++ rs.flatMap Rgn.e)) := HZ.out
      have cX := HXX.out.bx.cell (i := 7) rfl
      have HLN : Hid ((rs.flatMap Rgn.e).length ≤ 4080) := by
        have h1 := flat_le Rgn.e 16 Rgn.e_le rs
        have h3 : rs.length * 16 ≤ 255 * 16 := Nat.mul_le_mul_right _ (by have := HA.out.2.2.2.2; omega)
        show (rs.flatMap Rgn.e).length ≤ 4080
        omega
      have hcv2 : IntKind.u8.wrap (L2 : Int) = L2 := by rw [IntKind.wrap_u8']; omega
      obtain ⟨uX, wX, happ, hbr, hgr⟩ := append_byte u0 (xs ++ nb SL ++ s.data.toList ++ nb n1 ++ nb n2 ++ nb n3 ++ nb n4 ++ nb n5 ++ lowB 1 L1 ++ rs.flatMap Rgn.e) L2 (by omega) HXX.out.br (by (try simp only [List.length_append, nb_length, lowB_len]); have := hXL.out; have := HLN.out; (try have := HLR.out); omega)
      have HAP : Hid (∀ ty, (Builtin.append_ #[28, 28] ty #[u0, .slice (some ⟨wr.heap.size, 0, none⟩) 1 1]).run Tryz.prog (wr.alloc (.cells #[.int .u8 ((L2 : Nat) : Int)] 5)) = .ok uX wX) := happ
      have HX2 : Hid (PS W u C [.string s, .int .i64 n1, .int .i64 n2, .int .i64 n3, .int .i64 n4, .int .i64 n5, .slice ra L1 rc, .slice pa L2 pc] 47 wX uX (xs ++ nb SL ++ s.data.toList ++ nb n1 ++ nb n2 ++ nb n3 ++ nb n4 ++ nb n5 ++ lowB 1 L1 ++ rs.flatMap Rgn.e ++ lowB 1 L2)) := HXX.out.step hbr hgr
      clear happ hbr hgr HZ
      go_wp2_with (at_builtin; go_must (refine wpList_append_run rfl (.tmp 83) (.tmp 88) 28 28 rfl u0 (.slice (some ⟨wr.heap.size, 0, none⟩) 1 1) uX wX rfl rfl HAP.out ?_; refine Hid.out ?_))
      unfold Hid
      have cX2 := HX2.out.bx.cell (i := 7) rfl
      have HLR : Hid ((rs.flatMap Rgn.e).length ≤ 4080) := HLN.out
      clear HAP HXX cX hcv2 HLN
      go_wp2
      go_loopw [0, 93] (fun b i wr => ∃ j : Nat, j ≤ L2 ∧ i = .int .i64 j ∧ PS W u C [.string s, .int .i64 n1, .int .i64 n2, .int .i64 n3, .int .i64 n4, .int .i64 n5, .slice ra L1 rc, .slice pa L2 pc] 47 wr b (xs ++ nb SL ++ s.data.toList ++ nb n1 ++ nb n2 ++ nb n3 ++ nb n4 ++ nb n5 ++ lowB 1 L1 ++ rs.flatMap Rgn.e ++ lowB 1 L2 ++ (ps.take j).flatMap Prt.e)) (fun _ i _ => L2 - (intOf i).toNat)
      case atStart => exact ⟨0, by omega, rfl, HX2.out.cong (by simp)⟩
      case round =>
        clear cX2
        obtain ⟨j, hj, rfl, hP⟩ := hrel
        have b1 := hP.bx.cell (i := 7) rfl
        by_cases hlt : j < L2
        · obtain ⟨y, hy⟩ : ∃ y, ps[j]? = some y := ⟨_, List.getElem?_eq_getElem (by have := HA.out.2.2.2.2; omega)⟩
          obtain ⟨g, o, ha, _⟩ := HA.out.2.2.2.1.pseg.at hy
          simp only at ha
          have HHa : Hid (_ = some (⟨g, o, none⟩ : Addr)) := ha
          clear ha
          rw [HHa.out] at b1
          have HRg : Hid (∀ wk uk ys, PS W u C [.string s, .int .i64 n1, .int .i64 n2, .int .i64 n3, .int .i64 n4, .int .i64 n5, .slice ra L1 rc, .slice pa L2 pc] 47 wk uk (ys) → ∀ i v, (Prt.vs y)[i]? = some v → wk.cell? ⟨g, o + j * 2 + i, none⟩ = some v) := by
            intro wk uk ys hPk i v hv
            obtain ⟨g', o', ha', hg'⟩ := (HA.out.2.2.2.1.below (hPk.gr.below HA.out.2.1 HA.out.2.2.1)).pseg.at hy
            rw [HHa.out] at ha'
            cases ha'
            exact hg' i v hv
          have HYd : Hid (Prt.d y = false ∧ (ps.take (j + 1)).flatMap Prt.e = (ps.take j).flatMap Prt.e ++ Prt.e y) := ⟨any_mem HD.out.2.2 (List.mem_of_getElem? hy), take_get Prt.e ps j y hy⟩
          have HLN : Hid (((ps.take j).flatMap Prt.e).length ≤ 4080) := by
            have h1 := flat_le Prt.e 16 (fun x => Nat.le_trans (Prt.e_le x) (by decide)) (ps.take j)
            have h2 : (ps.take j).length ≤ j := List.length_take_le _ _
            have h3 : (ps.take j).length * 16 ≤ 255 * 16 := Nat.mul_le_mul_right _ (by omega)
            show ((ps.take j).flatMap Prt.e).length ≤ 4080
            omega
          have HQ0 : Hid (PS W u C [.string s, .int .i64 n1, .int .i64 n2, .int .i64 n3, .int .i64 n4, .int .i64 n5, .slice ra L1 rc, .slice pa L2 pc] 47 wr u0 (xs ++ nb SL ++ s.data.toList ++ nb n1 ++ nb n2 ++ nb n3 ++ nb n4 ++ nb n5 ++ lowB 1 L1 ++ rs.flatMap Rgn.e ++ lowB 1 L2 ++ (ps.take j).flatMap Prt.e)) := hP
          clear hy hP
          obtain ⟨f1, sr⟩ := y
          have yc := HRg.out _ _ _ HQ0.out 0 _ rfl
          rw [Nat.add_zero] at yc
          go_wp2_with fail
          refine (fnumber_any u0 (xs ++ nb SL ++ s.data.toList ++ nb n1 ++ nb n2 ++ nb n3 ++ nb n4 ++ nb n5 ++ lowB 1 L1 ++ rs.flatMap Rgn.e ++ lowB 1 L2 ++ (ps.take j).flatMap Prt.e) f1 wr HQ0.out.br (wNs_mem HYd.out.1 (by simp)) (by (try simp only [List.length_append, nb_length, lowB_len]); have := hXL.out; have := HLN.out; (try have := HLR.out); omega)).mono ?_
          rintro e v1 ⟨q1, rfl, hbr, hgr⟩
          have HQ1 : Hid (PS W u C [.string s, .int .i64 n1, .int .i64 n2, .int .i64 n3, .int .i64 n4, .int .i64 n5, .slice ra L1 rc, .slice pa L2 pc] 47 v1 q1 (xs ++ nb SL ++ s.data.toList ++ nb n1 ++ nb n2 ++ nb n3 ++ nb n4 ++ nb n5 ++ lowB 1 L1 ++ rs.flatMap Rgn.e ++ lowB 1 L2 ++ (ps.take j).flatMap Prt.e ++ nb f1)) := HQ0.out.step hbr hgr
          clear hbr hgr yc b1 HQ0
          cases sr
          · have b1 := HQ1.out.bx.cell (i := 7) rfl
            rw [HHa.out] at b1
            have yc := HRg.out _ _ _ HQ1.out 1 _ rfl
            obtain ⟨q2, v2, happ, hbr, hgr⟩ := append_byte q1 (xs ++ nb SL ++ s.data.toList ++ nb n1 ++ nb n2 ++ nb n3 ++ nb n4 ++ nb n5 ++ lowB 1 L1 ++ rs.flatMap Rgn.e ++ lowB 1 L2 ++ (ps.take j).flatMap Prt.e ++ nb f1) 0 (by omega) HQ1.out.br (by (try simp only [List.length_append, nb_length, lowB_len]); have := hXL.out; have := HLN.out; (try have := HLR.out); omega)
            have HAP : Hid (∀ ty, (Builtin.append_ #[28, 28] ty #[q1, .slice (some ⟨v1.heap.size, 0, none⟩) 1 1]).run Tryz.prog (v1.alloc (.cells #[.int .u8 ((0 : Nat) : Int)] 5)) = .ok q2 v2) := happ
            have HR : Hid (PS W u C [.string s, .int .i64 n1, .int .i64 n2, .int .i64 n3, .int .i64 n4, .int .i64 n5, .slice ra L1 rc, .slice pa L2 pc] 47 v2 q2 (xs ++ nb SL ++ s.data.toList ++ nb n1 ++ nb n2 ++ nb n3 ++ nb n4 ++ nb n5 ++ lowB 1 L1 ++ rs.flatMap Rgn.e ++ lowB 1 L2 ++ (ps.take (j + 1)).flatMap Prt.e)) := (HQ1.out.step hbr hgr).cong (by rw [HYd.out.2]; simp only [Prt.e, nbs, List.flatMap_cons, List.flatMap_nil, List.append_nil, List.append_assoc]; rfl)
            clear happ hbr hgr
            go_wp2_with (at_builtin; go_must (refine wpList_append_run rfl (.tmp 110) (.tmp 112) 28 28 rfl q1 (.slice (some ⟨v1.heap.size, 0, none⟩) 1 1) q2 v2 rfl rfl HAP.out ?_; refine Hid.out ?_))
            unfold Hid
            clear HAP HQ1 HYd HRg HLN b1 yc
            go_wp2
            go_roundw
            case rel => exact ⟨j + 1, by omega, by go_num, HR.out⟩
            case measure => simp [intOf]; omega
          · have b1 := HQ1.out.bx.cell (i := 7) rfl
            rw [HHa.out] at b1
            have yc := HRg.out _ _ _ HQ1.out 1 _ rfl
            obtain ⟨q2, v2, happ, hbr, hgr⟩ := append_byte q1 (xs ++ nb SL ++ s.data.toList ++ nb n1 ++ nb n2 ++ nb n3 ++ nb n4 ++ nb n5 ++ lowB 1 L1 ++ rs.flatMap Rgn.e ++ lowB 1 L2 ++ (ps.take j).flatMap Prt.e ++ nb f1) 1 (by omega) HQ1.out.br (by (try simp only [List.length_append, nb_length, lowB_len]); have := hXL.out; have := HLN.out; (try have := HLR.out); omega)
            have HAP : Hid (∀ ty, (Builtin.append_ #[28, 28] ty #[q1, .slice (some ⟨v1.heap.size, 0, none⟩) 1 1]).run Tryz.prog (v1.alloc (.cells #[.int .u8 ((1 : Nat) : Int)] 5)) = .ok q2 v2) := happ
            have HR : Hid (PS W u C [.string s, .int .i64 n1, .int .i64 n2, .int .i64 n3, .int .i64 n4, .int .i64 n5, .slice ra L1 rc, .slice pa L2 pc] 47 v2 q2 (xs ++ nb SL ++ s.data.toList ++ nb n1 ++ nb n2 ++ nb n3 ++ nb n4 ++ nb n5 ++ lowB 1 L1 ++ rs.flatMap Rgn.e ++ lowB 1 L2 ++ (ps.take (j + 1)).flatMap Prt.e)) := (HQ1.out.step hbr hgr).cong (by rw [HYd.out.2]; simp only [Prt.e, nbs, List.flatMap_cons, List.flatMap_nil, List.append_nil, List.append_assoc]; rfl)
            clear happ hbr hgr
            go_wp2_with (at_builtin; go_must (refine wpList_append_run rfl (.tmp 110) (.tmp 112) 28 28 rfl q1 (.slice (some ⟨v1.heap.size, 0, none⟩) 1 1) q2 v2 rfl rfl HAP.out ?_; refine Hid.out ?_))
            unfold Hid
            clear HAP HQ1 HYd HRg HLN b1 yc
            go_wp2
            go_roundw
            case rel => exact ⟨j + 1, by omega, by go_num, HR.out⟩
            case measure => simp [intOf]; omega
        · have hjL : L2 = j := by omega
          subst hjL
          have HZ : Hid (PS W u C [.string s, .int .i64 n1, .int .i64 n2, .int .i64 n3, .int .i64 n4, .int .i64 n5, .slice ra L1 rc, .slice pa L2 pc] 47 wr u0 (xs ++ nb SL ++ s.data.toList ++ nb n1 ++ nb n2 ++ nb n3 ++ nb n4 ++ nb n5 ++ lowB 1 L1 ++ rs.flatMap Rgn.e ++ lowB 1 L2 ++ ps.flatMap Prt.e)) := by
            rw [List.take_of_length_le (by have := HA.out.2.2.2.2; omega)] at hP; exact hP
          clear hP b1
          have HF : Hid (∃ u', Value.ownBlock u' = Value.ownBlock u0 ∧ u' = u0 ∧ BR wr u' (xs ++ (Par.pure ⟨s, n1, n2, n3, n4, n5, ra, rc, rs, pa, pc, ps⟩).e) ∧ Grw w u wr u') := by
            refine ⟨u0, rfl, rfl, ?_, HZ.out.gr.grown HA.out.1⟩
            have h1 := HZ.out.br
            rw [HEE.out, HSL.out]
            simp only [List.append_assoc] at h1 ⊢
            exact h1
          clear HZ
          go_wp2
          go_ret
          obtain ⟨u', _, rfl, h3, h4⟩ := HF.out
          exact ⟨_, rfl, h3, h4⟩
end Go.Proofs.YtjadpbkhfclldaaGreat
