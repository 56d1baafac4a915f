import Derived.Test.YtjadpbkhfclldaaGreatJHb
import Derived.Test.YtjadpbkhfclldaaGreatJHc
namespace Go.Proofs.YtjadpbkhfclldaaGreat
open Go.RowKit
set_option linter.unusedVariables false
set_option maxRecDepth 6000
set_option linter.unusedSimpArgs false

def Core.e2 (c : Core) : List UInt8 := listB Win.e2 c.ws
def Par.e2 (p : Par) : List UInt8 := p.pure.e
theorem Win.e2_le (x : Win) : x.e2.length ≤ 12 := by rw [← winE]; exact x.e_le
theorem Core.e2_le (x : Core) : x.e2.length ≤ 3061 := listB_le _ 12 Win.e2_le _
theorem Par.e2_le (x : Par) : x.e2.length ≤ 5637 := Par.e_le x
theorem flat_take_le {α : Type} (e : α → List UInt8) (m : Nat) (h : ∀ x, (e x).length ≤ m) (xs : List α) (j : Nat) (hj : j ≤ 255) : ((xs.take j).flatMap e).length ≤ 255 * m := by
  have h1 := flat_le e m h (xs.take j)
  have h2 : (xs.take j).length ≤ j := List.length_take_le _ _
  have h3 : (xs.take j).length * m ≤ 255 * m := Nat.mul_le_mul_right _ (by omega)
  omega

set_option maxHeartbeats 8000000 in
theorem form_any (x : Cfg) (w : World) (N : Nat) (hN : N ≤ w.heap.size) (hi : x.In w N) (hd : x.pure.d = false) :
    Calls Tryz.prog 15 #[x.v] w fun e w' => ∃ u', e = .returned u' ∧ BR w' u' (pbody x.pure) ∧ (∀ k, u'.ownBlock = some k → w.heap.size ≤ k) ∧ Keeps (fun _ => False) w w' := by
  obtain ⟨n1, n2, n3, n4, ca, cc, cs, pa, pc, ps, ha, hc, hs⟩ := x
  have hdd : (wNs [n1, n2, n3, n4] || (listW (listW Win.d2) (cs.map Core.ws) || (listW PPar.d (ps.map Par.pure) || listW Chn.d hs))) = false := hd
  simp only [Bool.or_eq_false_iff] at hdd
  obtain ⟨k1, k2, k3, k4⟩ := hdd
  rw [listW_map] at k2 k3
  unfold listW at k2 k3 k4
  rw [Bool.or_eq_false_iff] at k2 k3 k4
  obtain ⟨L1, hL1⟩ : ∃ L, cs.length = L := ⟨_, rfl⟩
  obtain ⟨L2, hL2⟩ : ∃ L, ps.length = L := ⟨_, rfl⟩
  obtain ⟨L3, hL3⟩ : ∃ L, hs.length = L := ⟨_, rfl⟩
  have l1 : L1 ≤ 255 := by rw [← hL1]; simpa using k2.1
  have l2 : L2 ≤ 255 := by rw [← hL2]; simpa using k3.1
  have l3 : L3 ≤ 255 := by rw [← hL3]; simpa using k4.1
  have hE : pbody (Cfg.pure ⟨n1, n2, n3, n4, ca, cc, cs, pa, pc, ps, ha, hc, hs⟩) = lowB 4 826493762 ++ nb n1 ++ nb n2 ++ nb n3 ++ nb n4 ++ lowB 1 L1 ++ cs.flatMap Core.e2 ++ lowB 1 L2 ++ ps.flatMap Par.e2 ++ lowB 1 L3 ++ hs.flatMap Chn.e := by
    show lowB 4 826493762 ++ (nbs [n1, n2, n3, n4] ++ (listB (listB Win.e2) (cs.map Core.ws) ++ (listB PPar.e (ps.map Par.pure) ++ listB Chn.e hs))) = _
    have e1 : listB (listB Win.e2) (cs.map Core.ws) = lowB 1 L1 ++ cs.flatMap Core.e2 := by rw [listB_map]; unfold listB; rw [if_neg (by omega), hL1]; rfl
    have e2 : listB PPar.e (ps.map Par.pure) = lowB 1 L2 ++ ps.flatMap Par.e2 := by rw [listB_map]; unfold listB; rw [if_neg (by omega), hL2]; rfl
    have e3 : listB Chn.e hs = lowB 1 L3 ++ hs.flatMap Chn.e := by unfold listB; rw [if_neg (by omega), hL3]
    rw [e1, e2, e3]
    simp only [nbs, List.flatMap_cons, List.flatMap_nil, List.append_nil, List.append_assoc]
  have hr1 := hi.clen
  have hr2 := hi.plen
  have hr3 := hi.hlen
  simp only [hL1, hL2, hL3] at hr1 hr2 hr3
  simp only [Cfg.v, hL1, hL2, hL3]
  have d1 : (L1 : Int) ≤ cc := by omega
  have d2 : (L2 : Int) ≤ pc := by omega
  have d3 : (L3 : Int) ≤ hc := by omega
  have d4 : (cc : Int) ≤ 9223372036854775807 := by unfold maxLen at hr1; omega
  have d5 : (pc : Int) ≤ 9223372036854775807 := by unfold maxLen at hr2; omega
  have d6 : (hc : Int) ≤ 9223372036854775807 := by unfold maxLen at hr3; omega
  obtain ⟨C, hC⟩ : ∃ C, C = w.heap.size := ⟨_, rfl⟩
  have hBm : Blk ((w.alloc (.cells #[.int .i64 n1, .int .i64 n2, .int .i64 n3, .int .i64 n4, .slice ca L1 cc, .slice pa L2 pc, .slice ha L3 hc] 26)).alloc (.cells #[.int .u8 66, .int .u8 75, .int .u8 67, .int .u8 49] 5)) (w.heap.size + 1) [.int .u8 66, .int .u8 75, .int .u8 67, .int .u8 49] 5 := by have := Blk.new (w.alloc (.cells #[.int .i64 n1, .int .i64 n2, .int .i64 n3, .int .i64 n4, .slice ca L1 cc, .slice pa L2 pc, .slice ha L3 hc] 26)) #[.int .u8 66, .int .u8 75, .int .u8 67, .int .u8 49] 5; simpa using this
  have hbm : bvs (lowB 4 826493762) = [.int .u8 66, .int .u8 75, .int .u8 67, .int .u8 49] := by kernel_rfl
  have HCV : Hid ((convert 28 28 (.slice (some ⟨w.heap.size + 1, 0, none⟩) 4 4)).run Tryz.prog ((w.alloc (.cells #[.int .i64 n1, .int .i64 n2, .int .i64 n3, .int .i64 n4, .slice ca L1 cc, .slice pa L2 pc, .slice ha L3 hc] 26)).alloc (.cells #[.int .u8 66, .int .u8 75, .int .u8 67, .int .u8 49] 5)) = .ok (.slice (some ⟨w.heap.size + 1, 0, none⟩) 4 4) (((w.alloc (.cells #[.int .i64 n1, .int .i64 n2, .int .i64 n3, .int .i64 n4, .slice ca L1 cc, .slice pa L2 pc, .slice ha L3 hc] 26)).alloc (.cells #[.int .u8 66, .int .u8 75, .int .u8 67, .int .u8 49] 5)).freeze ⟨w.heap.size + 1, 4, none⟩ 1)) := conv_mark (w.heap.size + 1) [.int .u8 66, .int .u8 75, .int .u8 67, .int .u8 49] 4 4 hBm
  obtain ⟨hfull, hKf⟩ := freeze_full (w.heap.size + 1) 4 (lowB 4 826493762) (by rw [hbm]; exact hBm)
  obtain ⟨W, hWd⟩ : ∃ W, W = ((w.alloc (.cells #[.int .i64 n1, .int .i64 n2, .int .i64 n3, .int .i64 n4, .slice ca L1 cc, .slice pa L2 pc, .slice ha L3 hc] 26)).alloc (.cells #[.int .u8 66, .int .u8 75, .int .u8 67, .int .u8 49] 5)).freeze ⟨w.heap.size + 1, 4, none⟩ 1 := ⟨_, rfl⟩
  rw [← hWd] at HCV hfull hKf
  have hKW : Keeps (fun _ => False) w W := (((Keeps.refl _ w).alloc _).alloc _).trans hKf fun k hk e => by omega
  have hBc : Blk W C [.int .i64 n1, .int .i64 n2, .int .i64 n3, .int .i64 n4, .slice ca L1 cc, .slice pa L2 pc, .slice ha L3 hc] 26 := by
    have h1 : Blk ((w.alloc (.cells #[.int .i64 n1, .int .i64 n2, .int .i64 n3, .int .i64 n4, .slice ca L1 cc, .slice pa L2 pc, .slice ha L3 hc] 26)).alloc (.cells #[.int .u8 66, .int .u8 75, .int .u8 67, .int .u8 49] 5)) C [.int .i64 n1, .int .i64 n2, .int .i64 n3, .int .i64 n4, .slice ca L1 cc, .slice pa L2 pc, .slice ha L3 hc] 26 := by rw [hC]; exact (Blk.new w _ _).alloc _
    exact h1.kept hKf (by omega)
  have HFu : Hid (Full W (C + 1) (lowB 4 826493762) ∧ Blk W C [.int .i64 n1, .int .i64 n2, .int .i64 n3, .int .i64 n4, .slice ca L1 cc, .slice pa L2 pc, .slice ha L3 hc] 26) := ⟨by rw [hC]; exact hfull, hBc⟩
  have HA : Hid (Keeps (fun _ => False) w W ∧ N ≤ W.heap.size ∧ (∀ k, Value.ownBlock (.slice (some ⟨C + 1, 0, none⟩) 4 4) = some k → N ≤ k) ∧ (⟨n1, n2, n3, n4, ca, cc, cs, pa, pc, ps, ha, hc, hs⟩ : Cfg).In W N ∧ cs.length = L1 ∧ ps.length = L2 ∧ hs.length = L3 ∧ C = w.heap.size) :=
    ⟨hKW, Nat.le_trans hN hKW.size, fun k hk => by have e2 : C + 1 = k := Option.some.inj hk; omega, hi.below (hKW.below hN fun _ e => e.elim), hL1, hL2, hL3, hC⟩
  have HD : Hid (wNs [n1, n2, n3, n4] = false ∧ cs.any (fun c => listW Win.d2 c.ws) = false ∧ ps.any (fun p => p.pure.d) = false ∧ hs.any Chn.d = false) := ⟨k1, k2.2, k3.2, k4.2⟩
  have HEE : Hid (pbody (Cfg.pure ⟨n1, n2, n3, n4, ca, cc, cs, pa, pc, ps, ha, hc, hs⟩) = lowB 4 826493762 ++ nb n1 ++ nb n2 ++ nb n3 ++ nb n4 ++ lowB 1 L1 ++ cs.flatMap Core.e2 ++ lowB 1 L2 ++ ps.flatMap Par.e2 ++ lowB 1 L3 ++ hs.flatMap Chn.e) := hE
  clear hN hi hd k1 k2 k3 k4 hL1 hL2 hL3 hE hr1 hr2 hr3 hKW hBm hbm hfull hKf hBc
  have b0 := HFu.out.2.cell (i := 0) rfl
  rw [hC] at b0
  clear hWd
  go_enter Tryz.func15, Tryz.ntmps15
  go_wp2_with (refine wpList_convert_run rfl (.tmp 8) 28 28 rfl (.slice (some ⟨w.heap.size + 1, 0, none⟩) 4 4) _ W rfl HCV.out ?_)
  rw [← hC]
  clear hC HCV b0
  have HF1 := fnumber_full (C + 1) (lowB 4 826493762) n1 W HFu.out.1 (wNs_mem HD.out.1 (by simp)) (by rw [lowB_len]; decide)
  rw [lowB_len] at HF1
  refine HF1.mono ?_
  rintro e w1 ⟨u1, rfl, hbr, hfr, hK1⟩
  have HP1 : Hid (PS W (.slice (some ⟨C + 1, 0, none⟩) 4 4) C [.int .i64 n1, .int .i64 n2, .int .i64 n3, .int .i64 n4, .slice ca L1 cc, .slice pa L2 pc, .slice ha L3 hc] 26 w1 u1 (lowB 4 826493762 ++ nb n1)) := by
    obtain ⟨g1, hg1⟩ : ∃ g1, u1.ownBlock = some g1 := by
      rcases hbr.2 with ⟨_, h0⟩ | ⟨g1, cap, cur, e1, _⟩
      · rw [List.length_append, lowB_len] at h0; omega
      · exact ⟨g1, by rw [e1]; rfl⟩
    refine ⟨hbr, ⟨.inr ⟨g1, hg1, hfr g1 hg1⟩, hK1.mono fun _ _ e => e.elim⟩, HFu.out.2.kept hK1 fun e => e, ?_⟩
    rw [hg1]
    intro e
    have e2 : g1 = C := Option.some.inj e
    have := hfr g1 hg1
    have := HFu.out.2.lt
    omega
  have c1_1 := HP1.out.bx.cell (i := 1) rfl
  clear hbr hfr hK1 HF1
  go_wp2_with fail
  refine (fnumber_any u1 (lowB 4 826493762 ++ nb n1) n2 w1 HP1.out.br (wNs_mem HD.out.1 (by simp)) (by (try simp only [List.length_append, nb_length, lowB_len]); (try have := HL0.out); (try have := HL1.out); (try have := HL2.out); (try have := HL3.out); omega)).mono ?_
  rintro e w2 ⟨u2, rfl, hbr, hgr⟩
  have HP2 : Hid (PS W (.slice (some ⟨C + 1, 0, none⟩) 4 4) C [.int .i64 n1, .int .i64 n2, .int .i64 n3, .int .i64 n4, .slice ca L1 cc, .slice pa L2 pc, .slice ha L3 hc] 26 w2 u2 (lowB 4 826493762 ++ nb n1 ++ nb n2)) := HP1.out.step hbr hgr
  have c2_2 := HP2.out.bx.cell (i := 2) rfl
  clear hbr hgr HP1 c1_1
  go_wp2_with fail
  refine (fnumber_any u2 (lowB 4 826493762 ++ nb n1 ++ nb n2) n3 w2 HP2.out.br (wNs_mem HD.out.1 (by simp)) (by (try simp only [List.length_append, nb_length, lowB_len]); (try have := HL0.out); (try have := HL1.out); (try have := HL2.out); (try have := HL3.out); omega)).mono ?_
  rintro e w3 ⟨u3, rfl, hbr, hgr⟩
  have HP3 : Hid (PS W (.slice (some ⟨C + 1, 0, none⟩) 4 4) C [.int .i64 n1, .int .i64 n2, .int .i64 n3, .int .i64 n4, .slice ca L1 cc, .slice pa L2 pc, .slice ha L3 hc] 26 w3 u3 (lowB 4 826493762 ++ nb n1 ++ nb n2 ++ nb n3)) := HP2.out.step hbr hgr
  have c3_3 := HP3.out.bx.cell (i := 3) rfl
  clear hbr hgr HP2 c2_2
  go_wp2_with fail
  refine (fnumber_any u3 (lowB 4 826493762 ++ nb n1 ++ nb n2 ++ nb n3) n4 w3 HP3.out.br (wNs_mem HD.out.1 (by simp)) (by (try simp only [List.length_append, nb_length, lowB_len]); (try have := HL0.out); (try have := HL1.out); (try have := HL2.out); (try have := HL3.out); omega)).mono ?_
  rintro e w4 ⟨u4, rfl, hbr, hgr⟩
  have HP4 : Hid (PS W (.slice (some ⟨C + 1, 0, none⟩) 4 4) C [.int .i64 n1, .int .i64 n2, .int .i64 n3, .int .i64 n4, .slice ca L1 cc, .slice pa L2 pc, .slice ha L3 hc] 26 w4 u4 (lowB 4 826493762 ++ nb n1 ++ nb n2 ++ nb n3 ++ nb n4)) := HP3.out.step hbr hgr
  have c4_4 := HP4.out.bx.cell (i := 4) rfl
  clear hbr hgr HP3 c3_3
  have hcv1 : IntKind.u8.wrap (L1 : Int) = L1 := by rw [IntKind.wrap_u8']; omega
  obtain ⟨uA, wA, happ, hbr, hgr⟩ := append_byte u4 (lowB 4 826493762 ++ nb n1 ++ nb n2 ++ nb n3 ++ nb n4) L1 (by omega) HP4.out.br (by (try simp only [List.length_append, nb_length, lowB_len]); (try have := HL0.out); (try have := HL1.out); (try have := HL2.out); (try have := HL3.out); omega)
  have HAP : Hid (∀ ty, (Builtin.append_ #[28, 28] ty #[u4, .slice (some ⟨w4.heap.size, 0, none⟩) 1 1]).run Tryz.prog (w4.alloc (.cells #[.int .u8 ((L1 : Nat) : Int)] 5)) = .ok uA wA) := happ
  have HX1 : Hid (PS W (.slice (some ⟨C + 1, 0, none⟩) 4 4) C [.int .i64 n1, .int .i64 n2, .int .i64 n3, .int .i64 n4, .slice ca L1 cc, .slice pa L2 pc, .slice ha L3 hc] 26 wA uA (lowB 4 826493762 ++ nb n1 ++ nb n2 ++ nb n3 ++ nb n4 ++ lowB 1 L1)) := HP4.out.step hbr hgr
  clear happ hbr hgr
  go_wp2_with (at_builtin; go_must (refine wpList_append_run rfl (.tmp 26) (.tmp 31) 28 28 rfl u4 (.slice (some ⟨w4.heap.size, 0, none⟩) 1 1) uA wA rfl rfl HAP.out ?_; refine Hid.out ?_))
  unfold Hid
  clear HAP
  have cA := HX1.out.bx.cell (i := 4) rfl
  clear HP4 c4_4 hcv1
  go_wp2
  go_loopw [3, 36] (fun b i wr => ∃ j : Nat, j ≤ L1 ∧ i = .int .i64 j ∧ PS W (.slice (some ⟨C + 1, 0, none⟩) 4 4) C [.int .i64 n1, .int .i64 n2, .int .i64 n3, .int .i64 n4, .slice ca L1 cc, .slice pa L2 pc, .slice ha L3 hc] 26 wr b (lowB 4 826493762 ++ nb n1 ++ nb n2 ++ nb n3 ++ nb n4 ++ lowB 1 L1 ++ (cs.take j).flatMap Core.e2)) (fun _ i _ => L1 - (intOf i).toNat)
  case atStart => exact ⟨0, by omega, rfl, HX1.out.cong (by simp)⟩
  case round =>
    clear cA
    obtain ⟨j, hj, rfl, hP⟩ := hrel
    have HL1 : Hid (((cs.take j).flatMap Core.e2).length ≤ 255 * 3061) := flat_take_le Core.e2 3061 Core.e2_le cs j (by omega)
    by_cases hlt : j < L1
    · obtain ⟨y, hy⟩ : ∃ y, cs[j]? = some y := ⟨_, List.getElem?_eq_getElem (by have := HA.out.2.2.2.2; omega)⟩
      obtain ⟨g, o, hga, _⟩ := HA.out.2.2.2.1.cseg.at hy
      simp only at hga
      have HHa : Hid (_ = some (⟨g, o, none⟩ : Addr)) := hga
      clear hga
      have HRg : Hid (∀ wk uk ys, PS W (.slice (some ⟨C + 1, 0, none⟩) 4 4) C [.int .i64 n1, .int .i64 n2, .int .i64 n3, .int .i64 n4, .slice ca L1 cc, .slice pa L2 pc, .slice ha L3 hc] 26 wk uk (ys) → (∀ i v, (Core.vs y)[i]? = some v → wk.cell? ⟨g, o + j * 1 + i, none⟩ = some v) ∧ Cfg.In wk N ⟨n1, n2, n3, n4, ca, cc, cs, pa, pc, ps, ha, hc, hs⟩) := by
        intro wk uk ys hPk
        have hIn := HA.out.2.2.2.1.below (hPk.gr.below HA.out.2.1 HA.out.2.2.1)
        obtain ⟨g', o', ha', hg'⟩ := hIn.cseg.at hy
        rw [HHa.out] at ha'
        cases ha'
        exact ⟨hg', hIn⟩
      have HYd : Hid (listW Win.d2 y.ws = false ∧ (cs.take (j + 1)).flatMap Core.e2 = (cs.take j).flatMap Core.e2 ++ Core.e2 y) := ⟨any_mem (d := fun c : Core => listW Win.d2 c.ws) HD.out.2.1 (List.mem_of_getElem? hy), take_get Core.e2 cs j y hy⟩
      have HCm : Hid (y ∈ cs) := List.mem_of_getElem? hy
      have HQ0 : Hid (PS W (.slice (some ⟨C + 1, 0, none⟩) 4 4) C [.int .i64 n1, .int .i64 n2, .int .i64 n3, .int .i64 n4, .slice ca L1 cc, .slice pa L2 pc, .slice ha L3 hc] 26 wr u3 (lowB 4 826493762 ++ nb n1 ++ nb n2 ++ nb n3 ++ nb n4 ++ lowB 1 L1 ++ (cs.take j).flatMap Core.e2)) := hP
      clear hy hP
      obtain ⟨ya, ycap, ws⟩ := y
      obtain ⟨M, hM⟩ : ∃ M, ws.length = M := ⟨_, rfl⟩
      have HM : Hid (ws.length = M) := hM
      have hMb : M ≤ 255 := by
        have h1 := HYd.out.1
        unfold listW at h1
        rw [Bool.or_eq_false_iff] at h1
        have h2 := h1.1
        simp only [hM] at h2
        simpa using h2
      have HCd : Hid (ws.any Win.d2 = false) := by
        have h1 := HYd.out.1
        unfold listW at h1
        rw [Bool.or_eq_false_iff] at h1
        exact h1.2
      have hcl := ((HRg.out _ _ _ HQ0.out).2.cin _ HCm.out).len
      simp only [hM] at hcl
      have hcl1 : (M : Int) ≤ ycap := by omega
      have hcl2 : (ycap : Int) ≤ 9223372036854775807 := by have := hcl.2; unfold maxLen at this; omega
      have HEc : Hid (Core.e2 ⟨ya, ycap, ws⟩ = lowB 1 M ++ ws.flatMap Win.e2) := by
        show listB Win.e2 ws = _
        unfold listB; rw [if_neg (by omega), hM]
      have b1 := HQ0.out.bx.cell (i := 4) rfl
      rw [HHa.out] at b1
      have b2 := (HRg.out _ _ _ HQ0.out).1 0 _ rfl
      rw [Nat.add_zero, Nat.mul_one] at b2
      simp only [hM] at b2
      have hcvM : IntKind.u8.wrap (M : Int) = M := by rw [IntKind.wrap_u8']; omega
      clear hM hcl
      obtain ⟨uI, wI, happ, hbr, hgr⟩ := append_byte u3 (lowB 4 826493762 ++ nb n1 ++ nb n2 ++ nb n3 ++ nb n4 ++ lowB 1 L1 ++ (cs.take j).flatMap Core.e2) M (by omega) HQ0.out.br (by (try simp only [List.length_append, nb_length, lowB_len]); (try have := HL0.out); (try have := HL1.out); (try have := HL2.out); (try have := HL3.out); omega)
      have HAP : Hid (∀ ty, (Builtin.append_ #[28, 28] ty #[u3, .slice (some ⟨wr.heap.size, 0, none⟩) 1 1]).run Tryz.prog (wr.alloc (.cells #[.int .u8 ((M : Nat) : Int)] 5)) = .ok uI wI) := happ
      have HXI : Hid (PS W (.slice (some ⟨C + 1, 0, none⟩) 4 4) C [.int .i64 n1, .int .i64 n2, .int .i64 n3, .int .i64 n4, .slice ca L1 cc, .slice pa L2 pc, .slice ha L3 hc] 26 wI uI (lowB 4 826493762 ++ nb n1 ++ nb n2 ++ nb n3 ++ nb n4 ++ lowB 1 L1 ++ (cs.take j).flatMap Core.e2 ++ lowB 1 M)) := HQ0.out.step hbr hgr
      clear happ hbr hgr
      go_wp2_with (at_builtin; go_must (refine wpList_append_run rfl (.tmp 39) (.tmp 47) 28 28 rfl u3 (.slice (some ⟨wr.heap.size, 0, none⟩) 1 1) uI wI rfl rfl HAP.out ?_; refine Hid.out ?_))
      unfold Hid
      clear HAP
      have b3 := HXI.out.bx.cell (i := 4) rfl
      rw [HHa.out] at b3
      have b4 := (HRg.out _ _ _ HXI.out).1 0 _ rfl
      rw [Nat.add_zero, Nat.mul_one] at b4
      simp only [HM.out] at b4
      clear b1 b2 HQ0 hcvM
      go_wp2
      go_loopw [3, 55] (fun b i wq => ∃ i' : Nat, i' ≤ M ∧ i = .int .i64 i' ∧ PS W (.slice (some ⟨C + 1, 0, none⟩) 4 4) C [.int .i64 n1, .int .i64 n2, .int .i64 n3, .int .i64 n4, .slice ca L1 cc, .slice pa L2 pc, .slice ha L3 hc] 26 wq b (lowB 4 826493762 ++ nb n1 ++ nb n2 ++ nb n3 ++ nb n4 ++ lowB 1 L1 ++ (cs.take j).flatMap Core.e2 ++ lowB 1 M ++ (ws.take i').flatMap Win.e2)) (fun _ i _ => M - (intOf i).toNat)
      case atStart => exact ⟨0, by omega, rfl, HXI.out.cong (by simp)⟩
      case round =>
        clear b3 b4
        obtain ⟨i, hii, rfl, hP2⟩ := hrel
        have HL2 : Hid (((ws.take i).flatMap Win.e2).length ≤ 255 * 12) := flat_take_le Win.e2 12 Win.e2_le ws i (by omega)
        by_cases hlt2 : i < M
        · obtain ⟨z, hz⟩ : ∃ z, ws[i]? = some z := ⟨_, List.getElem?_eq_getElem (by have := HM.out; omega)⟩
          obtain ⟨g2, o2, hgb, _⟩ := (((HRg.out _ _ _ hP2).2.cin _ HCm.out).seg).at hz
          simp only at hgb
          have HHb : Hid (ya = some (⟨g2, o2, none⟩ : Addr)) := hgb
          clear hgb
          have HQ0 : Hid (PS W (.slice (some ⟨C + 1, 0, none⟩) 4 4) C [.int .i64 n1, .int .i64 n2, .int .i64 n3, .int .i64 n4, .slice ca L1 cc, .slice pa L2 pc, .slice ha L3 hc] 26 wr u3 (lowB 4 826493762 ++ nb n1 ++ nb n2 ++ nb n3 ++ nb n4 ++ lowB 1 L1 ++ (cs.take j).flatMap Core.e2 ++ lowB 1 M ++ (ws.take i).flatMap Win.e2)) := hP2
          have HYd2 : Hid (Win.d2 z = false ∧ (ws.take (i + 1)).flatMap Win.e2 = (ws.take i).flatMap Win.e2 ++ Win.e2 z) := ⟨any_mem HCd.out (List.mem_of_getElem? hz), take_get Win.e2 ws i z hz⟩
          have HWg : Hid (∀ wk uk ys, PS W (.slice (some ⟨C + 1, 0, none⟩) 4 4) C [.int .i64 n1, .int .i64 n2, .int .i64 n3, .int .i64 n4, .slice ca L1 cc, .slice pa L2 pc, .slice ha L3 hc] 26 wk uk (ys) → ∀ i' v, (Win.vs z)[i']? = some v → wk.cell? ⟨g2, o2 + i * 3 + i', none⟩ = some v) := by
            intro wk uk ys hPk i' v hv
            obtain ⟨g', o', ha', hg'⟩ := (((HRg.out _ _ _ hPk).2.cin _ HCm.out).seg).at hz
            simp only at ha'
            rw [HHb.out] at ha'
            cases ha'
            exact hg' i' v hv
          clear hz hP2
          obtain ⟨p, f2, f3⟩ := z
          have HYd : Hid (wNs [p + 1, f2, f3] = false) := HYd2.out.1
          have hpb := wN_bd (wNs_mem HYd.out (show p + 1 ∈ [p + 1, f2, f3] by simp))
          have hpw : IntKind.i64.wrap (p + 1) = p + 1 := by rw [IntKind.wrap_i64]; omega
          have HYe : Hid (wNs [p + 1, f2, f3] = false) := HYd.out
          have yc := HWg.out _ _ _ HQ0.out 0 _ rfl
          rw [Nat.add_zero] at yc
          have b1 := HQ0.out.bx.cell (i := 4) rfl
          rw [HHa.out] at b1
          have b2 := (HRg.out _ _ _ HQ0.out).1 0 _ rfl
          rw [Nat.add_zero, Nat.mul_one] at b2
          simp only [HHb.out, HM.out] at b2
          go_wp2_with fail
          refine (fnumber_any u3 (lowB 4 826493762 ++ nb n1 ++ nb n2 ++ nb n3 ++ nb n4 ++ lowB 1 L1 ++ (cs.take j).flatMap Core.e2 ++ lowB 1 M ++ (ws.take i).flatMap Win.e2) (p + 1) wr HQ0.out.br (wNs_mem HYe.out (by simp)) (by (try simp only [List.length_append, nb_length, lowB_len]); (try have := HL0.out); (try have := HL1.out); (try have := HL2.out); (try have := HL3.out); omega)).mono ?_
          rintro e v1 ⟨q1, rfl, hbr, hgr⟩
          have HQ1 : Hid (PS W (.slice (some ⟨C + 1, 0, none⟩) 4 4) C [.int .i64 n1, .int .i64 n2, .int .i64 n3, .int .i64 n4, .slice ca L1 cc, .slice pa L2 pc, .slice ha L3 hc] 26 v1 q1 (lowB 4 826493762 ++ nb n1 ++ nb n2 ++ nb n3 ++ nb n4 ++ lowB 1 L1 ++ (cs.take j).flatMap Core.e2 ++ lowB 1 M ++ (ws.take i).flatMap Win.e2 ++ nb (p + 1))) := HQ0.out.step hbr hgr
          clear hbr hgr yc b1 b2 HQ0
          have yc := HWg.out _ _ _ HQ1.out 1 _ rfl
          have b1 := HQ1.out.bx.cell (i := 4) rfl
          rw [HHa.out] at b1
          have b2 := (HRg.out _ _ _ HQ1.out).1 0 _ rfl
          rw [Nat.add_zero, Nat.mul_one] at b2
          simp only [HHb.out, HM.out] at b2
          go_wp2_with fail
          refine (fnumber_any q1 (lowB 4 826493762 ++ nb n1 ++ nb n2 ++ nb n3 ++ nb n4 ++ lowB 1 L1 ++ (cs.take j).flatMap Core.e2 ++ lowB 1 M ++ (ws.take i).flatMap Win.e2 ++ nb (p + 1)) f2 v1 HQ1.out.br (wNs_mem HYe.out (by simp)) (by (try simp only [List.length_append, nb_length, lowB_len]); (try have := HL0.out); (try have := HL1.out); (try have := HL2.out); (try have := HL3.out); omega)).mono ?_
          rintro e v2 ⟨q2, rfl, hbr, hgr⟩
          have HQ2 : Hid (PS W (.slice (some ⟨C + 1, 0, none⟩) 4 4) C [.int .i64 n1, .int .i64 n2, .int .i64 n3, .int .i64 n4, .slice ca L1 cc, .slice pa L2 pc, .slice ha L3 hc] 26 v2 q2 (lowB 4 826493762 ++ nb n1 ++ nb n2 ++ nb n3 ++ nb n4 ++ lowB 1 L1 ++ (cs.take j).flatMap Core.e2 ++ lowB 1 M ++ (ws.take i).flatMap Win.e2 ++ nb (p + 1) ++ nb f2)) := HQ1.out.step hbr hgr
          clear hbr hgr yc b1 b2 HQ1
          have yc := HWg.out _ _ _ HQ2.out 2 _ rfl
          have b1 := HQ2.out.bx.cell (i := 4) rfl
          rw [HHa.out] at b1
          have b2 := (HRg.out _ _ _ HQ2.out).1 0 _ rfl
          rw [Nat.add_zero, Nat.mul_one] at b2
          simp only [HHb.out, HM.out] at b2
          go_wp2_with fail
          refine (fnumber_any q2 (lowB 4 826493762 ++ nb n1 ++ nb n2 ++ nb n3 ++ nb n4 ++ lowB 1 L1 ++ (cs.take j).flatMap Core.e2 ++ lowB 1 M ++ (ws.take i).flatMap Win.e2 ++ nb (p + 1) ++ nb f2) f3 v2 HQ2.out.br (wNs_mem HYe.out (by simp)) (by (try simp only [List.length_append, nb_length, lowB_len]); (try have := HL0.out); (try have := HL1.out); (try have := HL2.out); (try have := HL3.out); omega)).mono ?_
          rintro e v3 ⟨q3, rfl, hbr, hgr⟩
          have HQ3 : Hid (PS W (.slice (some ⟨C + 1, 0, none⟩) 4 4) C [.int .i64 n1, .int .i64 n2, .int .i64 n3, .int .i64 n4, .slice ca L1 cc, .slice pa L2 pc, .slice ha L3 hc] 26 v3 q3 (lowB 4 826493762 ++ nb n1 ++ nb n2 ++ nb n3 ++ nb n4 ++ lowB 1 L1 ++ (cs.take j).flatMap Core.e2 ++ lowB 1 M ++ (ws.take i).flatMap Win.e2 ++ nb (p + 1) ++ nb f2 ++ nb f3)) := HQ2.out.step hbr hgr
          clear hbr hgr yc b1 b2 HQ2
          have HR : Hid (PS W (.slice (some ⟨C + 1, 0, none⟩) 4 4) C [.int .i64 n1, .int .i64 n2, .int .i64 n3, .int .i64 n4, .slice ca L1 cc, .slice pa L2 pc, .slice ha L3 hc] 26 v3 q3 (lowB 4 826493762 ++ nb n1 ++ nb n2 ++ nb n3 ++ nb n4 ++ lowB 1 L1 ++ (cs.take j).flatMap Core.e2 ++ lowB 1 M ++ (ws.take (i + 1)).flatMap Win.e2)) := HQ3.out.cong (by rw [HYd2.out.2]; simp only [Win.e2, nbs, List.flatMap_cons, List.flatMap_nil, List.append_nil, List.append_assoc])
          clear HQ3 HYd HYd2 HYe HWg HL2 hpw hpb
          go_wp2
          go_roundw
          case rel => exact ⟨i + 1, by omega, by go_num, HR.out⟩
          case measure => simp [intOf]; omega
        · have hiM : M = i := by omega
          subst hiM
          have HR : Hid (PS W (.slice (some ⟨C + 1, 0, none⟩) 4 4) C [.int .i64 n1, .int .i64 n2, .int .i64 n3, .int .i64 n4, .slice ca L1 cc, .slice pa L2 pc, .slice ha L3 hc] 26 wr u3 (lowB 4 826493762 ++ nb n1 ++ nb n2 ++ nb n3 ++ nb n4 ++ lowB 1 L1 ++ (cs.take (j + 1)).flatMap Core.e2)) := by
            have e1 : ws.take M = ws := List.take_of_length_le (by have := HM.out; omega)
            rw [e1] at hP2
            refine hP2.cong ?_
            rw [HYd.out.2, HEc.out]
            simp only [List.append_assoc]
          clear hP2 HXI HYd HRg HL1 HL2
          go_wp2
          go_roundw
          case rel => exact ⟨j + 1, by omega, by go_num, HR.out⟩
          case measure => simp [intOf]; omega
    · have hjL : L1 = j := by omega
      subst hjL
      have HZ : Hid (PS W (.slice (some ⟨C + 1, 0, none⟩) 4 4) C [.int .i64 n1, .int .i64 n2, .int .i64 n3, .int .i64 n4, .slice ca L1 cc, .slice pa L2 pc, .slice ha L3 hc] 26 wr u3 (lowB 4 826493762 ++ nb n1 ++ nb n2 ++ nb n3 ++ nb n4 ++ lowB 1 L1 ++ cs.flatMap Core.e2)) := by
        rw [List.take_of_length_le (by have := HA.out.2.2.2.2; omega)] at hP; exact hP
      have HL1 : Hid ((cs.flatMap Core.e2).length ≤ 255 * 3061) := by
        have h := HL1.out
        rw [List.take_of_length_le (by have := HA.out.2.2.2.2; omega)] at h; exact h
      clear hP
      have cA2 := HZ.out.bx.cell (i := 5) rfl
      have hcv2 : IntKind.u8.wrap (L2 : Int) = L2 := by rw [IntKind.wrap_u8']; omega
      obtain ⟨uB, wB, happ, hbr, hgr⟩ := append_byte u3 (lowB 4 826493762 ++ nb n1 ++ nb n2 ++ nb n3 ++ nb n4 ++ lowB 1 L1 ++ cs.flatMap Core.e2) L2 (by omega) HZ.out.br (by (try simp only [List.length_append, nb_length, lowB_len]); (try have := HL0.out); (try have := HL1.out); (try have := HL2.out); (try have := HL3.out); omega)
      have HAP : Hid (∀ ty, (Builtin.append_ #[28, 28] ty #[u3, .slice (some ⟨wr.heap.size, 0, none⟩) 1 1]).run Tryz.prog (wr.alloc (.cells #[.int .u8 ((L2 : Nat) : Int)] 5)) = .ok uB wB) := happ
      have HX2 : Hid (PS W (.slice (some ⟨C + 1, 0, none⟩) 4 4) C [.int .i64 n1, .int .i64 n2, .int .i64 n3, .int .i64 n4, .slice ca L1 cc, .slice pa L2 pc, .slice ha L3 hc] 26 wB uB (lowB 4 826493762 ++ nb n1 ++ nb n2 ++ nb n3 ++ nb n4 ++ lowB 1 L1 ++ cs.flatMap Core.e2 ++ lowB 1 L2)) := HZ.out.step hbr hgr
      clear happ hbr hgr
      go_wp2_with (at_builtin; go_must (refine wpList_append_run rfl (.tmp 94) (.tmp 99) 28 28 rfl u3 (.slice (some ⟨wr.heap.size, 0, none⟩) 1 1) uB wB rfl rfl HAP.out ?_; refine Hid.out ?_))
      unfold Hid
      clear HAP
      have cB := HX2.out.bx.cell (i := 5) rfl
      clear HZ cA2 hcv2
      go_wp2
      go_loopw [3, 104] (fun b i wr => ∃ j : Nat, j ≤ L2 ∧ i = .int .i64 j ∧ PS W (.slice (some ⟨C + 1, 0, none⟩) 4 4) C [.int .i64 n1, .int .i64 n2, .int .i64 n3, .int .i64 n4, .slice ca L1 cc, .slice pa L2 pc, .slice ha L3 hc] 26 wr b (lowB 4 826493762 ++ nb n1 ++ nb n2 ++ nb n3 ++ nb n4 ++ lowB 1 L1 ++ cs.flatMap Core.e2 ++ lowB 1 L2 ++ (ps.take j).flatMap Par.e2)) (fun _ i _ => L2 - (intOf i).toNat)
      case atStart => exact ⟨0, by omega, rfl, HX2.out.cong (by simp)⟩
      case round =>
        clear cB
        obtain ⟨j, hj, rfl, hP⟩ := hrel
        have HL2 : Hid (((ps.take j).flatMap Par.e2).length ≤ 255 * 5637) := flat_take_le Par.e2 5637 Par.e2_le ps j (by omega)
        by_cases hlt : j < L2
        · obtain ⟨y, hy⟩ : ∃ y, ps[j]? = some y := ⟨_, List.getElem?_eq_getElem (by have := HA.out.2.2.2.2; omega)⟩
          obtain ⟨g, o, hga, _⟩ := HA.out.2.2.2.1.pseg.at hy
          simp only at hga
          have HHa : Hid (_ = some (⟨g, o, none⟩ : Addr)) := hga
          clear hga
          have HRg : Hid (∀ wk uk ys, PS W (.slice (some ⟨C + 1, 0, none⟩) 4 4) C [.int .i64 n1, .int .i64 n2, .int .i64 n3, .int .i64 n4, .slice ca L1 cc, .slice pa L2 pc, .slice ha L3 hc] 26 wk uk (ys) → (∀ i v, (Par.vs y)[i]? = some v → wk.cell? ⟨g, o + j * 8 + i, none⟩ = some v) ∧ Cfg.In wk N ⟨n1, n2, n3, n4, ca, cc, cs, pa, pc, ps, ha, hc, hs⟩) := by
            intro wk uk ys hPk
            have hIn := HA.out.2.2.2.1.below (hPk.gr.below HA.out.2.1 HA.out.2.2.1)
            obtain ⟨g', o', ha', hg'⟩ := hIn.pseg.at hy
            rw [HHa.out] at ha'
            cases ha'
            exact ⟨hg', hIn⟩
          have HYd : Hid (y.pure.d = false ∧ (ps.take (j + 1)).flatMap Par.e2 = (ps.take j).flatMap Par.e2 ++ Par.e2 y) := ⟨any_mem (d := fun p : Par => p.pure.d) HD.out.2.2.1 (List.mem_of_getElem? hy), take_get Par.e2 ps j y hy⟩
          have HQ0 : Hid (PS W (.slice (some ⟨C + 1, 0, none⟩) 4 4) C [.int .i64 n1, .int .i64 n2, .int .i64 n3, .int .i64 n4, .slice ca L1 cc, .slice pa L2 pc, .slice ha L3 hc] 26 wr u3 (lowB 4 826493762 ++ nb n1 ++ nb n2 ++ nb n3 ++ nb n4 ++ lowB 1 L1 ++ cs.flatMap Core.e2 ++ lowB 1 L2 ++ (ps.take j).flatMap Par.e2)) := hP
          have HPc : Hid (Calls Tryz.prog 36 #[u3, y.v] wr fun e w' => ∃ u', e = .returned u' ∧ BR w' u' (lowB 4 826493762 ++ nb n1 ++ nb n2 ++ nb n3 ++ nb n4 ++ lowB 1 L1 ++ cs.flatMap Core.e2 ++ lowB 1 L2 ++ (ps.take j).flatMap Par.e2 ++ y.pure.e) ∧ Grw wr u3 w' u') :=
            fpartition_any u3 _ y wr N HQ0.out.br (Nat.le_trans HA.out.2.1 HQ0.out.gr.kp.size) (HQ0.out.gr.hi HA.out.2.1 HA.out.2.2.1) ((HRg.out _ _ _ HQ0.out).2.pin y (List.mem_of_getElem? hy)) HYd.out.1 (by (try simp only [List.length_append, nb_length, lowB_len]); (try have := HL0.out); (try have := HL1.out); (try have := HL2.out); (try have := HL3.out); omega)
          clear hy hP
          have y0 := (HRg.out _ _ _ HQ0.out).1 0 _ rfl
          rw [Nat.add_zero] at y0
          have y1 := (HRg.out _ _ _ HQ0.out).1 1 _ rfl
          have y2 := (HRg.out _ _ _ HQ0.out).1 2 _ rfl
          have y3 := (HRg.out _ _ _ HQ0.out).1 3 _ rfl
          have y4 := (HRg.out _ _ _ HQ0.out).1 4 _ rfl
          have y5 := (HRg.out _ _ _ HQ0.out).1 5 _ rfl
          have y6 := (HRg.out _ _ _ HQ0.out).1 6 _ rfl
          have y7 := (HRg.out _ _ _ HQ0.out).1 7 _ rfl
          have b1 := HQ0.out.bx.cell (i := 5) rfl
          rw [HHa.out] at b1
          go_wp2_with fail
          refine HPc.out.mono ?_
          rintro e v1 ⟨q1, rfl, hbr, hgr⟩
          have HR : Hid (PS W (.slice (some ⟨C + 1, 0, none⟩) 4 4) C [.int .i64 n1, .int .i64 n2, .int .i64 n3, .int .i64 n4, .slice ca L1 cc, .slice pa L2 pc, .slice ha L3 hc] 26 v1 q1 (lowB 4 826493762 ++ nb n1 ++ nb n2 ++ nb n3 ++ nb n4 ++ lowB 1 L1 ++ cs.flatMap Core.e2 ++ lowB 1 L2 ++ (ps.take (j + 1)).flatMap Par.e2)) := (HQ0.out.step hbr hgr).cong (by rw [HYd.out.2, List.append_assoc (lowB 4 826493762 ++ nb n1 ++ nb n2 ++ nb n3 ++ nb n4 ++ lowB 1 L1 ++ cs.flatMap Core.e2 ++ lowB 1 L2)]; rfl)
          clear hbr hgr HPc HQ0 HYd HRg HL2 y0 y1 y2 y3 y4 y5 y6 y7 b1
          go_wp2
          go_roundw
          case rel => exact ⟨j + 1, by omega, by go_num, HR.out⟩
          case measure => simp [intOf]; omega
        · have hjL : L2 = j := by omega
          subst hjL
          have HZ : Hid (PS W (.slice (some ⟨C + 1, 0, none⟩) 4 4) C [.int .i64 n1, .int .i64 n2, .int .i64 n3, .int .i64 n4, .slice ca L1 cc, .slice pa L2 pc, .slice ha L3 hc] 26 wr u3 (lowB 4 826493762 ++ nb n1 ++ nb n2 ++ nb n3 ++ nb n4 ++ lowB 1 L1 ++ cs.flatMap Core.e2 ++ lowB 1 L2 ++ ps.flatMap Par.e2)) := by
            rw [List.take_of_length_le (by have := HA.out.2.2.2.2; omega)] at hP; exact hP
          have HL2 : Hid ((ps.flatMap Par.e2).length ≤ 255 * 5637) := by
            have h := HL2.out
            rw [List.take_of_length_le (by have := HA.out.2.2.2.2; omega)] at h; exact h
          clear hP
          have cB2 := HZ.out.bx.cell (i := 6) rfl
          have hcv3 : IntKind.u8.wrap (L3 : Int) = L3 := by rw [IntKind.wrap_u8']; omega
          obtain ⟨uC, wC, happ, hbr, hgr⟩ := append_byte u3 (lowB 4 826493762 ++ nb n1 ++ nb n2 ++ nb n3 ++ nb n4 ++ lowB 1 L1 ++ cs.flatMap Core.e2 ++ lowB 1 L2 ++ ps.flatMap Par.e2) L3 (by omega) HZ.out.br (by (try simp only [List.length_append, nb_length, lowB_len]); (try have := HL0.out); (try have := HL1.out); (try have := HL2.out); (try have := HL3.out); omega)
          have HAP : Hid (∀ ty, (Builtin.append_ #[28, 28] ty #[u3, .slice (some ⟨wr.heap.size, 0, none⟩) 1 1]).run Tryz.prog (wr.alloc (.cells #[.int .u8 ((L3 : Nat) : Int)] 5)) = .ok uC wC) := happ
          have HX3 : Hid (PS W (.slice (some ⟨C + 1, 0, none⟩) 4 4) C [.int .i64 n1, .int .i64 n2, .int .i64 n3, .int .i64 n4, .slice ca L1 cc, .slice pa L2 pc, .slice ha L3 hc] 26 wC uC (lowB 4 826493762 ++ nb n1 ++ nb n2 ++ nb n3 ++ nb n4 ++ lowB 1 L1 ++ cs.flatMap Core.e2 ++ lowB 1 L2 ++ ps.flatMap Par.e2 ++ lowB 1 L3)) := HZ.out.step hbr hgr
          clear happ hbr hgr
          go_wp2_with (at_builtin; go_must (refine wpList_append_run rfl (.tmp 115) (.tmp 120) 28 28 rfl u3 (.slice (some ⟨wr.heap.size, 0, none⟩) 1 1) uC wC rfl rfl HAP.out ?_; refine Hid.out ?_))
          unfold Hid
          clear HAP
          have cC := HX3.out.bx.cell (i := 6) rfl
          clear HZ cB2 hcv3
          go_wp2
          go_loopw [3, 125] (fun b i wr => ∃ j : Nat, j ≤ L3 ∧ i = .int .i64 j ∧ PS W (.slice (some ⟨C + 1, 0, none⟩) 4 4) C [.int .i64 n1, .int .i64 n2, .int .i64 n3, .int .i64 n4, .slice ca L1 cc, .slice pa L2 pc, .slice ha L3 hc] 26 wr b (lowB 4 826493762 ++ nb n1 ++ nb n2 ++ nb n3 ++ nb n4 ++ lowB 1 L1 ++ cs.flatMap Core.e2 ++ lowB 1 L2 ++ ps.flatMap Par.e2 ++ lowB 1 L3 ++ (hs.take j).flatMap Chn.e)) (fun _ i _ => L3 - (intOf i).toNat)
          case atStart => exact ⟨0, by omega, rfl, HX3.out.cong (by simp)⟩
          case round =>
            clear cC
            obtain ⟨j, hj, rfl, hP⟩ := hrel
            have HL3 : Hid (((hs.take j).flatMap Chn.e).length ≤ 255 * 12) := flat_take_le Chn.e 12 Chn.e_le hs j (by omega)
            by_cases hlt : j < L3
            · obtain ⟨y, hy⟩ : ∃ y, hs[j]? = some y := ⟨_, List.getElem?_eq_getElem (by have := HA.out.2.2.2.2; omega)⟩
              obtain ⟨g, o, hga, _⟩ := HA.out.2.2.2.1.hseg.at hy
              simp only at hga
              have HHa : Hid (_ = some (⟨g, o, none⟩ : Addr)) := hga
              clear hga
              have HRg : Hid (∀ wk uk ys, PS W (.slice (some ⟨C + 1, 0, none⟩) 4 4) C [.int .i64 n1, .int .i64 n2, .int .i64 n3, .int .i64 n4, .slice ca L1 cc, .slice pa L2 pc, .slice ha L3 hc] 26 wk uk (ys) → (∀ i v, (Chn.vs y)[i]? = some v → wk.cell? ⟨g, o + j * 3 + i, none⟩ = some v) ∧ Cfg.In wk N ⟨n1, n2, n3, n4, ca, cc, cs, pa, pc, ps, ha, hc, hs⟩) := by
                intro wk uk ys hPk
                have hIn := HA.out.2.2.2.1.below (hPk.gr.below HA.out.2.1 HA.out.2.2.1)
                obtain ⟨g', o', ha', hg'⟩ := hIn.hseg.at hy
                rw [HHa.out] at ha'
                cases ha'
                exact ⟨hg', hIn⟩
              have HYd : Hid (Chn.d y = false ∧ (hs.take (j + 1)).flatMap Chn.e = (hs.take j).flatMap Chn.e ++ Chn.e y) := ⟨any_mem HD.out.2.2.2 (List.mem_of_getElem? hy), take_get Chn.e hs j y hy⟩
              have HQ0 : Hid (PS W (.slice (some ⟨C + 1, 0, none⟩) 4 4) C [.int .i64 n1, .int .i64 n2, .int .i64 n3, .int .i64 n4, .slice ca L1 cc, .slice pa L2 pc, .slice ha L3 hc] 26 wr u3 (lowB 4 826493762 ++ nb n1 ++ nb n2 ++ nb n3 ++ nb n4 ++ lowB 1 L1 ++ cs.flatMap Core.e2 ++ lowB 1 L2 ++ ps.flatMap Par.e2 ++ lowB 1 L3 ++ (hs.take j).flatMap Chn.e)) := hP
              clear hy hP
              obtain ⟨f1, f2, f3⟩ := y
              have yc := (HRg.out _ _ _ HQ0.out).1 0 _ rfl
              rw [Nat.add_zero] at yc
              have b1 := HQ0.out.bx.cell (i := 6) rfl
              rw [HHa.out] at b1
              go_wp2_with fail
              refine (fnumber_any u3 (lowB 4 826493762 ++ nb n1 ++ nb n2 ++ nb n3 ++ nb n4 ++ lowB 1 L1 ++ cs.flatMap Core.e2 ++ lowB 1 L2 ++ ps.flatMap Par.e2 ++ lowB 1 L3 ++ (hs.take j).flatMap Chn.e) f1 wr HQ0.out.br (wNs_mem HYd.out.1 (by simp [Chn.ns])) (by (try simp only [List.length_append, nb_length, lowB_len]); (try have := HL0.out); (try have := HL1.out); (try have := HL2.out); (try have := HL3.out); omega)).mono ?_
              rintro e v1 ⟨q1, rfl, hbr, hgr⟩
              have HQ1 : Hid (PS W (.slice (some ⟨C + 1, 0, none⟩) 4 4) C [.int .i64 n1, .int .i64 n2, .int .i64 n3, .int .i64 n4, .slice ca L1 cc, .slice pa L2 pc, .slice ha L3 hc] 26 v1 q1 (lowB 4 826493762 ++ nb n1 ++ nb n2 ++ nb n3 ++ nb n4 ++ lowB 1 L1 ++ cs.flatMap Core.e2 ++ lowB 1 L2 ++ ps.flatMap Par.e2 ++ lowB 1 L3 ++ (hs.take j).flatMap Chn.e ++ nb f1)) := HQ0.out.step hbr hgr
              clear hbr hgr yc b1 HQ0
              have yc := (HRg.out _ _ _ HQ1.out).1 1 _ rfl
              have b1 := HQ1.out.bx.cell (i := 6) rfl
              rw [HHa.out] at b1
              go_wp2_with fail
              refine (fnumber_any q1 (lowB 4 826493762 ++ nb n1 ++ nb n2 ++ nb n3 ++ nb n4 ++ lowB 1 L1 ++ cs.flatMap Core.e2 ++ lowB 1 L2 ++ ps.flatMap Par.e2 ++ lowB 1 L3 ++ (hs.take j).flatMap Chn.e ++ nb f1) f2 v1 HQ1.out.br (wNs_mem HYd.out.1 (by simp [Chn.ns])) (by (try simp only [List.length_append, nb_length, lowB_len]); (try have := HL0.out); (try have := HL1.out); (try have := HL2.out); (try have := HL3.out); omega)).mono ?_
              rintro e v2 ⟨q2, rfl, hbr, hgr⟩
              have HQ2 : Hid (PS W (.slice (some ⟨C + 1, 0, none⟩) 4 4) C [.int .i64 n1, .int .i64 n2, .int .i64 n3, .int .i64 n4, .slice ca L1 cc, .slice pa L2 pc, .slice ha L3 hc] 26 v2 q2 (lowB 4 826493762 ++ nb n1 ++ nb n2 ++ nb n3 ++ nb n4 ++ lowB 1 L1 ++ cs.flatMap Core.e2 ++ lowB 1 L2 ++ ps.flatMap Par.e2 ++ lowB 1 L3 ++ (hs.take j).flatMap Chn.e ++ nb f1 ++ nb f2)) := HQ1.out.step hbr hgr
              clear hbr hgr yc b1 HQ1
              have yc := (HRg.out _ _ _ HQ2.out).1 2 _ rfl
              have b1 := HQ2.out.bx.cell (i := 6) rfl
              rw [HHa.out] at b1
              go_wp2_with fail
              refine (fnumber_any q2 (lowB 4 826493762 ++ nb n1 ++ nb n2 ++ nb n3 ++ nb n4 ++ lowB 1 L1 ++ cs.flatMap Core.e2 ++ lowB 1 L2 ++ ps.flatMap Par.e2 ++ lowB 1 L3 ++ (hs.take j).flatMap Chn.e ++ nb f1 ++ nb f2) f3 v2 HQ2.out.br (wNs_mem HYd.out.1 (by simp [Chn.ns])) (by (try simp only [List.length_append, nb_length, lowB_len]); (try have := HL0.out); (try have := HL1.out); (try have := HL2.out); (try have := HL3.out); omega)).mono ?_
              rintro e v3 ⟨q3, rfl, hbr, hgr⟩
              have HQ3 : Hid (PS W (.slice (some ⟨C + 1, 0, none⟩) 4 4) C [.int .i64 n1, .int .i64 n2, .int .i64 n3, .int .i64 n4, .slice ca L1 cc, .slice pa L2 pc, .slice ha L3 hc] 26 v3 q3 (lowB 4 826493762 ++ nb n1 ++ nb n2 ++ nb n3 ++ nb n4 ++ lowB 1 L1 ++ cs.flatMap Core.e2 ++ lowB 1 L2 ++ ps.flatMap Par.e2 ++ lowB 1 L3 ++ (hs.take j).flatMap Chn.e ++ nb f1 ++ nb f2 ++ nb f3)) := HQ2.out.step hbr hgr
              clear hbr hgr yc b1 HQ2
              have HR : Hid (PS W (.slice (some ⟨C + 1, 0, none⟩) 4 4) C [.int .i64 n1, .int .i64 n2, .int .i64 n3, .int .i64 n4, .slice ca L1 cc, .slice pa L2 pc, .slice ha L3 hc] 26 v3 q3 (lowB 4 826493762 ++ nb n1 ++ nb n2 ++ nb n3 ++ nb n4 ++ lowB 1 L1 ++ cs.flatMap Core.e2 ++ lowB 1 L2 ++ ps.flatMap Par.e2 ++ lowB 1 L3 ++ (hs.take (j + 1)).flatMap Chn.e)) := HQ3.out.cong (by rw [HYd.out.2]; simp only [Chn.e, Chn.ns, nbs, List.flatMap_cons, List.flatMap_nil, List.append_nil, List.append_assoc])
              clear HQ3 HYd HRg HL3
              go_wp2
              go_roundw
              case rel => exact ⟨j + 1, by omega, by go_num, HR.out⟩
              case measure => simp [intOf]; omega
            · have hjL : L3 = j := by omega
              subst hjL
              have HZ : Hid (PS W (.slice (some ⟨C + 1, 0, none⟩) 4 4) C [.int .i64 n1, .int .i64 n2, .int .i64 n3, .int .i64 n4, .slice ca L1 cc, .slice pa L2 pc, .slice ha L3 hc] 26 wr u3 (lowB 4 826493762 ++ nb n1 ++ nb n2 ++ nb n3 ++ nb n4 ++ lowB 1 L1 ++ cs.flatMap Core.e2 ++ lowB 1 L2 ++ ps.flatMap Par.e2 ++ lowB 1 L3 ++ hs.flatMap Chn.e)) := by
                rw [List.take_of_length_le (by have := HA.out.2.2.2.2; omega)] at hP; exact hP
              have HL3 : Hid ((hs.flatMap Chn.e).length ≤ 255 * 12) := by
                have h := HL3.out
                rw [List.take_of_length_le (by have := HA.out.2.2.2.2; omega)] at h; exact h
              clear hP
              have HF : Hid (BR wr u3 (pbody (Cfg.pure ⟨n1, n2, n3, n4, ca, cc, cs, pa, pc, ps, ha, hc, hs⟩)) ∧ (∀ k, Value.ownBlock u3 = some k → w.heap.size ≤ k) ∧ Keeps (fun _ => False) w wr) := by
                have h1 := HZ.out.br
                have hCw := HA.out.2.2.2.2.2.2.2
                refine ⟨by rw [HEE.out]; exact h1, HZ.out.gr.hi (Nat.le_trans HA.out.1.size (Nat.le_refl _)) (fun k hk => by have e2 : C + 1 = k := Option.some.inj hk; omega), HA.out.1.trans HZ.out.gr.kp fun k hk e => ?_⟩
                have e2 : k = C + 1 := Option.some.inj e
                omega
              clear HZ
              go_wp2
              go_ret
              exact ⟨_, rfl, HF.out⟩
end Go.Proofs.YtjadpbkhfclldaaGreat
