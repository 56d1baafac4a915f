import Derived.Test.YtpccdhoaicabcaaRe
import Derived.Test.YtpccdhoaicabcaaRf
import Derived.Test.YtpccdhoaicabcaaBb
namespace Go.Proofs.Ytpccdhoaicabcaa
open Go.RowKit
set_option linter.unusedVariables false
set_option linter.unusedSimpArgs false

set_option maxRecDepth 40000 in
set_option maxHeartbeats 8000000 in
theorem rbuild_any2 (b g n : Nat) (xs : List UInt32) (root : Int) (a2 : Option Addr) (ts : List Int) (c2 : Nat) (a : Option Addr) (rs : List Rgn) (c : Nat) (w : World) (hM : Rn w b g n xs)
    (hl2 : ts.length ≤ c2 ∧ c2 ≤ maxLen) (hs2 : SegI w a2 ts) (hl : rs.length ≤ c ∧ c ≤ maxLen) (hs : SegR w a rs) (hf : ∀ r, r ∈ rs → r.Fine) (ha2 : ts ≠ [] → ∀ x, a2 = some x → x.block ≠ g) (ha : rs ≠ [] → ∀ x, a = some x → x.block ≠ g) :
    Calls Try.prog 27 #[.pointer (some ⟨b, 0, none⟩), .int .i64 root, .slice a2 ts.length c2, .slice a rs.length c] w fun e w' => RbdD w w' b g n xs root ts rs e := by
  have HP : Hid (Rn w b g n xs ∧ SegI w a2 ts ∧ SegR w a rs ∧ (ts ≠ [] → ∀ x, a2 = some x → x.block ≠ g) ∧ (rs ≠ [] → ∀ x, a = some x → x.block ≠ g) ∧ (ts.length ≤ c2 ∧ c2 ≤ maxLen) ∧ (rs.length ≤ c ∧ c ≤ maxLen) ∧ ∀ r, r ∈ rs → r.Fine) := ⟨hM, hs2, hs, ha2, ha, hl2, hl, hf⟩
  have H1 : Hid (Calls _ _ _ _ _) := of_any a rs c w hl hs hf
  have h2c : (ts.length : Int) ≤ 9223372036854775807 := by unfold maxLen at hl2; omega
  have h1c : (rs.length : Int) ≤ 9223372036854775807 := by unfold maxLen at hl; omega
  have hlc : (rs.length : Int) ≤ c := by omega
  obtain ⟨L2, hL2⟩ : ∃ L, L = ts.length := ⟨_, rfl⟩
  obtain ⟨L, hL⟩ : ∃ L, L = rs.length := ⟨_, rfl⟩
  have HL : Hid (L2 = ts.length ∧ L = rs.length) := ⟨hL2, hL⟩
  rw [← hL] at H1 h1c hlc ⊢
  rw [← hL2] at h2c ⊢
  clear hM hs2 hs ha2 ha hl2 hl hf hL hL2
  by_cases h8 : 8 < L
  · have h8' : (8 : Int) < L := by omega
    have HB : Hid (BldP n root ts rs 2) := .inl ⟨.inl (by rw [← HL.out.2]; exact h8), rfl⟩
    clear h8 H1
    go_enter Try.func27, Try.ntmps27
    go_wp2
    go_ret
    exact rbd_no 2 (by omega) HB.out HP.out.1 (Keeps.refl _ _)
  by_cases h16 : 16 < L2
  · have h16' : (16 : Int) < L2 := by omega
    have h8' : ¬ (8 : Int) < L := by omega
    have HB : Hid (BldP n root ts rs 2) := .inl ⟨.inr (by rw [← HL.out.1]; exact h16), rfl⟩
    clear h8 h16 H1
    go_enter Try.func27, Try.ntmps27
    go_wp2
    go_ret
    exact rbd_no 2 (by omega) HB.out HP.out.1 (Keeps.refl _ _)
  have h8' : ¬ (8 : Int) < L := by omega
  have h16' : ¬ (16 : Int) < L2 := by omega
  have HLL : Hid (rs.length ≤ 8 ∧ ts.length ≤ 16) := ⟨by rw [← HL.out.2]; omega, by rw [← HL.out.1]; omega⟩
  clear h8 h16
  go_enter Try.func27, Try.ntmps27
  go_wp2_with fail
  refine H1.out.mono ?_
  rintro e w1 ⟨(⟨hm, rfl⟩ | ⟨hm, rfl, hb⟩), hK⟩
  · have HB : Hid (BldP n root ts rs 95 ∧ Keeps (fun _ => False) w w1) := ⟨.inr (.inl ⟨HLL.out, .inl hm, rfl⟩), hK⟩
    clear hm hK H1
    go_wp2
    go_ret
    exact rbd_no 95 (by omega) HB.out.1 HP.out.1 HB.out.2
  obtain ⟨A, hA⟩ : ∃ A, A = w.heap.size := ⟨_, rfl⟩
  rw [← hA] at hb ⊢
  have H2 : Hid (MayB rs ∧ Keeps (fun _ => False) w w1 ∧ Blk w1 A (tab (idx rs)) 3 ∧ A = w.heap.size) := ⟨hm, hK, hb, hA⟩
  clear hm hK hb hA H1
  go_wp2
  go_loopw [11] (fun i wr => ∃ j : Nat, j ≤ L ∧ i = .int .i64 j ∧ ((rs.take j).any fun r => decide ((n : Int) < r.frame + r.pages)) = false ∧ Keeps (fun _ => False) w1 wr) (fun i _ => L - (intOf i).toNat)
  case atStart => exact ⟨0, by omega, rfl, by simp, Keeps.refl _ _⟩
  case round =>
    obtain ⟨j, hj, rfl, hn, hK⟩ := hrel
    by_cases hlt : j < L
    · obtain ⟨y, hy⟩ : ∃ y, rs[j]? = some y := ⟨_, List.getElem?_eq_getElem (by have := HL.out.2; omega)⟩
      obtain ⟨gr, o, rfl, hg⟩ := ((HP.out.2.2.1.grown H2.out.2.1).grown hK).at hy
      obtain ⟨y0, y1, y2, y3⟩ := hg
      obtain ⟨k1, k2, k3, k4, k5, k6, k7⟩ := (H2.out.1 j y hy).1
      have HF : Hid (∀ k, Calls _ _ _ (wr.drewN k) _) := fun k => rframes_any b g n xs (wr.drewN k) (((HP.out.1.grown H2.out.2.1).grown hK).grown ((Keeps.refl _ wr).drewN k))
      have HJ : Hid (((rs.take j).any fun r => decide ((n : Int) < r.frame + r.pages)) = false ∧ rs[j]? = some y ∧ Keeps (fun _ => False) w1 wr) := ⟨hn, hy, hK⟩
      have hlt' : (j : Int) < L := by omega
      clear hn hK hy k1 k6 k7
      by_cases ho : (n : Int) < y.frame + y.pages
      · have HB : Hid (BldP n root ts rs 95) := .inr (.inl ⟨HLL.out, .inr ⟨y, List.mem_of_getElem? HJ.out.2.1, ho⟩, rfl⟩)
        go_wp2_with fail
        go_quiet (exact (HF.out _).mono fun e w2 h2 => ⟨h2.1, _, h2.2⟩)
        go_wp2
        go_ret
        exact rbd_no 95 (by omega) HB.out HP.out.1 ((H2.out.2.1.trans HJ.out.2.2 fun _ _ h => h).drewN _)
      · have HB : Hid (((rs.take (j + 1)).any fun r => decide ((n : Int) < r.frame + r.pages)) = false) := by
          show _ = false
          rw [List.take_add_one, HJ.out.2.1, List.any_append, HJ.out.1]
          simp; omega
        go_wp2_with fail
        go_quiet (exact (HF.out _).mono fun e w2 h2 => ⟨h2.1, _, h2.2⟩)
        go_wp2
        go_roundw
        case rel => exact ⟨j + 1, by omega, by go_num, HB.out, HJ.out.2.2.drewN _⟩
        case measure => simp [intOf]; omega
    obtain rfl : j = L := by omega
    have HO : Hid (¬ Outs n rs ∧ Keeps (fun _ => False) w1 wr) := by
      rw [List.take_of_length_le (by have := HL.out.2; omega)] at hn
      exact ⟨(fun h => by have := outs_any.2 h; rw [hn] at this; cases this), hK⟩
    have hkk := H2.out.2.1.trans hK fun _ _ h => h
    have H3 := rtables_any a rs c wr HP.out.2.2.2.2.2.2.1 (HP.out.2.2.1.grown hkk) HP.out.2.2.2.2.2.2.2
    rw [← HL.out.2] at H3
    have H3 : Hid (Calls _ _ _ _ _) := H3
    clear hn hK hkk
    go_wp2_with fail
    refine H3.out.mono ?_
    rintro e w2 ⟨⟨m, z, rfl, hT⟩, hK2⟩
    have hTT : m = cnt (findL rs) 16 ∧ z = 0 := by
      rcases hT with h | h | h
      · have := HLL.out; omega
      · exact absurd H2.out.1 h.2.1
      · exact ⟨h.2.2.1, h.2.2.2⟩
    have H4 : Hid (m = cnt (findL rs) 16 ∧ Keeps (fun _ => False) w w2 ∧ Blk w2 A (tab (idx rs)) 3) := by
      have hk' := HO.out.2.trans hK2 fun _ _ h => h
      exact ⟨hTT.1, H2.out.2.1.trans hk' fun _ _ h => h, H2.out.2.2.1.kept hk' fun h => h⟩
    clear hT hTT hK2 H3
    by_cases hmm : m = L2
    · have hmm' : ((m : Int) != (L2 : Int)) = false := by simp; omega
      have HMM : Hid (ts.length = cnt (findL rs) 16) := by show ts.length = _; rw [← HL.out.1, ← H4.out.1]; exact hmm.symm
      obtain ⟨v1, W1, v2, W2, q1, q2, q3, ga, ca, rfl, q4, q5, q6⟩ := append_all w2 root a2 ts c2 (HP.out.2.1.grown H4.out.2.1) HLL.out.2
      rw [← HL.out.1] at q2 q4
      have Q1 : Hid (∀ ty, _) := q1
      have Q2 : Hid (∀ ty, _) := q2
      have H5 := unlike_any b g n xs (some ⟨ga, 0, none⟩) (root :: ts) ca W2 (HP.out.1.grown (H4.out.2.1.trans q3 fun _ _ h => h)) ⟨by rw [List.length_cons, ← HL.out.1]; exact q4, q5⟩ q6
      rw [List.length_cons, ← HL.out.1] at H5
      have H5 : Hid (Calls _ _ _ _ _) := H5
      have H6 : Hid (Keeps (fun _ => False) w W2 ∧ Blk W2 A (tab (idx rs)) 3) := ⟨H4.out.2.1.trans q3 fun _ _ h => h, H4.out.2.2.kept q3 fun h => h⟩
      clear q1 q2 q3 q4 q5 q6 hmm
      go_wp2_with (at_builtin; go_must (refine wpList_append_run rfl (.tmp 66) (.tmp 68) 28 28 rfl _ _ _ W1 rfl rfl Q1.out ?_; refine Hid.out ?_))
      unfold Hid
      go_wp2_with (at_builtin; go_must (refine wpList_append_run rfl (.tmp 70) (.tmp 71) 28 28 rfl _ _ _ W2 rfl rfl Q2.out ?_; refine Hid.out ?_))
      unfold Hid
      go_wp2_with fail
      refine H5.out.mono ?_
      rintro e w3 ⟨⟨y, rfl, hy⟩, hK3⟩
      have H7 : Hid (Keeps (fun _ => False) w w3 ∧ Blk w3 A (tab (idx rs)) 3) := ⟨H6.out.1.trans hK3 fun _ _ h => h, H6.out.2.kept hK3 fun h => h⟩
      rw [uq_apart] at hy
      clear hK3 H5 H6 Q1 Q2
      cases y
      · have HB : Hid (BldP n root ts rs 91) := .inr (.inr (.inr (.inl ⟨HLL.out, ⟨H2.out.1, HO.out.1⟩, HMM.out, (fun h => by have := hy.2 h; cases this), rfl⟩)))
        clear hy
        go_wp2
        go_ret
        exact rbd_no 91 (by omega) HB.out HP.out.1 H7.out.1
      · have HA : Hid (Apart n root ts) := hy.1 rfl
        clear hy
        obtain ⟨r, hr⟩ := Int.eq_ofNat_of_zero_le HA.out.1.1
        subst hr
        have hlays : Lays (findL rs) ts r n xs := ⟨HP.out.1.len, by have := HA.out.1; omega, fun t ht => by
            obtain ⟨k, hk⟩ := List.mem_iff_getElem?.1 ht
            exact (HA.out.2 k t hk).1, fun t ht => by
            obtain ⟨k, hk⟩ := List.mem_iff_getElem?.1 ht
            exact (HA.out.2 k t hk).2.1, HMM.out.symm⟩
        have hnn := HP.out.1.small
        have HLy : Hid (Lays (findL rs) ts r n xs ∧ n ≤ 1024) := ⟨hlays, hnn⟩
        have hrn : (r : Int) < 1024 := by have := hlays.rl; omega
        have hgA : g < w.heap.size := HP.out.1.row.lt
        have HAg : Hid (A ≠ g ∧ b ≠ g) := ⟨by have := H2.out.2.2.2; omega, HP.out.1.ne⟩
        clear hlays hnn hgA
        go_wp2
        go_loopw [16, 15] (fun i m wr => ∃ t : Nat, t ≤ 16 ∧ i = .int .i64 t ∧ m = .int .i64 (cnt (findL rs) t : Nat) ∧ Rn wr b g n (rlaid (findL rs) ts r xs t) ∧ Keeps (· = g) w3 wr) (fun i _ _ => 16 - (intOf i).toNat)
        case atStart => exact ⟨0, by omega, rfl, rfl, by rw [rlaid_zero]; exact HP.out.1.grown H7.out.1, Keeps.refl _ _⟩
        case round =>
          obtain ⟨t, ht, rfl, rfl, hR, hKt⟩ := hrel
          by_cases ht16 : t < 16
          · have hlen := HLy.out.1.rlaid_len t ht
            have hpos : 16 * r + t < (rlaid (findL rs) ts r xs t).length := by rw [hlen]; have := HLy.out.1.rl; omega
            have cb := hR.blk.cell (i := 0) rfl
            have cw := hR.row.cell (wvs_get _ _ hpos)
            have zw := hR.row.frozen (16 * r + t)
            rw [hlen] at cb
            obtain ⟨v0, hv0⟩ : ∃ v0 : Nat, v0 = ((rlaid (findL rs) ts r xs t)[16 * r + t]'hpos).toNat := ⟨_, rfl⟩
            rw [← hv0] at cw
            have hpos' : (16 : Int) * r + t < ((n * 16 : Nat) : Int) := by omega
            obtain ⟨N, hN⟩ : ∃ N, N = n * 16 := ⟨_, rfl⟩
            rw [← hN] at cb hpos'
            obtain ⟨wa, hwa⟩ : ∃ wa, wa = wr.setCell ⟨g, 16 * r + t, none⟩ (.int .u32 0) := ⟨_, rfl⟩
            have hRa : Rn wa b g n (lay (rlaid (findL rs) ts r xs t) (16 * r + t) [0]) := by rw [hwa]; exact hR.set (16 * r + t) 0 hpos
            have hKa : Keeps (· = g) wr wa := by rw [hwa]; exact (Keeps.refl (· = g) wr).setCell _ _ fun _ => rfl
            have hKwa := hKt.trans hKa fun _ _ h => h
            have hba : Blk wa A (tab (idx rs)) 3 := H7.out.2.kept hKwa HAg.out.1
            have HN := needs_any A rs t wa hba ht16
            have hC16 : ((cnt (findL rs) t : Nat) : Int) ≤ 16 := by have := cnt_le (findL rs) t; omega
            have ht' : (t : Int) < 16 := by omega
            obtain ⟨C, hC⟩ : ∃ C, C = cnt (findL rs) t := ⟨_, rfl⟩
            rw [← hC] at hC16 ⊢
            have HW : Hid (wa = wr.setCell ⟨g, 16 * r + t, none⟩ (.int .u32 0) ∧ Rn wa b g n (lay (rlaid (findL rs) ts r xs t) (16 * r + t) [0]) ∧ Keeps (· = g) w3 wa ∧ N = n * 16 ∧ C = cnt (findL rs) t) := ⟨hwa, hRa, hKwa, hN, hC⟩
            clear hwa hRa hKa hKwa hba hN hC hv0 hpos hlen hR hKt
            cases hnd : needB (findL rs) t
            · rw [hnd] at HN
              have HN : Hid (Calls _ _ _ _ _) := HN
              have HX : Hid (Rn wa b g n (rlaid (findL rs) ts r xs (t + 1)) ∧ cnt (findL rs) (t + 1) = C) := ⟨by rw [← rlaid_no HLy.out.1 ht16 hnd]; exact HW.out.2.1, by rw [cnt_no hnd, HW.out.2.2.2.2]⟩
              clear hnd
              go_wp2_with fail
              rw [← HW.out.1]
              refine HN.out.mono ?_
              rintro e wb ⟨rfl, hw⟩
              obtain rfl := hw.symm
              clear hw
              go_wp2
              go_roundw
              case rel => exact ⟨t + 1, by omega, by go_num, by rw [HX.out.2], HX.out.1, HW.out.2.2.1⟩
              case measure => simp [intOf]; omega
            · rw [hnd] at HN
              have HN : Hid (Calls _ _ _ _ _) := HN
              obtain ⟨T, hT1, hT2, hT3, hT4⟩ := HLy.out.1.tab ht16 hnd
              rw [← HW.out.2.2.2.2] at hT1
              obtain ⟨g2, o2, rfl, ct⟩ := ((HP.out.2.1.grown H7.out.1).kept3 HW.out.2.2.1 fun n0 x hx => HP.out.2.2.2.1 n0 x hx).at hT1
              have hg2 : g2 ≠ g := HP.out.2.2.2.1 (List.ne_nil_of_mem (List.mem_of_getElem? hT1)) _ rfl
              have hbg : b ≠ g := HAg.out.2
              have hCL : (C : Int) < L2 := by
                have := (List.getElem?_eq_some_iff.1 hT1).1
                have := HL.out.1
                omega
              have hRa := HW.out.2.1
              have hlen : (lay (rlaid (findL rs) ts r xs t) (16 * r + t) [0]).length = n * 16 := hRa.len
              have hpos : 16 * r + t < (lay (rlaid (findL rs) ts r xs t) (16 * r + t) [0]).length := by rw [hlen]; have := HLy.out.1.rl; omega
              have cb1 := hRa.blk.cell (i := 0) rfl
              have cw1 := hRa.row.cell (wvs_get _ _ hpos)
              have zw1 := hRa.row.frozen (16 * r + t)
              rw [hlen, ← HW.out.2.2.2.1] at cb1
              obtain ⟨v1, hv1⟩ : ∃ v0 : Nat, v0 = ((lay (rlaid (findL rs) ts r xs t) (16 * r + t) [0])[16 * r + t]'hpos).toNat := ⟨_, rfl⟩
              rw [← hv1] at cw1
              have HE := fun w => rencode_in T 0 w (by have := HLy.out.2; omega) (by omega)
              obtain ⟨Z, hZ⟩ : ∃ Z, Z = (enc T 0).toNat := ⟨_, rfl⟩
              rw [← hZ] at HE
              have HE : Hid (∀ w, Calls _ _ _ w _) := HE
              have hT4' : (T : Int) < 1024 := by have := HLy.out.2; omega
              obtain ⟨wc, hwc⟩ : ∃ wc, wc = (wa.setCell ⟨g, 16 * r + t, none⟩ (.int .u32 Z)).drew := ⟨_, rfl⟩
              have hRc : Rn wc b g n (rmid (findL rs) ts r xs t 0) := by
                rw [← rmid_zero HLy.out.1 ht16 0, topW_yes hnd, hT2, Int.toNat_natCast, hwc, hZ]
                exact (hRa.set (16 * r + t) (enc T 0) hpos).grown ((Keeps.refl _ _).drew)
              have hKc : Keeps (· = g) w3 wc := by rw [hwc]; exact (HW.out.2.2.1.setCell _ _ fun _ => rfl).drew
              have HW2 : Hid (wc = (wa.setCell ⟨g, 16 * r + t, none⟩ (.int .u32 Z)).drew ∧ Rn wc b g n (rmid (findL rs) ts r xs t 0) ∧ Keeps (· = g) w3 wc ∧ needB (findL rs) t = true ∧ ts.getD (cnt (findL rs) t) 0 = (T : Int) ∧ T < n ∧ ts[C]? = some (T : Int)) := ⟨hwc, hRc, hKc, hnd, hT2, hT3, hT1⟩
              clear hwc hRc hKc hnd hT1 hT2 hT3 hT4 hRa hlen hpos hv1 hZ
              go_wp2_with fail
              rw [← HW.out.1]
              refine HN.out.mono ?_
              rintro e wb ⟨rfl, hw⟩
              obtain rfl := hw.symm
              clear hw
              have hw1 : IntKind.i64.wrap ((16 : Int) * r) = 16 * r := by rw [IntKind.wrap_i64]; omega
              have hw2 : IntKind.i64.wrap ((16 : Int) * r + t) = 16 * r + t := by rw [IntKind.wrap_i64]; omega
              have hi0 : (0 : Int) ≤ 16 * r + t := by omega
              have hw3 : ((16 : Int) * r + t).toNat = 16 * r + t := by omega
              have hS : wa.cell? ⟨b, 0, none⟩ = some (.slice (some ⟨g, 0, none⟩) N N) ∧ wa.cell? ⟨g2, o2 + C, none⟩ = some (.int .i64 T) := ⟨cb1, ct⟩
              have hKs : Keeps (· = g) wa (wa.setCell ⟨g, 16 * r + t, none⟩ (.int .u32 Z)).drew := ((Keeps.refl (· = g) wa).setCell _ _ fun _ => rfl).drew
              have hS2 : (wa.setCell ⟨g, 16 * r + t, none⟩ (.int .u32 Z)).drew.cell? ⟨b, 0, none⟩ = some (.slice (some ⟨g, 0, none⟩) N N) ∧ (wa.setCell ⟨g, 16 * r + t, none⟩ (.int .u32 Z)).drew.cell? ⟨g2, o2 + C, none⟩ = some (.int .i64 T) := ⟨cell_kept cb1 hKs hbg, cell_kept ct hKs hg2⟩
              clear hKs
              go_wp2_with fail
              go_region_held3 (fun w' => w'.cell? ⟨b, 0, none⟩ = some (.slice (some ⟨g, 0, none⟩) N N) ∧ w'.cell? ⟨g2, o2 + C, none⟩ = some (.int .i64 T)) (first | exact hS | exact hS2 | go_keep)
                (first | (go_at_call 44; refine (HE.out _).mono ?_; rintro e w9 ⟨rfl, hw⟩; obtain rfl := hw.symm; clear hw))
              rw [← HW2.out.1]
              rw [← HW2.out.1] at hS2
              have cb2 := hS2.1
              have ct2 := hS2.2
              clear hS hS2 cb1 cw1 zw1 ct HN HE cb cw zw hw1 hw2 hi0 hw3
              go_wp2
              go_loopw [17] (fun i wr => ∃ k : Nat, k ≤ 16 ∧ i = .int .i64 k ∧ Rn wr b g n (rmid (findL rs) ts r xs t k) ∧ Keeps (· = g) w3 wr) (fun i _ => 16 - (intOf i).toNat)
              case atStart => exact ⟨0, by omega, rfl, HW2.out.2.1, HW2.out.2.2.1⟩
              case round =>
                obtain ⟨k, hk, rfl, hR, hKk⟩ := hrel
                by_cases hk16 : k < 16
                · have hlen := rmid_len HLy.out.1 ht16 HW2.out.2.2.2.1 hk (i := k)
                  have hTn := HW2.out.2.2.2.2.2.1
                  have hpos : 16 * T + k < (rmid (findL rs) ts r xs t k).length := by rw [hlen]; omega
                  have cb3 := hR.blk.cell (i := 0) rfl
                  have cw3 := hR.row.cell (wvs_get _ _ hpos)
                  have zw3 := hR.row.frozen (16 * T + k)
                  rw [hlen, ← HW.out.2.2.2.1] at cb3
                  obtain ⟨v3, hv3⟩ : ∃ v0 : Nat, v0 = ((rmid (findL rs) ts r xs t k)[16 * T + k]'hpos).toNat := ⟨_, rfl⟩
                  rw [← hv3] at cw3
                  obtain ⟨g3, o3, e3, ct3⟩ := ((HP.out.2.1.grown H7.out.1).kept3 hKk fun n0 x hx => HP.out.2.2.2.1 n0 x hx).at HW2.out.2.2.2.2.2.2
                  injection e3 with e3; injection e3 with e3 e3'
                  subst e3 e3'
                  have hk' : (k : Int) < 16 := by omega
                  have hNi : (16 : Int) * T + k < N := by have := HW.out.2.2.2.1; omega
                  have hw1 : IntKind.i64.wrap ((16 : Int) * T) = 16 * T := by rw [IntKind.wrap_i64]; omega
                  have hw2 : IntKind.i64.wrap ((16 : Int) * T + k) = 16 * T + k := by rw [IntKind.wrap_i64]; omega
                  have hi0 : (0 : Int) ≤ 16 * T + k := by omega
                  have hw3 : ((16 : Int) * T + k).toNat = 16 * T + k := by omega
                  obtain ⟨wd, hwd⟩ : ∃ wd, wd = (wr.setCell ⟨g, 16 * T + k, none⟩ (.int .u32 0)).drew := ⟨_, rfl⟩
                  have hKs : Keeps (· = g) wr wd := by rw [hwd]; exact ((Keeps.refl (· = g) wr).setCell _ _ fun _ => rfl).drew
                  have hRd : Rn wd b g n (lay (rmid (findL rs) ts r xs t k) (16 * T + k) [0]) := by rw [hwd]; exact (hR.set (16 * T + k) 0 hpos).grown ((Keeps.refl _ _).drew)
                  have hKd := hKk.trans hKs fun _ _ h => h
                  have hba : Blk wd A (tab (idx rs)) 3 := H7.out.2.kept hKd HAg.out.1
                  have hS : wr.cell? ⟨b, 0, none⟩ = some (.slice (some ⟨g, 0, none⟩) N N) ∧ wr.cell? ⟨g2, o2 + C, none⟩ = some (.int .i64 T) := ⟨cb3, ct3⟩
                  have hS2 : wd.cell? ⟨b, 0, none⟩ = some (.slice (some ⟨g, 0, none⟩) N N) ∧ wd.cell? ⟨g2, o2 + C, none⟩ = some (.int .i64 T) := ⟨cell_kept cb3 hKs hbg, cell_kept ct3 hKs hg2⟩
                  have cof := hba.cell (tab_get (idx rs) (16 * t + k) (by omega))
                  have HD : Hid (wd = (wr.setCell ⟨g, 16 * T + k, none⟩ (.int .u32 0)).drew ∧ Rn wd b g n (lay (rmid (findL rs) ts r xs t k) (16 * T + k) [0]) ∧ Keeps (· = g) w3 wd ∧ (rmid (findL rs) ts r xs t k).length = n * 16) := ⟨hwd, hRd, hKd, hlen⟩
                  have hpt : (16 : Int) * t + k < 256 := by omega
                  rw [hwd] at hS2
                  clear hlen hTn hpos hv3 hwd hKs hRd hKd hba hR hKk cb2 ct2
                  go_wp2_with fail
                  go_region_held3 (fun w' => w'.cell? ⟨b, 0, none⟩ = some (.slice (some ⟨g, 0, none⟩) N N) ∧ w'.cell? ⟨g2, o2 + C, none⟩ = some (.int .i64 T)) (first | exact hS | exact hS2 | go_keep) (fail)
                  rw [← HD.out.1]
                  rw [← HD.out.1] at hS2
                  clear hS cb3 cw3 zw3 ct3 hw3 hi0
                  by_cases hx : 0 ≤ idx rs (16 * t + k)
                  · obtain ⟨i, y, hi1, hi2, ⟨o1, o2', o3', o4, o5, o6, o7⟩, hi4, hi5, hi6⟩ := idx_at H2.out.1 hx
                    rw [hi1] at cof
                    obtain ⟨gr, or', rfl, y0, y1, y2, y3⟩ := ((HP.out.2.2.1.grown H7.out.1).kept3 HD.out.2.2.1 fun n0 x hx => HP.out.2.2.2.2.1 n0 x hx).at hi2
                    have hiL : (i : Int) < j := by have := (List.getElem?_eq_some_iff.1 hi2).1; have := HL.out.2; omega
                    have hxi : (0 : Int) ≤ i := by omega
                    obtain ⟨F, hF⟩ : ∃ F : Nat, F = (y.frame + (((16 * t + k : Nat) : Int) - y.page)).toNat := ⟨_, rfl⟩
                    have hFi : (F : Int) = y.frame + ((16 : Int) * t + k) - y.page := by omega
                    have hF1 : F < 1024 := by omega
                    obtain ⟨Rr, hRr⟩ : ∃ R : Nat, R = y.rights.toNat := ⟨_, rfl⟩
                    have hRi : (Rr : Int) = y.rights := by omega
                    have HE := fun w => rencode_in F Rr w hF1 (by omega)
                    obtain ⟨Z2, hZ2⟩ : ∃ Z, Z = (enc F Rr).toNat := ⟨_, rfl⟩
                    rw [← hZ2, hFi, hRi] at HE
                    have HE : Hid (∀ w, Calls _ _ _ w _) := HE
                    have henc : encO (findL rs (t * 16 + k)) = enc F Rr := by rw [Nat.mul_comm, hi6, hF, hRr]; rfl
                    obtain ⟨we, hwe⟩ : ∃ we, we = wd.alloc (.cells #[.int .i64 y.page, .int .i64 y.pages, .int .i64 y.frame, .int .i64 y.rights] 54) := ⟨_, rfl⟩
                    have hKe : Keeps (fun _ => False) wd we := by rw [hwe]; exact (Keeps.refl _ wd).alloc _
                    have hBe : Blk we wd.heap.size y.vs 54 := by rw [hwe]; exact Blk.new wd _ 54
                    have hRe := HD.out.2.1.grown hKe
                    have hlen2 : (lay (rmid (findL rs) ts r xs t k) (16 * T + k) [0]).length = n * 16 := hRe.len
                    have hpos2 : 16 * T + k < (lay (rmid (findL rs) ts r xs t k) (16 * T + k) [0]).length := by rw [hlen2]; have := HW2.out.2.2.2.2.2.1; omega
                    have cw4 := hRe.row.cell (wvs_get _ _ hpos2)
                    have zw4 := hRe.row.frozen (16 * T + k)
                    obtain ⟨v4, hv4⟩ : ∃ v0 : Nat, v0 = ((lay (rmid (findL rs) ts r xs t k) (16 * T + k) [0])[16 * T + k]'hpos2).toNat := ⟨_, rfl⟩
                    rw [← hv4] at cw4
                    have hgl : wd.heap.size ≠ g := by have := HD.out.2.1.row.lt; omega
                    obtain ⟨wf, hwf⟩ : ∃ wf, wf = (we.setCell ⟨g, 16 * T + k, none⟩ (.int .u32 Z2)).drew := ⟨_, rfl⟩
                    have hKf : Keeps (· = g) we wf := by rw [hwf]; exact ((Keeps.refl (· = g) we).setCell _ _ fun _ => rfl).drew
                    have hS3 : we.cell? ⟨b, 0, none⟩ = some (.slice (some ⟨g, 0, none⟩) N N) ∧ we.cell? ⟨g2, o2 + C, none⟩ = some (.int .i64 T) ∧ we.cell? ⟨wd.heap.size, 0, none⟩ = some (.int .i64 y.page) ∧ we.cell? ⟨wd.heap.size, 2, none⟩ = some (.int .i64 y.frame) ∧ we.cell? ⟨wd.heap.size, 3, none⟩ = some (.int .i64 y.rights) := ⟨cell_kept hS2.1 hKe fun h => h, cell_kept hS2.2 hKe fun h => h, hBe.cell rfl, hBe.cell rfl, hBe.cell rfl⟩
                    have hS4 : wf.cell? ⟨b, 0, none⟩ = some (.slice (some ⟨g, 0, none⟩) N N) ∧ wf.cell? ⟨g2, o2 + C, none⟩ = some (.int .i64 T) ∧ wf.cell? ⟨wd.heap.size, 0, none⟩ = some (.int .i64 y.page) ∧ wf.cell? ⟨wd.heap.size, 2, none⟩ = some (.int .i64 y.frame) ∧ wf.cell? ⟨wd.heap.size, 3, none⟩ = some (.int .i64 y.rights) := ⟨cell_kept hS3.1 hKf hbg, cell_kept hS3.2.1 hKf hg2, cell_kept hS3.2.2.1 hKf hgl, cell_kept hS3.2.2.2.1 hKf hgl, cell_kept hS3.2.2.2.2 hKf hgl⟩
                    have HF : Hid (we = wd.alloc (.cells #[.int .i64 y.page, .int .i64 y.pages, .int .i64 y.frame, .int .i64 y.rights] 54) ∧ wf = (we.setCell ⟨g, 16 * T + k, none⟩ (.int .u32 Z2)).drew ∧ Rn wf b g n (rmid (findL rs) ts r xs t (k + 1)) ∧ Keeps (· = g) w3 wf) := by
                      refine ⟨hwe, hwf, ?_, ?_⟩
                      · rw [← rmid_step HLy.out.1 ht16 HW2.out.2.2.2.1 hk16 HW2.out.2.2.2.2.1 HW2.out.2.2.2.2.2.1, henc, ← lay_over _ _ 0 _ (by rw [HD.out.2.2.2]; have := HW2.out.2.2.2.2.2.1; omega), hwf, hZ2]
                        exact (hRe.set (16 * T + k) (enc F Rr) hpos2).grown ((Keeps.refl _ _).drew)
                      · exact (HD.out.2.2.1.trans hKe fun _ _ h => h.elim).trans hKf fun _ _ h => h
                    have hu1 : IntKind.i64.wrap (y.frame + ((16 : Int) * t + k)) = y.frame + ((16 : Int) * t + k) := by rw [IntKind.wrap_i64]; omega
                    have hu2 : IntKind.i64.wrap (y.frame + ((16 : Int) * t + k) - y.page) = y.frame + ((16 : Int) * t + k) - y.page := by rw [IntKind.wrap_i64]; omega
                    have hi0 : (0 : Int) ≤ 16 * T + k := by omega
                    have hw3 : ((16 : Int) * T + k).toNat = 16 * T + k := by omega
                    rw [hwf] at hS4
                    clear hx hi1 hi2 o1 o2' o3' o4 o5 o6 o7 hi4 hi5 hi6 hF hFi hF1 hRr hRi hZ2 henc hwe hKe hBe hRe hlen2 hpos2 hv4 hwf hKf hS2
                    go_wp2_with fail
                    rw [← HF.out.1]
                    go_region_held3 (fun w' => w'.cell? ⟨b, 0, none⟩ = some (.slice (some ⟨g, 0, none⟩) N N) ∧ w'.cell? ⟨g2, o2 + C, none⟩ = some (.int .i64 T) ∧ w'.cell? ⟨wd.heap.size, 0, none⟩ = some (.int .i64 y.page) ∧ w'.cell? ⟨wd.heap.size, 2, none⟩ = some (.int .i64 y.frame) ∧ w'.cell? ⟨wd.heap.size, 3, none⟩ = some (.int .i64 y.rights)) (first | exact hS3 | exact hS4 | go_keep)
                      (first | (go_at_call 44; refine (HE.out _).mono ?_; rintro e w9 ⟨rfl, hw⟩; obtain rfl := hw.symm; clear hw))
                    rw [← HF.out.2.1]
                    clear hS3 hS4 cw4 zw4
                    go_wp2
                    go_roundw
                    case rel => exact ⟨k + 1, by omega, by go_num, HF.out.2.2.1, HF.out.2.2.2⟩
                    case measure => simp [intOf]; omega
                  · have HX : Hid (Rn wd b g n (rmid (findL rs) ts r xs t (k + 1))) := by
                      have hnone : findL rs (t * 16 + k) = none := by
                        have := idx_find rs (16 * t + k)
                        rw [decide_eq_false hx, Nat.mul_comm] at this
                        exact Option.isNone_iff_eq_none.1 (by rw [Option.isNone_iff_eq_none]; cases hq : findL rs (t * 16 + k) with
                          | none => rfl
                          | some q => rw [hq] at this; simp at this)
                      show Rn wd b g n _
                      rw [← rmid_step HLy.out.1 ht16 HW2.out.2.2.2.1 hk16 HW2.out.2.2.2.2.1 HW2.out.2.2.2.2.2.1, hnone]
                      exact HD.out.2.1
                    obtain ⟨v5, hv5⟩ : ∃ v, v = idx rs (16 * t + k) := ⟨_, rfl⟩
                    rw [← hv5] at cof hx
                    clear hv5 hS2
                    go_wp2
                    go_roundw
                    case rel => exact ⟨k + 1, by omega, by go_num, HX.out, HD.out.2.2.1⟩
                    case measure => simp [intOf]; omega
                · obtain rfl : k = 16 := by omega
                  have HF : Hid (Rn wr b g n (rlaid (findL rs) ts r xs (t + 1)) ∧ Keeps (· = g) w3 wr ∧ cnt (findL rs) (t + 1) = C + 1) := ⟨by rw [← rmid_full HLy.out.1 ht16 HW2.out.2.2.2.1]; exact hR, hKk, by rw [cnt_yes HW2.out.2.2.2.1, HW.out.2.2.2.2]⟩
                  clear hR hKk
                  go_wp2
                  go_roundw
                  case rel => exact ⟨t + 1, by omega, by go_num, by rw [HF.out.2.2]; go_num, HF.out.1, HF.out.2.1⟩
                  case measure => simp [intOf]; omega
          · obtain rfl : t = 16 := by omega
            have HF : Hid (Rn wr b g n (builtL (findL rs) ts r xs) ∧ Keeps (· = g) w wr) := ⟨by rw [← rlaid_full]; exact hR, (H7.out.1.mono fun _ _ h => h.elim).trans hKt fun _ _ h => h⟩
            clear hR hKt
            go_wp2
            go_ret
            exact ⟨0, rfl, .inr (.inr (.inr (.inr ⟨HLL.out, ⟨H2.out.1, HO.out.1⟩, HMM.out, HA.out, rfl⟩))), HF.out.1, HF.out.2⟩
    · have hmm' : ((m : Int) != (L2 : Int)) = true := by rw [bne_iff_ne]; omega
      have HB : Hid (BldP n root ts rs 94) := .inr (.inr (.inl ⟨HLL.out, ⟨H2.out.1, HO.out.1⟩, fun h => hmm (by rw [HL.out.1, h, H4.out.1]), rfl⟩))
      clear hmm
      go_wp2
      go_ret
      exact rbd_no 94 (by omega) HB.out HP.out.1 H4.out.2.1

end Go.Proofs.Ytpccdhoaicabcaa
