import Derived.Test.YtnkfdmlpjgmckaaZ
namespace Go.Proofs.Ytnkfdmlpjgmckaa
open Go.RowKit
set_option linter.unusedVariables false
set_option maxRecDepth 6000

set_option maxHeartbeats 2000000 in
theorem rrounds_any (x : Cfg) (w : World) (N : Nat) (hi : x.In w N) (hN : N ≤ w.heap.size) :
    Calls Try.prog 44 #[x.v] w fun e w' => e = .returned (.int .i64 (rounds x.cs)) ∧ Keeps (fun _ => False) w w' := by
  obtain ⟨W, hW⟩ : ∃ W, W = x.laid w := ⟨_, rfl⟩
  obtain ⟨C, hC⟩ : ∃ C, C = w.heap.size := ⟨_, rfl⟩
  have HO : Hid (One w x C N W) := by rw [hW, hC]; exact One.mk' hi hN
  have hcc : (x.cs.length : Int) ≤ x.cc ∧ (x.cc : Int) ≤ 9223372036854775807 := by have := hi.clen; unfold maxLen at this; omega
  obtain ⟨L, hL⟩ : ∃ L, x.cs.length = L := ⟨_, rfl⟩
  have HL : Hid (x.cs.length = L) := hL
  obtain ⟨R, hR⟩ : ∃ R, rounds x.cs = R := ⟨_, rfl⟩
  have HR : Hid (rounds x.cs = R) := hR
  rw [hR]
  obtain ⟨c0, c1, c2, c3, c4, c5, c6⟩ := HO.out.cells
  rw [hL] at c4 hcc
  clear hi hN hR
  unfold Cfg.laid at hW
  unfold Cfg.v
  rw [hL] at hW ⊢
  clear hL
  go_enter Try.func44, Try.ntmps44
  go_upto_region 1 with fail
  rw [← hW, ← hC]
  clear hW hC
  by_cases h0 : L = 0
  · subst h0
    have e0 : R = 0 := by rw [← HR.out]; unfold rounds; rw [if_pos (.inl HL.out)]
    go_wp2
    go_ret
    rw [e0]
    exact ⟨rfl, HO.out.keeps⟩
  have h0' : decide ((L : Int) < 1) = false := by simp; omega
  by_cases h4 : 4 < L
  · have h4' : decide (4 < (L : Int)) = true := by simp; omega
    have e0 : R = 0 := by rw [← HR.out]; unfold rounds; rw [if_pos (.inr (.inl (by rw [HL.out]; exact h4)))]
    go_wp2
    go_ret
    rw [e0]
    exact ⟨rfl, HO.out.keeps⟩
  have h4' : decide (4 < (L : Int)) = false := by simp; omega
  have HC : Hid (Calls Try.prog 37 #[.agg #[.int .i64 x.frames, .int .i64 x.major, .int .i64 x.kernel, .int .i64 x.room, .slice x.ca L x.cc, .slice x.pa x.ps.length x.pc, .slice x.ha x.hs.length x.hc]] W fun e w' => e = .returned (.bool (allMay x.cs)) ∧ Keeps (fun _ => False) W w') := by
    have h := rall_any x W N HO.out.cin HO.out.nn
    unfold Cfg.v at h
    rw [HL.out] at h
    exact h
  go_wp2_with fail
  refine HC.out.mono ?_
  rintro e w1 ⟨rfl, hK⟩
  have HO1 : Hid (One w x C N w1) := HO.out.kept hK
  clear hK HC HO c0 c1 c2 c3 c4 c5 c6
  obtain ⟨b, hb⟩ : ∃ b, allMay x.cs = b := ⟨_, rfl⟩
  rw [hb]
  have HB : Hid (allMay x.cs = b) := hb
  clear hb
  cases b with
  | false =>
    have e0 : R = 0 := by rw [← HR.out]; unfold rounds; rw [if_pos (.inr (.inr HB.out))]
    go_wp2
    go_ret
    rw [e0]
    exact ⟨rfl, HO1.out.keeps⟩
  | true =>
    have ER : Hid (R = 4 + mxC L x.cs L) := by unfold Hid; rw [← HR.out]; unfold rounds; rw [if_neg (by rw [HB.out, HL.out]; simp; omega), HL.out]
    go_wp2
    go_loopw [4, 5] (fun z i wr => ∃ j : Nat, j ≤ L ∧ i = .int .i64 j ∧ z = .int .i64 (mxC L x.cs j) ∧ One w x C N wr) (fun _ i _ => L - (intOf i).toNat)
    case atStart => exact ⟨0, by omega, rfl, rfl, HO1.out⟩
    case round =>
      obtain ⟨k, hk, rfl, rfl, hO⟩ := hrel
      clear HO1
      have hb3 := mxC_bound (n := L) (by omega) HB.out k
      obtain ⟨M, hM⟩ : ∃ B, mxC L x.cs k = B := ⟨_, rfl⟩
      rw [hM] at hb3 ⊢
      by_cases hlt : k < L
      · obtain ⟨X, hX⟩ : ∃ X, x.cs[k]? = some X := ⟨_, List.getElem?_eq_getElem (by have := HL.out; omega)⟩
        have hm : may X.ws = true := by have h := HB.out; unfold allMay at h; rw [List.all_eq_true] at h; exact h X (List.mem_of_getElem? hX)
        obtain ⟨wz, hwz⟩ : ∃ wz, wz = wr := ⟨_, rfl⟩
        subst hwz
        obtain ⟨XL, hXL⟩ : ∃ XL, X.ws.length = XL := ⟨_, rfl⟩
        have hl16 : XL ≤ 16 := by have := (may_iff.1 hm).2.1; omega
        have HK : Hid (One w x C N wz ∧ x.cs[k]? = some X ∧ may X.ws = true ∧ X.ws.length = XL ∧ mxC L x.cs k = M) := ⟨hO, hX, hm, hXL, hM⟩
        clear hO hX hm hXL hM
        go_wp2
        go_loopw [6, 7] (fun z i wr => ∃ j : Nat, j ≤ XL ∧ i = .int .i64 j ∧ z = .int .i64 (rdC L X.ws j) ∧ One w x C N wr) (fun _ i _ => XL - (intOf i).toNat)
        case atStart => exact ⟨0, by omega, rfl, rfl, HK.out.1⟩
        case round =>
          obtain ⟨j, hj, rfl, rfl, hO⟩ := hrel
          have c4 := hO.cells.2.2.2.2.1
          rw [HL.out] at c4
          obtain ⟨g, o, ha, hc⟩ := hO.cin.core HK.out.2.1
          have hXi := hO.cin.cin X (List.mem_of_getElem? HK.out.2.1)
          have hxc : (X.ws.length : Int) ≤ X.c ∧ (X.c : Int) ≤ 9223372036854775807 := by have := hXi.len; unfold maxLen at this; omega
          have hv : Core.v X = .slice X.a XL X.c := by unfold Core.v; rw [HK.out.2.2.2.1]
          rw [hv] at hc
          rw [HK.out.2.2.2.1] at hxc
          rw [ha] at c4
          have HO3 : Hid (One w x C N wr) := hO
          clear hO hv
          have hb := rdC_bound (n := L) (by omega) (may_iff.1 HK.out.2.2.1).2.2 j
          obtain ⟨B, hB⟩ : ∃ B, rdC L X.ws j = B := ⟨_, rfl⟩
          by_cases hlj : j < XL
          · obtain ⟨y, hy⟩ : ∃ y, X.ws[j]? = some y := ⟨_, List.getElem?_eq_getElem (by have := HK.out.2.2.2.1; omega)⟩
            obtain ⟨g3, o3, ha3, hg3⟩ := hXi.seg.at hy
            have y1 := hg3 1 _ rfl
            rw [ha3] at hc
            have hyo := (may_iff.1 HK.out.2.2.1).2.2 _ (List.mem_of_getElem? hy)
            have hy4 := Win.okB_iff.1 hyo
            have hyw := rdW_bound (n := L) (by omega) hyo
            obtain ⟨R', hR'⟩ : ∃ R, rdW L y = R := ⟨_, rfl⟩
            have HN : Hid (rdC L X.ws (j + 1) = B + R') := by rw [← hB, ← hR']; exact rdC_succ hy
            rw [hB] at hb ⊢
            rw [hR'] at hyw
            have hB1 : 0 ≤ B ∧ B ≤ 640000 := by omega
            unfold rdW at hR'
            obtain ⟨D, hD⟩ : ∃ D, y.u / 25 = D := ⟨_, rfl⟩
            have hD1 : 0 ≤ D ∧ D ≤ 656 := by omega
            have hD2 : y.u.tdiv 25 = D := by rw [Int.tdiv_eq_ediv_of_nonneg (by omega)]; exact hD
            rw [hD] at hR'
            have q0 : IntKind.i64.wrap D = D := by rw [IntKind.wrap_i64]; omega
            have q1 : IntKind.i64.wrap (D + 1) = D + 1 := by rw [IntKind.wrap_i64]; omega
            have q2 : IntKind.i64.wrap (y.u + 2) = y.u + 2 := by rw [IntKind.wrap_i64]; omega
            have q3 : IntKind.i64.wrap (4 * (L : Int)) = 4 * L := by rw [IntKind.wrap_i64]; omega
            have q4 : IntKind.i64.wrap (8 + 4 * (L : Int)) = 8 + 4 * L := by rw [IntKind.wrap_i64]; omega
            obtain ⟨Q, hQ⟩ : ∃ M, (D + 1) * (8 + 4 * (L : Int)) = M := ⟨_, rfl⟩
            rw [hQ] at hR'
            have q5 : IntKind.i64.wrap ((D + 1) * (8 + 4 * (L : Int))) = Q := by rw [hQ, IntKind.wrap_i64]; omega
            have q6 : IntKind.i64.wrap (y.u + 2 + Q) = R' := by rw [hR', IntKind.wrap_i64]; omega
            have q7 : IntKind.i64.wrap (B + R') = B + R' := by rw [IntKind.wrap_i64]; omega
            have hlj' : (j : Int) < XL := by omega
            have hkl' : (k : Int) < L := by omega
            clear hy hg3 hXi hyo hB hQ hR' hD hb
            go_wp2
            go_roundw
            case rel => exact ⟨j + 1, by omega, by go_num, by rw [HN.out], HO3.out⟩
            case measure => simp [intOf]; omega
          · obtain rfl : j = XL := by omega
            have hm2 := mxC_succ (n := L) HK.out.2.1
            rw [HK.out.2.2.2.1, HK.out.2.2.2.2, hB] at hm2
            have HN : Hid (mxC L x.cs (k + 1) = max M B) := hm2
            rw [hB]
            clear hB hb hXi hm2
            by_cases hgt : M < B
            · have hgt' : decide (M < B) = true := by simp [hgt]
              go_wp2
              go_roundw
              case rel => exact ⟨k + 1, by omega, by go_num, by rw [HN.out]; congr 1; omega, HO3.out⟩
              case measure => simp [intOf]; omega
            · have hgt' : decide (M < B) = false := by simp [hgt]
              go_wp2
              go_roundw
              case rel => exact ⟨k + 1, by omega, by go_num, by rw [HN.out]; congr 1; omega, HO3.out⟩
              case measure => simp [intOf]; omega
      · obtain rfl : k = L := by omega
        rw [hM] at ER
        have q1 : IntKind.i64.wrap (4 + M) = 4 + M := by rw [IntKind.wrap_i64]; omega
        have HK : Hid (One w x C N wr) := hO
        clear hO hM
        go_wp2
        go_ret
        rw [ER.out]
        exact ⟨rfl, HK.out.keeps⟩
end Go.Proofs.Ytnkfdmlpjgmckaa
