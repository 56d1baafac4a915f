import Derived.Test.YtmkeccibminnhaaFe
import Derived.Test.YtmkeccibminnhaaOc
namespace Go.Proofs.Ytmkeccibminnhaa
open Go.RowKit
set_option linter.unusedVariables false
set_option maxRecDepth 6000

theorem append_seg {w : World} (u : Value) (xs ys : List UInt8) (ad : Addr) (c : Nat) (h : BR w u xs) (hs : Seg w (some ad) ys) (hn : xs.length + ys.length ≤ 140737488355328) :
    ∃ v' W', (∀ ty, (Builtin.append_ #[27, 27] ty #[u, .slice (some ad) ys.length c]).run Try.prog w = .ok v' W') ∧ BR W' v' (xs ++ ys) ∧ Grw w u W' v' := by
  obtain ⟨i5, hi, hz, hs5, hb⟩ := info_parts Try.info5
  obtain ⟨v1, W1, happ, hown1, hfr1, hK1⟩ := append_many 27 5 i5 (.int .u8 0) 1 1 Try.underlying27 hi hz hs5 hb rfl (by omega) u xs.length (bvs xs) h ad ys.length c (bvs ys) (by rw [bvs_length, Nat.mul_one]) (by
    intro j v hj
    have hjl : j < ys.length := by rw [← bvs_length]; exact (List.getElem?_eq_some_iff.1 hj).1
    rw [bvs_get ys j hjl] at hj
    cases hj
    rcases hs with h0 | ⟨g, o, h0, hc⟩
    · rw [h0] at hjl; simp at hjl
    · cases h0
      rw [addr_add]
      exact hc j hjl) (bvs_one ys) (by unfold maxLen; omega) (by omega)
  refine ⟨v1, W1, happ, ?_, hfr1, hK1⟩
  show W1.ownsRow 0 5 1 v1 (xs ++ ys).length (bvs (xs ++ ys))
  rw [List.length_append, bvs_append]; exact hown1
theorem br_empty (w : World) : BR (w.alloc (.cells #[] 5)) (.slice (some ⟨w.heap.size, 0, none⟩) 0 0) [] :=
  ⟨rfl, .inr ⟨w.heap.size, 0, #[], rfl, Nat.zero_le _, Blk.new w _ _, Nat.le_refl _, Nat.zero_le _, rfl, rfl⟩⟩
theorem decode_err {B : List UInt8} {a : Option Addr} {cap q : Nat} {k : Int} {w : World} (hs : Seg w a B) (hcap : B.length ≤ cap ∧ cap ≤ maxLen) (hB : B.length ≤ 16384) (hlt : B ≠ [] → ∀ y, a = some y → y.block < w.heap.size) (hd : dec B = .error (q, k)) :
    Calls Try.prog 12 #[.slice a B.length cap] w fun e w' => e = .returned (.tuple #[.agg #[.int .i64 0, .int .i64 0, .int .i64 0, .int .i64 0, .slice none 0 0, .slice none 0 0, .slice none 0 0], .int .i64 q, .int .i64 k]) ∧ Keeps (fun _ => False) w w' := by
  refine (decode_short B a cap w hs hcap hB hlt).mono ?_
  rintro e w' ⟨hK, ⟨hl, _⟩ | ⟨_, ⟨x, h1, _⟩ | ⟨q', k', h1, rfl⟩⟩⟩
  · omega
  · rw [hd] at h1; cases h1
  · rw [hd] at h1; cases h1; exact ⟨rfl, hK⟩
theorem form_pos (x : Cfg) : 8 ≤ (form x).length := by
  unfold form body markB; rw [List.length_append, List.length_append, lowB_len, lowB_len]; omega

set_option maxHeartbeats 4000000 in
theorem confCut_any (N : Nat) (x : Cfg) (T : Nat) (B2 : List UInt8) (a2 : Option Addr) (cap2 : Nat) (w : World) (hi : x.In w N) (hN : N ≤ w.heap.size) (hT : T < 65536) (hs2 : Seg w a2 B2) (hcap2 : B2.length ≤ cap2 ∧ cap2 ≤ maxLen) :
    Calls Try.prog 8 #[x.v, .int .u16 T, .slice a2 B2.length cap2] w fun e w' => e = .returned (.bool true) ∧ Keeps (fun _ => False) w w' := by
  obtain ⟨K, hK⟩ : ∃ K, B2.length = K := ⟨_, rfl⟩
  have HB2 : Hid (Seg w a2 B2 ∧ B2.length = K ∧ K ≤ cap2 ∧ cap2 ≤ maxLen) := ⟨hs2, hK, by omega, hcap2.2⟩
  have hcvT : IntKind.i64.wrap (T : Int) = T := by rw [IntKind.wrap_i64]; omega
  rw [hK]
  clear hs2 hcap2 hK
  obtain ⟨n1, n2, n3, n4, ca, cc, cs, pa, pc, ps, ha, hc, hs⟩ := x
  obtain ⟨X, hXX⟩ : ∃ X : Cfg, X = ⟨n1, n2, n3, n4, ca, cc, cs, pa, pc, ps, ha, hc, hs⟩ := ⟨_, rfl⟩
  rw [← hXX] at hi ⊢
  obtain ⟨L1, hL1⟩ : ∃ L, cs.length = L := ⟨_, rfl⟩
  obtain ⟨L2, hL2⟩ : ∃ L, ps.length = L := ⟨_, rfl⟩
  obtain ⟨L3, hL3⟩ : ∃ L, hs.length = L := ⟨_, rfl⟩
  have hv : X.v = .agg #[.int .i64 n1, .int .i64 n2, .int .i64 n3, .int .i64 n4, .slice ca L1 cc, .slice pa L2 pc, .slice ha L3 hc] := by rw [hXX, ← hL1, ← hL2, ← hL3]
  rw [hv]
  obtain ⟨C, hC⟩ : ∃ C, C = w.heap.size := ⟨_, rfl⟩
  obtain ⟨W, hW⟩ : ∃ W, W = w.alloc (.cells #[.int .i64 n1, .int .i64 n2, .int .i64 n3, .int .i64 n4, .slice ca L1 cc, .slice pa L2 pc, .slice ha L3 hc] 26) := ⟨_, rfl⟩
  have hKW : Keeps (fun _ => False) w W := by rw [hW]; exact (Keeps.refl _ _).alloc _
  have hBW : Blk W C [.int .i64 n1, .int .i64 n2, .int .i64 n3, .int .i64 n4, .slice ca L1 cc, .slice pa L2 pc, .slice ha L3 hc] 26 := by rw [hW, hC]; exact Blk.new w _ _
  have HE : Hid (Calls _ _ _ _ _) := encode_any N X W (hi.below (hKW.below hN fun _ e => e.elim)) (Nat.le_trans hN hKW.size)
  rw [hv] at HE
  have HRe : Hid (∀ w1, Keeps (fun _ => False) W w1 → Calls Try.prog 10 #[.agg #[.int .i64 n1, .int .i64 n2, .int .i64 n3, .int .i64 n4, .slice ca L1 cc, .slice pa L2 pc, .slice ha L3 hc]] w1 fun e w' => Keeps (fun _ => False) w1 w' ∧ ((X.d = true ∧ e = .returned (.tuple #[.slice none 0 0, .int .i64 112])) ∨ (X.d = false ∧ 16384 < (form X).length ∧ e = .returned (.tuple #[.slice none 0 0, .int .i64 2])) ∨
      (X.d = false ∧ (form X).length ≤ 16384 ∧ ∃ a c, Seg w' a (form X) ∧ e = .returned (.tuple #[.slice a (form X).length c, .int .i64 0])))) := by
    intro w1 hK1
    have hKa : Keeps (fun _ => False) w w1 := hKW.trans hK1 fun _ _ e => e
    have := rencode_any N X w1 (hi.below (hKa.below hN fun _ e => e.elim)) (Nat.le_trans hN hKa.size)
    rw [hv] at this
    exact this
  have HA : Hid (X.In w N ∧ N ≤ w.heap.size ∧ Keeps (fun _ => False) w W ∧ Blk W C [.int .i64 n1, .int .i64 n2, .int .i64 n3, .int .i64 n4, .slice ca L1 cc, .slice pa L2 pc, .slice ha L3 hc] 26) := ⟨hi, hN, hKW, hBW⟩
  clear hi hN hXX hL1 hL2 hL3 hv hKW hBW
  go_enter Try.func8, Try.ntmps8
  go_wp2_with fail
  rw [← hW, ← hC]
  clear hW hC
  refine HE.out.mono ?_
  clear HE
  rintro e w1 ⟨hK1, hres⟩
  have HK1 : Hid (Keeps (fun _ => False) w w1 ∧ Keeps (fun _ => False) W w1) := ⟨HA.out.2.2.1.trans hK1 fun _ _ e => e, hK1⟩
  rcases hres with ⟨h1, rfl⟩ | ⟨h1, h2, rfl⟩ | ⟨h1, h2, g, hg, hB, rfl⟩
  · have hB1 := HA.out.2.2.2.kept hK1 fun e => e
    have c0 := hB1.cell (i := 0) rfl
    have c1 := hB1.cell (i := 1) rfl
    have c2 := hB1.cell (i := 2) rfl
    have c3 := hB1.cell (i := 3) rfl
    have c4 := hB1.cell (i := 4) rfl
    have c5 := hB1.cell (i := 5) rfl
    have c6 := hB1.cell (i := 6) rfl
    have HR : Hid (Calls _ _ _ _ _) := HRe.out w1 hK1
    have HX : Hid (X.d = true) := h1
    clear h1 hK1 hB1 HRe
    go_wp2_with fail
    refine HR.out.mono ?_
    rintro e w2 ⟨hK2, ⟨_, rfl⟩ | ⟨k1, _⟩ | ⟨k1, _⟩⟩
    · have HK2 : Hid (Keeps (fun _ => False) w w2) := HK1.out.1.trans hK2 fun _ _ e => e
      clear hK2 HR c0 c1 c2 c3 c4 c5 c6
      go_wp2
      go_ret
      exact ⟨rfl, HK2.out⟩
    · rw [HX.out] at k1; cases k1
    · rw [HX.out] at k1; cases k1
  · have hB1 := HA.out.2.2.2.kept hK1 fun e => e
    have c0 := hB1.cell (i := 0) rfl
    have c1 := hB1.cell (i := 1) rfl
    have c2 := hB1.cell (i := 2) rfl
    have c3 := hB1.cell (i := 3) rfl
    have c4 := hB1.cell (i := 4) rfl
    have c5 := hB1.cell (i := 5) rfl
    have c6 := hB1.cell (i := 6) rfl
    have HR : Hid (Calls _ _ _ _ _) := HRe.out w1 hK1
    have HX : Hid (X.d = false ∧ 16384 < (form X).length) := ⟨h1, h2⟩
    clear h1 h2 hK1 hB1 HRe
    go_wp2_with fail
    refine HR.out.mono ?_
    rintro e w2 ⟨hK2, ⟨k1, _⟩ | ⟨_, _, rfl⟩ | ⟨_, k2, _⟩⟩
    · rw [HX.out.1] at k1; cases k1
    · have HK2 : Hid (Keeps (fun _ => False) w w2) := HK1.out.1.trans hK2 fun _ _ e => e
      clear hK2 HR c0 c1 c2 c3 c4 c5 c6
      go_wp2
      go_ret
      exact ⟨rfl, HK2.out⟩
    · have := HX.out.2; omega
  · clear HRe
    have hpd : X.pure.d = false := by rw [← cfgD X HA.out.1.fine]; exact h1
    have hfp := cfgForm X
    obtain ⟨M, hM⟩ : ∃ M, (form X).length = M := ⟨_, rfl⟩
    have hM8 : 8 ≤ M := by rw [← hM]; exact form_pos X
    have HX : Hid (X.pure.d = false ∧ form X = pform X.pure ∧ (form X).length = M ∧ Blk w1 g (bvs (form X)) 5 ∧ M ≤ 16384) := ⟨hpd, hfp, hM, hB, by omega⟩
    obtain ⟨R, hR⟩ : ∃ R, T % M = R := ⟨_, rfl⟩
    have hRM : R < M := by rw [← hR]; exact Nat.mod_lt _ (by omega)
    have hrem : (T : Int).tmod (M : Int) = R := by rw [Int.tmod_eq_emod_of_nonneg (by omega)]; omega
    have hM0 : ¬ (M : Int) = 0 := by omega
    have hMb : (M : Int) ≤ 16384 := by omega
    have hRMi : (R : Int) ≤ M := by omega
    obtain ⟨q, hdq, hqR⟩ := dec_cut X.pure hpd R (by rw [← hfp, hM]; exact hRM)
    rw [← hfp] at hdq
    have htl : ((form X).take R).length = R := by rw [List.length_take, hM]; omega
    have HD1 := decode_err (cap := M) (seg_take _ _ _ (seg_blk hB) R) (by rw [htl]; unfold maxLen; omega) (by rw [htl]; omega) (fun _ y hy => by cases hy; exact hB.lt) hdq
    rw [htl] at HD1
    have HD1 : Hid (Calls _ _ _ _ _) := HD1
    have hqi : ¬ (R : Int) < (q : Int) := by omega
    rw [hM]
    clear h1 h2 hpd hfp hM hB hdq hqR htl hR hg
    go_wp2_with fail
    refine HD1.out.mono ?_
    rintro e w2 ⟨rfl, hK2⟩
    have HK2 : Hid (Keeps (fun _ => False) w1 w2) := hK2
    clear hK2 HD1
    by_cases hk0 : K = 0
    · have hk0' : (K : Int) = 0 := by omega
      go_wp2
      go_ret
      exact ⟨rfl, (HK1.out.1.trans HK2.out fun _ _ e => e).alloc _⟩
    · have hk0' : ¬ (K : Int) = 0 := by omega
      have hk0b : ((K : Int) == 0) = false := by simp; omega
      by_cases hkb : 2147483647 < K
      · have hkb' : (2147483647 : Int) < K := by omega
        go_wp2
        go_ret
        exact ⟨rfl, (HK1.out.1.trans HK2.out fun _ _ e => e).alloc _⟩
      · have hkb' : ¬ (2147483647 : Int) < K := by omega
        obtain ⟨y2, hy2⟩ : ∃ y, a2 = some y := by
          rcases HB2.out.1 with h0 | ⟨g2, o2, h0, _⟩
          · have := HB2.out.2.1; rw [h0] at this; simp at this; omega
          · exact ⟨_, h0⟩
        subst hy2
        obtain ⟨W2, hW2⟩ : ∃ W2, W2 = w2.alloc (.cells #[.int .i64 0, .int .i64 0, .int .i64 0, .int .i64 0, .slice none 0 0, .slice none 0 0, .slice none 0 0] 26) := ⟨_, rfl⟩
        have hKW2 : Keeps (fun _ => False) w2 W2 := by rw [hW2]; exact (Keeps.refl _ _).alloc _
        have hK12 : Keeps (fun _ => False) w1 (W2.alloc (.cells #[] 5)) := ((HK2.out.trans hKW2 fun _ _ e => e)).alloc _
        obtain ⟨v3, W3, happ3, hbr3, hgr3⟩ := append_seg _ [] (form X) ⟨g, 0, none⟩ M (br_empty W2) ((seg_blk HX.out.2.2.2.1).keptB hK12 fun _ _ _ e => e) (by have := HX.out.2.2.1; have := HX.out.2.2.2.2; simp; omega)
        rw [List.nil_append] at hbr3
        rw [HX.out.2.2.1] at happ3
        have hfr3 : ∀ k, v3.ownBlock = some k → W2.heap.size ≤ k := hgr3.hi (N := W2.heap.size) (by simp) (fun k hk => by have e2 : W2.heap.size = k := Option.some.inj hk; omega)
        have hKw3 : Keeps (fun _ => False) w W3 := (HK1.out.1.trans hK12 fun _ _ e => e).trans hgr3.kp fun k hk e => by
          have e2 : k = W2.heap.size := Option.some.inj e
          have := (HK1.out.1.trans (HK2.out.trans hKW2 fun _ _ e => e) fun _ _ e => e).size
          omega
        have hW2s : w.heap.size ≤ W2.heap.size := (HK1.out.1.trans (HK2.out.trans hKW2 fun _ _ e => e) fun _ _ e => e).size
        obtain ⟨v4, W4, happ4, hbr4, hgr4⟩ := append_seg v3 (form X) B2 y2 cap2 hbr3 (HB2.out.1.keptB hKw3 fun _ _ _ e => e) (by have := HX.out.2.2.1; have := HX.out.2.2.2.2; have := HB2.out.2.1; omega)
        rw [HB2.out.2.1] at happ4
        have hfr4 : ∀ k, v4.ownBlock = some k → w.heap.size ≤ k := hgr4.hi hKw3.size fun k hk => Nat.le_trans hW2s (hfr3 k hk)
        have hKw4 : Keeps (fun _ => False) w W4 := hKw3.trans hgr4.kp fun k hk e => by have := hfr3 k e.symm; omega
        obtain ⟨a5, c5, hv4, hseg5, hcap5⟩ := hbr4.slice
        have hlen5 : (form X ++ B2).length = M + K := by rw [List.length_append, HX.out.2.2.1, HB2.out.2.1]
        have hB2n : B2 ≠ [] := by intro e; have := HB2.out.2.1; rw [e] at this; simp at this; omega
        have hdm := dec_more X.pure HX.out.1 B2 hB2n
        rw [← HX.out.2.1, HX.out.2.2.1] at hdm
        rw [hlen5] at hv4 hcap5
        subst hv4
        have HAP3 : Hid (∀ ty, (Builtin.append_ #[27, 27] ty #[.slice (some ⟨W2.heap.size, 0, none⟩) 0 0, .slice (some ⟨g, 0, none⟩) M M]).run Try.prog (W2.alloc (.cells #[] 5)) = .ok v3 W3) := happ3
        have HAP4 : Hid (∀ ty, (Builtin.append_ #[27, 27] ty #[v3, .slice (some y2) K cap2]).run Try.prog W3 = .ok (.slice a5 (M + K) c5) W4) := happ4
        have hMK : (M : Int) + K ≤ 9223372036854775807 := by omega
        have hcast : ((M + K : Nat) : Int) = (M : Int) + K := by omega
        by_cases hlong : 16384 < M + K
        · have HD2 : Hid (Calls _ _ _ _ _) := decode_long (M + K) a5 c5 W4 hlong (by have := hcap5.2; omega)
          have hlong' : (16384 : Int) < ((M + K : Nat) : Int) := by omega
          have HK4 : Hid (Keeps (fun _ => False) w W4) := hKw4
          have HAP3' : Hid (∀ ty, (Builtin.append_ #[27, 27] ty #[.slice (some ⟨w2.heap.size + 1, 0, none⟩) 0 0, .slice (some ⟨g, 0, none⟩) M M]).run Try.prog ((w2.alloc (.cells #[.int .i64 0, .int .i64 0, .int .i64 0, .int .i64 0, .slice none 0 0, .slice none 0 0, .slice none 0 0] 26)).alloc (.cells #[] 5)) = .ok v3 W3) := by
            have h := HAP3.out
            rw [hW2] at h
            unfold Hid
            simpa using h
          have hzB : Blk W4 w2.heap.size [.int .i64 0, .int .i64 0, .int .i64 0, .int .i64 0, .slice none 0 0, .slice none 0 0, .slice none 0 0] 26 := by
            have b0 : Blk W2 w2.heap.size [.int .i64 0, .int .i64 0, .int .i64 0, .int .i64 0, .slice none 0 0, .slice none 0 0, .slice none 0 0] 26 := by rw [hW2]; exact Blk.new w2 _ _
            have b1 := b0.alloc (.cells #[] 5)
            have b2 := b1.kept hgr3.kp (fun e => by have e2 : w2.heap.size = W2.heap.size := Option.some.inj e; have := b0.lt; omega)
            exact b2.kept hgr4.kp (fun e => by have := hfr3 _ e.symm; have := b0.lt; omega)
          obtain ⟨S, hS⟩ : ∃ S, M + K = S := ⟨_, rfl⟩
          rw [hS] at HAP4 HD2 hlong'
          have HZB : Hid (Blk W4 w2.heap.size [.int .i64 0, .int .i64 0, .int .i64 0, .int .i64 0, .slice none 0 0, .slice none 0 0, .slice none 0 0] 26) := hzB
          clear hKW2 hK12 happ3 hbr3 hgr3 hfr3 hKw3 hW2s happ4 hbr4 hgr4 hfr4 hKw4 hseg5 hcap5 hlen5 hB2n hdm hMK hcast hlong hS hzB HAP3 hW2
          go_wp2_with (at_builtin; go_must (refine wpList_append_run rfl (.tmp 62) (.tmp 63) 27 27 rfl (.slice (some ⟨w2.heap.size + 1, 0, none⟩) 0 0) (.slice (some ⟨g, 0, none⟩) M M) v3 W3 rfl rfl HAP3'.out ?_; refine Hid.out ?_))
          unfold Hid
          go_wp2_with (at_builtin; go_must (refine wpList_append_run rfl (.tmp 65) (.tmp 66) 27 27 rfl v3 (.slice (some y2) K cap2) (.slice a5 S c5) W4 rfl rfl HAP4.out ?_; refine Hid.out ?_))
          unfold Hid
          go_wp2_with fail
          refine HD2.out.mono ?_
          rintro e w5 ⟨hK5, rfl⟩
          have hz5 := HZB.out.kept hK5 fun e => e
          have HK5 : Hid (Keeps (fun _ => False) w w5) := HK4.out.trans hK5 fun _ _ e => e
          clear hK5 HAP3' HAP4 HD2
          go_wp2
          go_ret
          exact ⟨rfl, HK5.out⟩
        · have hsz5 : (form X ++ B2).length ≤ 16384 := by omega
          have HD2 := decode_err (cap := c5) hseg5 (by rw [hlen5]; exact hcap5) hsz5 (fun hn y hy => by
            rcases hseg5 with h0 | ⟨g5, o5, h0, hc5⟩
            · exact (hn h0).elim
            · rw [h0] at hy; cases hy
              exact World.block_lt_of_cell? W4 ⟨g5, o5 + 0, none⟩ (hc5 0 (List.length_pos_iff.2 hn))) hdm
          rw [hlen5] at HD2
          have HD2 : Hid (Calls _ _ _ _ _) := HD2
          have hlong' : ¬ (16384 : Int) < ((M + K : Nat) : Int) := by omega
          clear hsz5
          have HK4 : Hid (Keeps (fun _ => False) w W4) := hKw4
          have HAP3' : Hid (∀ ty, (Builtin.append_ #[27, 27] ty #[.slice (some ⟨w2.heap.size + 1, 0, none⟩) 0 0, .slice (some ⟨g, 0, none⟩) M M]).run Try.prog ((w2.alloc (.cells #[.int .i64 0, .int .i64 0, .int .i64 0, .int .i64 0, .slice none 0 0, .slice none 0 0, .slice none 0 0] 26)).alloc (.cells #[] 5)) = .ok v3 W3) := by
            have h := HAP3.out
            rw [hW2] at h
            unfold Hid
            simpa using h
          have hzB : Blk W4 w2.heap.size [.int .i64 0, .int .i64 0, .int .i64 0, .int .i64 0, .slice none 0 0, .slice none 0 0, .slice none 0 0] 26 := by
            have b0 : Blk W2 w2.heap.size [.int .i64 0, .int .i64 0, .int .i64 0, .int .i64 0, .slice none 0 0, .slice none 0 0, .slice none 0 0] 26 := by rw [hW2]; exact Blk.new w2 _ _
            have b1 := b0.alloc (.cells #[] 5)
            have b2 := b1.kept hgr3.kp (fun e => by have e2 : w2.heap.size = W2.heap.size := Option.some.inj e; have := b0.lt; omega)
            exact b2.kept hgr4.kp (fun e => by have := hfr3 _ e.symm; have := b0.lt; omega)
          obtain ⟨S, hS⟩ : ∃ S, M + K = S := ⟨_, rfl⟩
          rw [hS] at HAP4 HD2 hlong'
          have HZB : Hid (Blk W4 w2.heap.size [.int .i64 0, .int .i64 0, .int .i64 0, .int .i64 0, .slice none 0 0, .slice none 0 0, .slice none 0 0] 26) := hzB
          clear hKW2 hK12 happ3 hbr3 hgr3 hfr3 hKw3 hW2s happ4 hbr4 hgr4 hfr4 hKw4 hseg5 hcap5 hlen5 hB2n hdm hMK hcast hlong hS hzB HAP3 hW2
          go_wp2_with (at_builtin; go_must (refine wpList_append_run rfl (.tmp 62) (.tmp 63) 27 27 rfl (.slice (some ⟨w2.heap.size + 1, 0, none⟩) 0 0) (.slice (some ⟨g, 0, none⟩) M M) v3 W3 rfl rfl HAP3'.out ?_; refine Hid.out ?_))
          unfold Hid
          go_wp2_with (at_builtin; go_must (refine wpList_append_run rfl (.tmp 65) (.tmp 66) 27 27 rfl v3 (.slice (some y2) K cap2) (.slice a5 S c5) W4 rfl rfl HAP4.out ?_; refine Hid.out ?_))
          unfold Hid
          go_wp2_with fail
          refine HD2.out.mono ?_
          rintro e w5 ⟨rfl, hK5⟩
          have hz5 := HZB.out.kept hK5 fun e => e
          have HK5 : Hid (Keeps (fun _ => False) w w5) := HK4.out.trans hK5 fun _ _ e => e
          clear hK5 HAP3' HAP4 HD2
          go_wp2
          go_ret
          exact ⟨rfl, HK5.out⟩
end Go.Proofs.Ytmkeccibminnhaa
