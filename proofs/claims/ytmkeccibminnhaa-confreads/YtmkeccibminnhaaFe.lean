import Derived.Test.YtmkeccibminnhaaFc
import Derived.Test.YtmkeccibminnhaaCrc
namespace Go.Proofs.Ytmkeccibminnhaa
open Go.RowKit
set_option linter.unusedVariables false
set_option maxRecDepth 6000

theorem not_eq' (A : Nat) (h : A < 4294967296) : bits .xor .u32 (A : Int) 4294967295 = ((4294967295 ^^^ A : Nat) : Int) := by
  rw [Nat.xor_comm]
  exact u32_xor_nat A 4294967295 h (by omega)

set_option maxHeartbeats 1000000 in
theorem refSum_any (a : Option Addr) (c : Nat) (xs : List UInt8) (w : World) (hx : Seg w a xs) (hl : xs.length ≤ maxLen) :
    Calls Try.prog 28 #[.slice a xs.length c] w fun e w' => e = .returned (.int .u32 (sumN xs)) ∧ w' = w := by
  unfold maxLen at hl
  obtain ⟨n, hn⟩ : ∃ n, n = xs.length := ⟨_, rfl⟩
  have HN : Hid (n = xs.length) := hn
  have HX : Hid (Seg w a xs) := hx
  rw [← hn] at hl ⊢
  clear hn hx
  go_enter Try.func28, Try.ntmps28
  go_wp2
  go_loop [3, 4, 5, 6] (fun s i k o => ∃ j : Nat, j ≤ n ∧ i = .int .i64 j ∧ s = .int .u32 ((crcL (xs.take j) 4294967295 : Nat) : Int)) (fun _ i _ _ => n - (intOf i).toNat)
  case atStart => exact ⟨0, by omega, rfl, rfl⟩
  case round =>
    obtain ⟨j, hj, rfl, rfl⟩ := hrel
    by_cases hlt : j < n
    · have hjx : j < xs.length := by have := HN.out; omega
      rcases HX.out with hs | ⟨g, o, rfl, hcell⟩
      · rw [hs] at hjx; simp at hjx
      have hc := hcell j hjx
      have hS := crcL_lt (xs.take j) 4294967295 (by omega)
      have hstep : Hid (_ = _) := crcL_take xs j 4294967295 hjx
      have hxx := xor_eq (crcL (xs.take j) 4294967295) (xs[j]).toNat hS (xs[j]).toNat_lt
      have hS2 := xor_byte_lt (crcL (xs.take j) 4294967295) (xs[j]) hS
      obtain ⟨A, hA⟩ : ∃ A, A = crcL (xs.take j) 4294967295 := ⟨_, rfl⟩
      obtain ⟨X, hX⟩ : ∃ X, X = (xs[j]).toNat := ⟨_, rfl⟩
      obtain ⟨B, hB⟩ : ∃ B, B = A ^^^ X := ⟨_, rfl⟩
      rw [← hA, ← hX, ← hB] at hxx
      rw [← hA, ← hX, ← hB] at hS2
      rw [← hA, ← hX, ← hB] at hstep
      rw [← hX] at hc
      rw [← hA]
      have HS2 : Hid (True ∧ B < 4294967296) := ⟨trivial, hS2⟩
      have hX32 : (X : Int) % 4294967296 = X := by
        have := (xs[j]).toNat_lt
        omega
      clear hcell hS hA hX hB hS2
      go_wp2
      clear hxx hX32
      go_loop [3, 5, 6] (fun s k o => ∃ m : Nat, m ≤ 8 ∧ k = .int .i64 m ∧ s = .int .u32 ((crcN m B : Nat) : Int)) (fun _ k _ => 8 - (intOf k).toNat)
      case atStart => exact ⟨0, by omega, rfl, rfl⟩
      case round =>
        obtain ⟨m, hm, rfl, rfl⟩ := hrel
        by_cases hm8 : m < 8
        · have hSm := crcN_lt m B HS2.out.2
          have ho := odd_eq (crcN m B) hSm
          have ht := turn_eq (crcN m B) hSm
          have hs1 : crcN (m + 1) B = crcStep (crcN m B) := rfl
          unfold crcStep at hs1
          obtain ⟨D, hD⟩ : ∃ D, D = crcN m B := ⟨_, rfl⟩
          rw [← hD] at ho ht hs1
          rw [← hD]
          clear hD hSm
          by_cases h1 : D % 2 = 1
          · rw [if_pos h1] at hs1
            rw [h1] at ho
            have HT : Hid (_ = _) := ht
            have HS1 : Hid (_ = _) := hs1
            clear h1 hs1 ht
            go_wp2
            go_round
            case rel => exact ⟨m + 1, by omega, by go_num, by rw [HS1.out, ← HT.out]⟩
            case measure => simp [intOf]; omega
          · have h0 : D % 2 = 0 := by omega
            rw [if_neg h1] at hs1
            rw [h0] at ho
            have HS1 : Hid (_ = _) := hs1
            clear h1 h0 hs1 ht
            go_wp2
            go_round
            case rel => exact ⟨m + 1, by omega, by go_num, by rw [HS1.out]; simp⟩
            case measure => simp [intOf]; omega
        · obtain rfl : m = 8 := by omega
          go_wp2
          go_round
          case rel => exact ⟨j + 1, by omega, by go_num, by rw [hstep.out]⟩
          case measure => simp [intOf]; omega
    · obtain rfl : j = n := by omega
      have hall : xs.take j = xs := List.take_of_length_le (by have := HN.out; omega)
      rw [hall]
      have hS := crcL_lt xs 4294967295 (by omega)
      have hfin := not_eq' _ hS
      have HF : Hid (_ = _) := hfin
      obtain ⟨A, hA⟩ : ∃ A, A = crcL xs 4294967295 := ⟨_, rfl⟩
      have HA : Hid (A = crcL xs 4294967295) := hA
      rw [← hA] at HF
      rw [← hA]
      clear hfin hS hall hA
      go_wp2
      go_ret
      exact ⟨ret_int' (by rw [HF.out, HA.out]; rfl), rfl⟩


set_option maxHeartbeats 1000000 in
theorem summed_any (u : Value) (xs : List UInt8) (w : World) (h : BR w u xs) (hx : 0 < xs.length) (hl : xs.length + 4 ≤ 140737488355328) :
    Calls Try.prog 22 #[u] w fun e w' => ∃ u', e = .returned u' ∧ BR w' u' (xs ++ lowB 4 (sumN xs)) ∧ (∀ k, u'.ownBlock = some k → w.heap.size ≤ k) ∧ Keeps (fun _ => False) w w' := by
  obtain ⟨a, c, hu, hseg, hcap⟩ := h.slice
  subst hu
  obtain ⟨ad, hadd⟩ : ∃ y, a = some y := by
    rcases hseg with h0 | ⟨g, o, h0, _⟩
    · rw [h0] at hx; simp at hx
    · exact ⟨_, h0⟩
  subst hadd
  obtain ⟨L, hL⟩ : ∃ L, xs.length = L := ⟨_, rfl⟩
  have HS : Hid (Seg w (some ad) xs ∧ xs.length = L ∧ L + 4 ≤ 140737488355328) := ⟨hseg, hL, by omega⟩
  have hBW : Blk (w.alloc (.cells #[] 5)) w.heap.size [] 5 := Blk.new w _ _
  have hK0 : Keeps (fun _ => False) w (w.alloc (.cells #[] 5)) := (Keeps.refl _ w).alloc _
  have hown : BR (w.alloc (.cells #[] 5)) (.slice (some ⟨w.heap.size, 0, none⟩) 0 0) [] := ⟨rfl, .inr ⟨w.heap.size, 0, #[], rfl, Nat.zero_le _, hBW, Nat.le_refl _, Nat.zero_le _, rfl, rfl⟩⟩
  obtain ⟨i5, hi, hz, hs, hb⟩ := info_parts Try.info5
  have hsegW := hseg.keptB hK0 fun _ _ _ e => e
  obtain ⟨v1, W1, happ, hown1, hfr1, hK1⟩ := append_many 27 5 i5 (.int .u8 0) 1 1 Try.underlying27 hi hz hs hb rfl (by omega) _ 0 [] hown ad xs.length c (bvs xs) (by rw [bvs_length, Nat.mul_one]) (by
    intro j v hj
    have hjl : j < xs.length := by rw [← bvs_length]; exact (List.getElem?_eq_some_iff.1 hj).1
    rw [bvs_get xs j hjl] at hj
    cases hj
    rcases hsegW with h0 | ⟨g, o, h0, hc⟩
    · rw [h0] at hjl; simp at hjl
    · cases h0
      rw [addr_add]
      exact hc j hjl) (bvs_one xs) (by unfold maxLen; omega) (by omega)
  have hbr1 : BR W1 v1 xs := by
    have h1 := hown1
    rw [Nat.zero_add, List.nil_append] at h1
    exact h1
  have hfr : ∀ k, v1.ownBlock = some k → w.heap.size ≤ k := by
    intro k hk
    rcases hfr1 with e | ⟨m, e, hm⟩
    · rw [e] at hk; have e2 : w.heap.size = k := Option.some.inj hk; omega
    · rw [e] at hk; cases hk; have := hK0.size; omega
  have hKK : Keeps (fun _ => False) w W1 := hK0.trans hK1 fun k hk e => by have e2 : k = w.heap.size := Option.some.inj e; omega
  have HSum : Hid (Calls _ _ _ _ _) := refSum_any (some ad) c xs W1 (hseg.keptB hKK fun _ _ _ e => e) (by unfold maxLen; omega)
  have HNum : Hid (Calls _ _ _ _ _) := fnumber_any v1 xs (sumN xs : Nat) W1 hbr1 (by have := sumN_lt xs; simp [wN]; omega) (by omega)
  have HF : Hid ((∀ k, v1.ownBlock = some k → w.heap.size ≤ k) ∧ Keeps (fun _ => False) w W1 ∧ nb ((sumN xs : Nat) : Int) = lowB 4 (sumN xs)) := ⟨hfr, hKK, by unfold nb; have := sumN_lt xs; congr 1; omega⟩
  have HAP : Hid (∀ ty, (Builtin.append_ #[27, 27] ty #[.slice (some ⟨w.heap.size, 0, none⟩) 0 0, .slice (some ad) xs.length c]).run Try.prog (w.alloc (.cells #[] 5)) = .ok v1 W1) := happ
  rw [hL] at HAP HSum ⊢
  obtain ⟨Q, hQ⟩ : ∃ Q, sumN xs = Q := ⟨_, rfl⟩
  have hQb : Q < 4294967296 := by rw [← hQ]; exact sumN_lt xs
  rw [hQ] at HSum HNum HF ⊢
  have hcvq : IntKind.i64.wrap (Q : Int) = Q := by rw [IntKind.wrap_i64]; omega
  clear h hseg hcap hx hl hL hBW hK0 hown hi hz hs hb hsegW happ hown1 hfr1 hK1 hbr1 hfr hKK hQ
  go_enter Try.func22, Try.ntmps22
  go_wp2_with (at_builtin; go_must (refine wpList_append_run rfl (.tmp 4) (.tmp 5) 27 27 rfl (.slice (some ⟨w.heap.size, 0, none⟩) 0 0) (.slice (some ad) L c) v1 W1 rfl rfl HAP.out ?_; refine Hid.out ?_))
  unfold Hid
  go_wp2_with fail
  refine HSum.out.mono ?_
  rintro e w2 ⟨rfl, hw⟩
  obtain rfl := hw.symm
  clear hw HSum
  go_wp2_with fail
  refine HNum.out.mono ?_
  rintro e w3 ⟨u', rfl, hbr, hgr⟩
  have HR : Hid (BR w3 u' (xs ++ lowB 4 Q) ∧ (∀ k, u'.ownBlock = some k → w.heap.size ≤ k) ∧ Keeps (fun _ => False) w w3) :=
    ⟨by rw [← HF.out.2.2]; exact hbr, hgr.hi HF.out.2.1.size HF.out.1, HF.out.2.1.trans hgr.kp fun k hk e => by have := HF.out.1 k e.symm; omega⟩
  clear hbr hgr HNum HAP
  go_wp2
  go_ret
  exact ⟨u', rfl, HR.out⟩

set_option maxHeartbeats 1000000 in
/-- What the document's Encode answers. -/
theorem rencode_any (N : Nat) (x : Cfg) (w : World) (hi : x.In w N) (hN : N ≤ w.heap.size) :
    Calls Try.prog 10 #[x.v] w fun e w' => Keeps (fun _ => False) w w' ∧ ((x.d = true ∧ e = .returned (.tuple #[.slice none 0 0, .int .i64 112])) ∨ (x.d = false ∧ 16384 < (form x).length ∧ e = .returned (.tuple #[.slice none 0 0, .int .i64 2])) ∨
      (x.d = false ∧ (form x).length ≤ 16384 ∧ ∃ a c, Seg w' a (form x) ∧ e = .returned (.tuple #[.slice a (form x).length c, .int .i64 0]))) := by
  have hdD := cfgD x hi.fine
  have hfF := cfgForm x
  obtain ⟨n1, n2, n3, n4, ca, cc, cs, pa, pc, ps, ha, hc, hs⟩ := x
  obtain ⟨X, hX⟩ : ∃ X : Cfg, X = ⟨n1, n2, n3, n4, ca, cc, cs, pa, pc, ps, ha, hc, hs⟩ := ⟨_, rfl⟩
  rw [← hX] at hi hdD hfF ⊢
  obtain ⟨L1, hL1⟩ : ∃ L, cs.length = L := ⟨_, rfl⟩
  obtain ⟨L2, hL2⟩ : ∃ L, ps.length = L := ⟨_, rfl⟩
  obtain ⟨L3, hL3⟩ : ∃ L, hs.length = L := ⟨_, rfl⟩
  have hv : X.v = .agg #[.int .i64 n1, .int .i64 n2, .int .i64 n3, .int .i64 n4, .slice ca L1 cc, .slice pa L2 pc, .slice ha L3 hc] := by rw [hX, ← hL1, ← hL2, ← hL3]
  obtain ⟨C, hC⟩ : ∃ C, C = w.heap.size := ⟨_, rfl⟩
  obtain ⟨W, hW⟩ : ∃ W, W = w.alloc (.cells #[.int .i64 n1, .int .i64 n2, .int .i64 n3, .int .i64 n4, .slice ca L1 cc, .slice pa L2 pc, .slice ha L3 hc] 26) := ⟨_, rfl⟩
  have hKW : Keeps (fun _ => False) w W := by rw [hW]; exact (Keeps.refl _ w).alloc _
  have hBW : Blk W C [.int .i64 n1, .int .i64 n2, .int .i64 n3, .int .i64 n4, .slice ca L1 cc, .slice pa L2 pc, .slice ha L3 hc] 26 := by rw [hW, hC]; exact Blk.new w _ _
  have hIW := hi.below (hKW.below hN fun _ e => e.elim)
  have HA : Hid (X.In W N ∧ N ≤ W.heap.size ∧ Keeps (fun _ => False) w W ∧ Blk W C [.int .i64 n1, .int .i64 n2, .int .i64 n3, .int .i64 n4, .slice ca L1 cc, .slice pa L2 pc, .slice ha L3 hc] 26 ∧ X.d = X.pure.d ∧ form X = pform X.pure ∧ X.v = .agg #[.int .i64 n1, .int .i64 n2, .int .i64 n3, .int .i64 n4, .slice ca L1 cc, .slice pa L2 pc, .slice ha L3 hc]) := ⟨hIW, Nat.le_trans hN hKW.size, hKW, hBW, hdD, hfF, hv⟩
  have HH : Hid (Calls _ _ _ _ _) := holds_any X W hIW.ok
  rw [hv] at HH ⊢
  clear hi hN hX hL1 hL2 hL3 hv hKW hBW hIW hdD hfF
  go_enter Try.func10, Try.ntmps10
  go_wp2_with fail
  rw [← hW, ← hC]
  clear hW hC
  refine HH.out.mono ?_
  rintro e w1 ⟨rfl, hK1⟩
  clear HH
  have H1 : Hid (Keeps (fun _ => False) W w1) := hK1
  have hB1 := HA.out.2.2.2.1.kept hK1 fun e => e
  cases hd : X.pure.d
  rotate_left
  · have HD : Hid (X.d = true) := by rw [HA.out.2.2.2.2.1]; exact hd
    clear hd hK1 hB1
    go_wp2
    go_ret2
    exact ⟨HA.out.2.2.1.trans H1.out fun _ _ e => e, .inl ⟨HD.out, rfl⟩⟩
  · have HD : Hid (X.d = false) := by rw [HA.out.2.2.2.2.1]; exact hd
    have HFo : Hid (Calls _ _ _ _ _) := form_any X w1 N (Nat.le_trans HA.out.2.1 hK1.size) (HA.out.1.below (hK1.below HA.out.2.1 fun _ e => e.elim)) hd
    rw [HA.out.2.2.2.2.2.2] at HFo
    have c0 := hB1.cell (i := 0) rfl
    have c1 := hB1.cell (i := 1) rfl
    have c2 := hB1.cell (i := 2) rfl
    have c3 := hB1.cell (i := 3) rfl
    have c4 := hB1.cell (i := 4) rfl
    have c5 := hB1.cell (i := 5) rfl
    have c6 := hB1.cell (i := 6) rfl
    clear hd hK1 hB1
    go_wp2_with fail
    refine HFo.out.mono ?_
    rintro e w2 ⟨u2, rfl, hbr2, hfr2, hK2⟩
    clear HFo c0 c1 c2 c3 c4 c5 c6
    have hpl : (pbody X.pure).length ≤ 2221073 := by
      have e1 : pbody X.pure = body X := by unfold pbody body markB; rw [cfgE]
      rw [e1]; exact body_le X
    have hpp : 0 < (pbody X.pure).length := by unfold pbody; rw [List.length_append, lowB_len]; omega
    have HSu : Hid (Calls _ _ _ _ _) := summed_any u2 (pbody X.pure) w2 hbr2 hpp (by omega)
    have H2 : Hid (Keeps (fun _ => False) w w2) := (HA.out.2.2.1.trans H1.out fun _ _ e => e).trans hK2 fun _ _ e => e
    clear hbr2 hfr2 hK2 hpl hpp
    go_wp2_with fail
    refine HSu.out.mono ?_
    rintro e w3 ⟨u3, rfl, hbr3, hfr3, hK3⟩
    have hbr4 : BR w3 u3 (form X) := by rw [HA.out.2.2.2.2.2.1]; exact hbr3
    obtain ⟨a3, cap3, hu3, hseg3, hcap3⟩ := hbr4.slice
    obtain ⟨M, hM⟩ : ∃ M, (form X).length = M := ⟨_, rfl⟩
    rw [hM] at hu3
    subst hu3
    have H3 : Hid (Keeps (fun _ => False) w w3 ∧ Seg w3 a3 (form X) ∧ (form X).length = M) := ⟨H2.out.trans hK3 fun _ _ e => e, hseg3, hM⟩
    clear HSu hbr3 hfr3 hK3 hbr4 hseg3 hcap3 hM
    by_cases hl : 16384 < M
    · have hl' : (16384 : Int) < M := by omega
      go_wp2
      go_ret2
      exact ⟨H3.out.1, .inr (.inl ⟨HD.out, by have := H3.out.2.2; omega, rfl⟩)⟩
    · have hl' : ¬ (16384 : Int) < M := by omega
      go_wp2
      go_ret2
      exact ⟨H3.out.1, .inr (.inr ⟨HD.out, by have := H3.out.2.2; omega, a3, cap3, H3.out.2.1, by rw [H3.out.2.2]; rfl⟩)⟩
end Go.Proofs.Ytmkeccibminnhaa
