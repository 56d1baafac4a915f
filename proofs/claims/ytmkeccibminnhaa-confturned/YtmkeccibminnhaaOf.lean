import Derived.Test.YtmkeccibminnhaaOe
import Derived.Test.YtmkeccibminnhaaPy
namespace Go.Proofs.Ytmkeccibminnhaa
open Go.RowKit
set_option linter.unusedVariables false
set_option maxRecDepth 6000

def zX : Cfg := ⟨0, 0, 0, 0, none, 0, [], none, 0, [], none, 0, []⟩
theorem zX_ok (w : World) : zX.Ok w := ⟨.inl rfl, ⟨Nat.le_refl _, Nat.zero_le _⟩, fun c h => (by cases h), .inl rfl, ⟨Nat.le_refl _, Nat.zero_le _⟩, fun c h => (by cases h), .inl rfl, ⟨Nat.le_refl _, Nat.zero_le _⟩⟩

set_option maxHeartbeats 4000000 in
theorem confTurned_any (N : Nat) (x : Cfg) (T : Nat) (tn : UInt8) (w : World) (hi : x.In w N) (hN : N ≤ w.heap.size) (hT : T < 65536) :
    Calls Try.prog 7 #[x.v, .int .u16 T, .int .u8 (tn.toNat : Int)] w fun e w' => e = .returned (.bool true) ∧ Keeps (fun _ => False) w w' := by
  have hcvT : IntKind.i64.wrap (T : Int) = T := by rw [IntKind.wrap_i64]; omega
  obtain ⟨n1, n2, n3, n4, ca, cc, cs, pa, pc, ps, ha, hc, hs⟩ := x
  obtain ⟨X, hXX⟩ : ∃ X : Cfg, X = ⟨n1, n2, n3, n4, ca, cc, cs, pa, pc, ps, ha, hc, hs⟩ := ⟨_, rfl⟩
  rw [← hXX] at hi ⊢
  obtain ⟨L1, hL1⟩ : ∃ L, cs.length = L := ⟨_, rfl⟩
  obtain ⟨L2, hL2⟩ : ∃ L, ps.length = L := ⟨_, rfl⟩
  obtain ⟨L3, hL3⟩ : ∃ L, hs.length = L := ⟨_, rfl⟩
  have hv : X.v = .agg #[.int .i64 n1, .int .i64 n2, .int .i64 n3, .int .i64 n4, .slice ca L1 cc, .slice pa L2 pc, .slice ha L3 hc] := by rw [hXX, ← hL1, ← hL2, ← hL3]
  rw [hv]
  obtain ⟨C, hC⟩ : ∃ C, C = w.heap.size := ⟨_, rfl⟩
  obtain ⟨W, hW⟩ : ∃ W, W = w.alloc (.cells #[.int .i64 n1, .int .i64 n2, .int .i64 n3, .int .i64 n4, .slice ca L1 cc, .slice pa L2 pc, .slice ha L3 hc] 26) := ⟨_, rfl⟩
  have hKW : Keeps (fun _ => False) w W := by rw [hW]; exact (Keeps.refl _ _).alloc _
  have hBW : Blk W C [.int .i64 n1, .int .i64 n2, .int .i64 n3, .int .i64 n4, .slice ca L1 cc, .slice pa L2 pc, .slice ha L3 hc] 26 := by rw [hW, hC]; exact Blk.new w _ _
  have HE : Hid (Calls _ _ _ _ _) := encode_any N X W (hi.below (hKW.below hN fun _ e => e.elim)) (Nat.le_trans hN hKW.size)
  rw [hv] at HE
  have HRe : Hid (∀ w1, Keeps (fun _ => False) W w1 → Calls Try.prog 10 #[.agg #[.int .i64 n1, .int .i64 n2, .int .i64 n3, .int .i64 n4, .slice ca L1 cc, .slice pa L2 pc, .slice ha L3 hc]] w1 fun e w' => Keeps (fun _ => False) w1 w' ∧ ((X.d = true ∧ e = .returned (.tuple #[.slice none 0 0, .int .i64 112])) ∨ (X.d = false ∧ 16384 < (form X).length ∧ e = .returned (.tuple #[.slice none 0 0, .int .i64 2])) ∨
      (X.d = false ∧ (form X).length ≤ 16384 ∧ ∃ a c, Seg w' a (form X) ∧ e = .returned (.tuple #[.slice a (form X).length c, .int .i64 0])))) := by
    intro w1 hK1
    have hKa : Keeps (fun _ => False) w w1 := hKW.trans hK1 fun _ _ e => e
    have := rencode_any N X w1 (hi.below (hKa.below hN fun _ e => e.elim)) (Nat.le_trans hN hKa.size)
    rw [hv] at this
    exact this
  have HA : Hid (X.In w N ∧ N ≤ w.heap.size ∧ Keeps (fun _ => False) w W ∧ Blk W C [.int .i64 n1, .int .i64 n2, .int .i64 n3, .int .i64 n4, .slice ca L1 cc, .slice pa L2 pc, .slice ha L3 hc] 26) := ⟨hi, hN, hKW, hBW⟩
  clear hi hN hXX hL1 hL2 hL3 hv hKW hBW
  go_enter Try.func7, Try.ntmps7
  go_wp2_with fail
  rw [← hW, ← hC]
  clear hW hC
  refine HE.out.mono ?_
  clear HE
  rintro e w1 ⟨hK1, hres⟩
  have HK1 : Hid (Keeps (fun _ => False) w w1 ∧ Keeps (fun _ => False) W w1) := ⟨HA.out.2.2.1.trans hK1 fun _ _ e => e, hK1⟩
  rcases hres with ⟨h1, rfl⟩ | ⟨h1, h2, rfl⟩ | ⟨h1, h2, g, hg, hB, rfl⟩
  · have hB1 := HA.out.2.2.2.kept hK1 fun e => e
    have c0 := hB1.cell (i := 0) rfl
    have c1 := hB1.cell (i := 1) rfl
    have c2 := hB1.cell (i := 2) rfl
    have c3 := hB1.cell (i := 3) rfl
    have c4 := hB1.cell (i := 4) rfl
    have c5 := hB1.cell (i := 5) rfl
    have c6 := hB1.cell (i := 6) rfl
    have HR : Hid (Calls _ _ _ _ _) := HRe.out w1 hK1
    have HX : Hid (X.d = true) := h1
    clear h1 hK1 hB1 HRe
    go_wp2_with fail
    refine HR.out.mono ?_
    rintro e w2 ⟨hK2, ⟨_, rfl⟩ | ⟨k1, _⟩ | ⟨k1, _⟩⟩
    · have HK2 : Hid (Keeps (fun _ => False) w w2) := HK1.out.1.trans hK2 fun _ _ e => e
      clear hK2 HR c0 c1 c2 c3 c4 c5 c6
      go_wp2
      go_ret
      exact ⟨rfl, HK2.out⟩
    · rw [HX.out] at k1; cases k1
    · rw [HX.out] at k1; cases k1
  · have hB1 := HA.out.2.2.2.kept hK1 fun e => e
    have c0 := hB1.cell (i := 0) rfl
    have c1 := hB1.cell (i := 1) rfl
    have c2 := hB1.cell (i := 2) rfl
    have c3 := hB1.cell (i := 3) rfl
    have c4 := hB1.cell (i := 4) rfl
    have c5 := hB1.cell (i := 5) rfl
    have c6 := hB1.cell (i := 6) rfl
    have HR : Hid (Calls _ _ _ _ _) := HRe.out w1 hK1
    have HX : Hid (X.d = false ∧ 16384 < (form X).length) := ⟨h1, h2⟩
    clear h1 h2 hK1 hB1 HRe
    go_wp2_with fail
    refine HR.out.mono ?_
    rintro e w2 ⟨hK2, ⟨k1, _⟩ | ⟨_, _, rfl⟩ | ⟨_, k2, _⟩⟩
    · rw [HX.out.1] at k1; cases k1
    · have HK2 : Hid (Keeps (fun _ => False) w w2) := HK1.out.1.trans hK2 fun _ _ e => e
      clear hK2 HR c0 c1 c2 c3 c4 c5 c6
      go_wp2
      go_ret
      exact ⟨rfl, HK2.out⟩
    · have := HX.out.2; omega
  · clear HRe
    have hpd : X.pure.d = false := by rw [← cfgD X HA.out.1.fine]; exact h1
    have hfp := cfgForm X
    obtain ⟨M, hM⟩ : ∃ M, (form X).length = M := ⟨_, rfl⟩
    have hM8 : 8 ≤ M := by rw [← hM]; exact form_pos X
    have hM0 : ¬ (M : Int) = 0 := by omega
    have hM0b : ((M : Int) == 0) = false := by simp; omega
    have hMp : (0 : Int) < M := by omega
    have hMb : (M : Int) ≤ 16384 := by omega
    rw [hM]
    by_cases ht : tn = 0
    · subst ht
      have ht0 : ((0 : UInt8).toNat : Int) = 0 := rfl
      rw [ht0]
      clear h1 h2 hpd hfp hM hB hg hK1
      go_wp2
      go_ret
      exact ⟨ret_b (decide_eq_true (by omega)), HK1.out.1⟩
    · obtain ⟨R, hR⟩ : ∃ R, T % M = R := ⟨_, rfl⟩
      have hRM : R < M := by rw [← hR]; exact Nat.mod_lt _ (by omega)
      have hrem : (T : Int).tmod (M : Int) = R := by rw [Int.tmod_eq_emod_of_nonneg (by omega)]; omega
      have hRf : R < (form X).length := by rw [hM]; exact hRM
      have hRl : R < (pform X.pure).length := by rw [← hfp]; exact hRf
      obtain ⟨q, k, hdq⟩ := dec_turned X.pure R hRl tn ht
      have hF' : (pform X.pure).set R ((pform X.pure)[R] ^^^ tn) = (form X).set R ((form X)[R] ^^^ tn) := by
        have e : ∀ (A B : List UInt8) (hA : R < A.length) (hB : R < B.length), A = B → A.set R (A[R] ^^^ tn) = B.set R (B[R] ^^^ tn) := by
          intro A B hA hB e; subst e; rfl
        exact e _ _ hRl hRf hfp.symm
      rw [hF'] at hdq
      obtain ⟨hq1, hk⟩ := dec_err hdq
      rw [List.length_set, hM] at hq1
      have y0 : w1.cell? ⟨g, R, none⟩ = some (.int .u8 (((form X)[R]).toNat : Int)) := hB.cell (bvs_get _ R hRf)
      have yf := hB.frozen R
      have hB2 : Blk (w1.setCell ⟨g, R, none⟩ (.int .u8 ((((form X)[R]) ^^^ tn).toNat : Int))) g (bvs ((form X).set R ((form X)[R] ^^^ tn))) 5 := by
        have h3 := hB.setCell R (.int .u8 ((((form X)[R]) ^^^ tn).toNat : Int))
        have e : bvs ((form X).set R ((form X)[R] ^^^ tn)) = (bvs (form X)).set R (.int .u8 ((((form X)[R]) ^^^ tn).toNat : Int)) := by simp [bvs, List.map_set]
        rw [e]; exact h3
      have hK2 : Keeps (fun _ => False) w (w1.setCell ⟨g, R, none⟩ (.int .u8 ((((form X)[R]) ^^^ tn).toNat : Int))) := HK1.out.1.setCell _ _ (fun h => by have := HA.out.2.2.1.size; simp at h; omega)
      have hxr : bits .xor .u8 (((form X)[R]).toNat : Int) (tn.toNat : Int) = ((((form X)[R]) ^^^ tn).toNat : Int) := by
        rw [UInt8.toNat_xor]
        exact u8_xor_nat _ _ ((form X)[R]).toNat_lt tn.toNat_lt
      have hlen2 : ((form X).set R ((form X)[R] ^^^ tn)).length = M := by rw [List.length_set, hM]
      have HD1 := decode_err (cap := M) (seg_blk hB2) (by rw [hlen2]; unfold maxLen; omega) (by rw [hlen2]; omega) (fun _ y hy => by cases hy; exact hB2.lt) hdq
      rw [hlen2] at HD1
      obtain ⟨A, hA⟩ : ∃ A : Nat, ((form X)[R]).toNat = A := ⟨_, rfl⟩
      obtain ⟨Q, hQ⟩ : ∃ Q : Nat, (((form X)[R]) ^^^ tn).toNat = Q := ⟨_, rfl⟩
      obtain ⟨Tn, hTn⟩ : ∃ Tn : Nat, tn.toNat = Tn := ⟨_, rfl⟩
      have hTn0 : ¬ (Tn : Int) = 0 := by
        intro e; apply ht; apply UInt8.toNat_inj.1; rw [hTn]; show Tn = 0; omega
      have hTn0b : ((Tn : Int) == 0) = false := by simp; omega
      rw [hA, hQ, hTn] at hxr
      rw [hA] at y0
      rw [hQ] at HD1 hK2
      rw [hTn]
      have HD1 : Hid (Calls _ _ _ _ _) := HD1
      have HK2 : Hid (Keeps (fun _ => False) w (w1.setCell ⟨g, R, none⟩ (.int .u8 (Q : Int)))) := hK2
      have hRMi : (R : Int) < M := by omega
      have hRt : ((R : Int)).toNat = R := by omega
      have hq0 : (0 : Int) ≤ q := by omega
      have hq1' : (q : Int) ≤ M := by omega
      clear h1 h2 hpd hfp hM hB hg hK1 hdq hF' hB2 hK2 hlen2 hA hQ hTn hRf hRl hR ht
      go_wp2_with fail
      refine HD1.out.mono ?_
      rintro e w3 ⟨rfl, hK3⟩
      have HK3 : Hid (Keeps (fun _ => False) w w3) := HK2.out.trans hK3 fun _ _ e => e
      clear hK3 HD1 y0 yf hxr HK2
      obtain ⟨W3, hW3⟩ : ∃ W3, W3 = w3.alloc (.cells #[.int .i64 0, .int .i64 0, .int .i64 0, .int .i64 0, .slice none 0 0, .slice none 0 0, .slice none 0 0] 26) := ⟨_, rfl⟩
      have HSm : Hid (Calls Try.prog 14 #[.agg #[.int .i64 0, .int .i64 0, .int .i64 0, .int .i64 0, .slice none 0 0, .slice none 0 0, .slice none 0 0], .agg #[.int .i64 0, .int .i64 0, .int .i64 0, .int .i64 0, .slice none 0 0, .slice none 0 0, .slice none 0 0]] W3 fun e w' => e = .returned (.bool true) ∧ Keeps (fun _ => False) W3 w') := same_eq zX zX W3 rfl (zX_ok W3) (zX_ok W3)
      have HKW3 : Hid (Keeps (fun _ => False) w W3) := by rw [hW3]; exact HK3.out.alloc _
      rcases hk with rfl | rfl
      · go_wp2_with fail
        rw [← hW3]
        refine HSm.out.mono ?_
        rintro e w4 ⟨rfl, hK4⟩
        have HK4 : Hid (Keeps (fun _ => False) w w4) := HKW3.out.trans hK4 fun _ _ e => e
        clear hK4 HSm hW3
        go_wp2
        go_ret
        exact ⟨rfl, HK4.out⟩
      · go_wp2_with fail
        rw [← hW3]
        refine HSm.out.mono ?_
        rintro e w4 ⟨rfl, hK4⟩
        have HK4 : Hid (Keeps (fun _ => False) w w4) := HKW3.out.trans hK4 fun _ _ e => e
        clear hK4 HSm hW3
        go_wp2
        go_ret
        exact ⟨rfl, HK4.out⟩
end Go.Proofs.Ytmkeccibminnhaa
