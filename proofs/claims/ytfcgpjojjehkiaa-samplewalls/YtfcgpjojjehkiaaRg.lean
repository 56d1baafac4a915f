import Derived.Test.YtfcgpjojjehkiaaRf
namespace Go.Proofs.Ytfcgpjojjehkiaa
open Go.RowKit
set_option linter.unusedVariables false

set_option maxRecDepth 20000 in
set_option maxHeartbeats 2000000 in
theorem hread_some2 (n G c : Nat) (l : List UInt32) (w : World) (hs : SegW w (some ⟨G, 0, none⟩) l) (hl : l.length = 2 + n) (hc : l.length ≤ c ∧ c ≤ maxLen) (hn1 : 1 ≤ n) (hn : n ≤ 16) (h0 : wd l 0 ≠ 0) (hk1 : 1 ≤ (wd l 1).toNat) (hk2 : (wd l 1).toNat ≤ n) :
    Calls Try.prog 49 #[.slice (some ⟨G, 0, none⟩) l.length c, .int .i64 2] w (RdR w 2 n l G c) := by
  obtain ⟨k, hk⟩ : ∃ k, k = (wd l 1).toNat := ⟨_, rfl⟩
  obtain ⟨W0, hW0⟩ : ∃ W0, W0 = (w.alloc (.cells #[.bool false, .bool false, .slice none 0 0] 83)).alloc (.cells #[.bool true, .bool false, .slice (some ⟨G, 2, none⟩) k (c - 2)] 83) := ⟨_, rfl⟩
  have hK : Keeps (fun _ => False) w W0 := by rw [hW0]; exact ((Keeps.refl _ w).alloc _).alloc _
  have hB1 : Blk W0 w.heap.size [.bool false, .bool false, .slice none 0 0] 83 := by rw [hW0]; exact (Blk.new w _ 83).alloc _
  have hB2 : Blk W0 (w.heap.size + 1) [.bool true, .bool false, .slice (some ⟨G, 2, none⟩) k (c - 2)] 83 := by
    rw [hW0]; have := Blk.new (w.alloc (.cells #[.bool false, .bool false, .slice none 0 0] 83)) #[.bool true, .bool false, .slice (some ⟨G, 2, none⟩) k (c - 2)] 83
    simpa using this
  have hs2 := hs.kept hK (fun _ _ e => e)
  have hKx : Keeps (fun _ => False) w ((w.alloc (.cells #[.bool false, .bool false, .slice none 0 0] 83)).alloc (.cells #[.bool false, .bool false, .slice none 0 0] 83)) := ((Keeps.refl _ w).alloc _).alloc _
  have hKy : Keeps (fun _ => False) w ((w.alloc (.cells #[.bool false, .bool false, .slice none 0 0] 83)).alloc (.cells #[.bool true, .bool false, .slice none 0 0] 83)) := ((Keeps.refl _ w).alloc _).alloc _
  have c0 := (hs.kept hKx (fun _ _ e => e)).wd (j := 0) (by omega)
  have cl := (hs.kept hKx (fun _ _ e => e)).wd (j := 1) (by omega)
  have c1 := (hs.kept hKy (fun _ _ e => e)).wd (j := 1) (by omega)
  rw [Nat.zero_add] at c0 cl c1
  rw [← hk] at cl
  have hv0 : (((wd l 0).toNat : Int) != 0) = true := by
    have : (wd l 0).toNat ≠ 0 := fun e => h0 (UInt32.toNat_inj.1 (by simpa using e))
    exact bne_iff_ne.2 (by omega)
  have hms : hM 2 l = (l.drop 2).take k := by unfold hM; rw [if_neg h0, hk]
  have hml : (hM 2 l).length = k := by rw [hms]; simp; omega
  have hsg : SegW W0 (some ⟨G, 2, none⟩) (hM 2 l) := by
    refine .inr ⟨G, 2, rfl, fun i hi => ?_⟩
    rw [hml] at hi
    have := hs2.wd (j := 2 + i) (by omega)
    rw [Nat.zero_add] at this
    rw [this, wd_get (by omega)]
    simp [hms]
  have HWd := hwords_any 2 n true false (some ⟨G, 2, none⟩) (c - 2) (hM 2 l) W0 hsg (by omega) (fun e => by omega) (by omega) hn
  rw [hml] at HWd
  obtain ⟨ws, hws⟩ : ∃ ws, ws = hdW 2 n true false (hM 2 l) := ⟨_, rfl⟩
  have hwl : ws.length = l.length := by rw [hws, hl]; exact hdW_length (by omega) (by omega)
  have hRB : rightB 2 n l = decide (ws = l) := by
    rw [hws]; exact right_eq2 hl h0 (by omega) (by omega) false
  have hVV : true = hT l ∧ false = hF 2 l ∧ .slice (some ⟨G, 2, none⟩) k (c - 2) = hV 2 l G c := by
    unfold hT hF hV hT
    rw [if_neg h0, decide_eq_true h0, hk]
    exact ⟨rfl, rfl, rfl⟩
  unfold WdP at HWd
  rw [← hws, hwl] at HWd
  obtain ⟨L, hL⟩ : ∃ L, L = l.length := ⟨_, rfl⟩
  obtain ⟨O1, hO1⟩ : ∃ O, O = w.heap.size := ⟨_, rfl⟩
  obtain ⟨O2, hO2⟩ : ∃ O, O = w.heap.size + 1 := ⟨_, rfl⟩
  rw [← hL] at HWd ⊢
  rw [← hO1] at hB1
  rw [← hO2] at hB2
  have d0 := hB2.cell (i := 0) rfl
  have d1 := hB2.cell (i := 1) rfl
  have d2 := hB2.cell (i := 2) rfl
  have HWd : Hid (Calls _ _ _ _ _) := HWd
  have HP : Hid (W0 = _ ∧ Keeps (fun _ => False) w W0 ∧ Blk W0 O1 [.bool false, .bool false, .slice none 0 0] 83 ∧ Blk W0 O2 [.bool true, .bool false, .slice (some ⟨G, 2, none⟩) k (c - 2)] 83 ∧ O1 = w.heap.size ∧ O2 = w.heap.size + 1) := ⟨hW0, hK, hB1, hB2, hO1, hO2⟩
  have HQ : Hid (SegW W0 (some ⟨G, 0, none⟩) l ∧ L = l.length ∧ ws.length = l.length ∧ rightB 2 n l = decide (ws = l) ∧ (true = hT l ∧ false = hF 2 l ∧ .slice (some ⟨G, 2, none⟩) k (c - 2) = hV 2 l G c)) := ⟨hs2, hL, hwl, hRB, hVV⟩
  obtain ⟨v0, hv⟩ : ∃ v : Nat, v = (wd l 0).toNat := ⟨_, rfl⟩
  rw [← hv] at c0 hv0
  have g0 : 0 < (L : Int) := by omega
  have g4 : (L : Int) - 2 = (n : Int) := by omega
  have g5 : (n : Int) ≤ 16 := by omega
  have g6 : (L : Int) ≤ 19 := by omega
  have g7 : 1 ≤ (k : Int) := by omega
  have g8 : ¬ (n : Int) < (k : Int) := by omega
  have g9 : (k : Int) ≤ 16 := by omega
  have g10 : 2 + (k : Int) ≤ c := by omega
  have g11 : (c : Int) ≤ 9223372036854775807 := by have := hc.2; unfold maxLen at this; omega
  have g12 : 1 < (L : Int) := by omega
  have g13 : ¬ c = 2 := by omega
  have g14 : ¬ (k : Int) < 1 := by omega
  have g15 : (L : Int) ≤ c := by omega
  clear hs hs2 hl hn1 hn h0 hK hKx hKy hB1 hB2 hW0 hws hwl hRB hL hO1 hO2 hc hk hk1 hk2 hms hml hsg hVV hv
  go_enter Try.func49, Try.ntmps49
  go_wp2_with fail
  rw [← HP.out.1, ← HP.out.2.2.2.2.2, ← HP.out.2.2.2.2.1]
  refine HWd.out.mono ?_
  rintro e w2 ⟨Gw, hGs, rfl, hGB, hk2⟩
  have H2 : Hid (Blk w2 Gw (wvs ws) 34 ∧ Keeps (fun _ => False) W0 w2) := ⟨hGB, hk2⟩
  clear hGs hGB hk2 HWd c0 cl c1 d0 d1 d2
  go_wp2
  go_loopw [57] (fun i wr => ∃ j : Nat, j ≤ L ∧ i = .int .i64 j ∧ ws.take j = l.take j ∧ Keeps (fun _ => False) w2 wr) (fun i _ => L - (intOf i).toNat)
  case atStart => exact ⟨0, by omega, rfl, by simp, Keeps.refl _ _⟩
  case round =>
    obtain ⟨j, hj, rfl, ht, hk⟩ := hrel
    have hK0 : Keeps (fun _ => False) W0 wr := H2.out.2.trans hk fun _ _ e => e
    have hO1 := HP.out.2.2.1.kept hK0 fun e => e
    have hO2 := HP.out.2.2.2.1.kept hK0 fun e => e
    have HO : Hid (Blk wr O1 [.bool false, .bool false, .slice none 0 0] 83 ∧ Blk wr O2 [.bool true, .bool false, .slice (some ⟨G, 2, none⟩) k (c - 2)] 83 ∧ Keeps (fun _ => False) w wr) := ⟨hO1, hO2, HP.out.2.1.trans hK0 fun _ _ e => e⟩
    by_cases hlt : j < L
    · have hlt' : (j : Int) < L := by omega
      have hjl : j < l.length := by have := HQ.out.2.1; omega
      have hjw : j < ws.length := by have := HQ.out.2.2.1; omega
      have cl := (HQ.out.1.kept hK0 (fun _ _ e => e)).wd hjl
      rw [Nat.zero_add] at cl
      have cw := (H2.out.1.kept hk fun e => e).cell (wvs_wd hjw)
      by_cases hx : wd ws j = wd l j
      · rw [hx] at cw
        have HT : Hid (ws.take (j + 1) = l.take (j + 1)) := by
          show ws.take (j + 1) = l.take (j + 1)
          rw [List.take_add_one, List.take_add_one, ht, List.getElem?_eq_getElem hjl, List.getElem?_eq_getElem hjw, ← wd_get hjl, ← wd_get hjw, hx]
        have HK : Hid (Keeps (fun _ => False) w2 wr) := hk
        obtain ⟨x, hxx⟩ : ∃ x : Nat, x = (wd l j).toNat := ⟨_, rfl⟩
        rw [← hxx] at cl cw
        clear hj ht hk hK0 hO1 hO2 hjl hjw hx hxx HO
        go_wp2
        go_quiet (fail)
        go_wp2
        go_roundw
        case rel => exact ⟨j + 1, by omega, by go_num, HT.out, HK.out.drewN _⟩
        case measure => simp [intOf]; omega
      · have HN : Hid (rightB 2 n l = false) := by
          show rightB 2 n l = false
          rw [HQ.out.2.2.2.1, decide_eq_false]
          intro e; exact hx (by rw [e])
        obtain ⟨x, hxx⟩ : ∃ x : Nat, x = (wd l j).toNat := ⟨_, rfl⟩
        obtain ⟨y, hyy⟩ : ∃ x : Nat, x = (wd ws j).toNat := ⟨_, rfl⟩
        rw [← hxx] at cl
        rw [← hyy] at cw
        have hxy : ((y : Int) != (x : Int)) = true := bne_iff_ne.2 (by rw [hxx, hyy]; exact fun e => hx (UInt32.toNat_inj.1 (by omega)))
        have a0 := hO1.cell (i := 0) rfl
        have a1 := hO1.cell (i := 1) rfl
        have a2 := hO1.cell (i := 2) rfl
        have z0 := hO1.frozen 0
        have z1 := hO1.frozen 1
        have z2 := hO1.frozen 2
        clear hj ht hk hK0 hO1 hO2 hjl hjw hx hxx hyy
        go_wp2
        go_quiet (fail)
        go_wp2
        obtain ⟨hB3, hK3⟩ := set3 (HO.out.1.drewN nq) (.bool false) (.bool false) (.slice none 0 0)
        obtain ⟨Wb, hWb⟩ : ∃ Wb, Wb = ((((wr.drewN nq).setCell ⟨O1, 0, none⟩ (.bool false)).setCell ⟨O1, 1, none⟩ (.bool false)).setCell ⟨O1, 2, none⟩ (.slice none 0 0)) := ⟨_, rfl⟩
        rw [← hWb] at hB3 hK3 ⊢
        have HKb : Hid (Keeps (fun _ => False) w Wb) := (HO.out.2.2.drewN nq).trans hK3 fun b hb e => by have := HP.out.2.2.2.2.1; omega
        clear hK3 hWb a0 a1 a2 z0 z1 z2 cl cw
        refine bodyPost_ret (results_row_tmp rfl _ _ O1 83 #[.bool false, .bool false, .slice none 0 0] (0, 0) _ rfl hB3 Try.underlying83 rfl (by kernel_rfl)) rfl ?_
        exact ⟨_, _, _, _, _, by rw [HN.out]; rfl, (fun e => by rw [HN.out] at e; cases e), HKb.out⟩
    · obtain rfl : j = L := by omega
      have HY : Hid (rightB 2 n l = true) := by
        show rightB 2 n l = true
        rw [HQ.out.2.2.2.1, decide_eq_true]
        rw [List.take_of_length_le (by have := HQ.out.2.2.1; have := HQ.out.2.1; omega), List.take_of_length_le (by have := HQ.out.2.1; omega)] at ht
        exact ht
      have a0 := hO1.cell (i := 0) rfl
      have a1 := hO1.cell (i := 1) rfl
      have a2 := hO1.cell (i := 2) rfl
      have z0 := hO1.frozen 0
      have z1 := hO1.frozen 1
      have z2 := hO1.frozen 2
      have d0 := hO2.cell (i := 0) rfl
      have d1 := hO2.cell (i := 1) rfl
      have d2 := hO2.cell (i := 2) rfl
      clear hj ht hk hK0 hO1 hO2 hlt
      go_wp2
      obtain ⟨hB3, hK3⟩ := set3 HO.out.1 (.bool true) (.bool false) (.slice (some ⟨G, 2, none⟩) k (c - 2))
      obtain ⟨Wb, hWb⟩ : ∃ Wb, Wb = (((wr.setCell ⟨O1, 0, none⟩ (.bool true)).setCell ⟨O1, 1, none⟩ (.bool false)).setCell ⟨O1, 2, none⟩ (.slice (some ⟨G, 2, none⟩) k (c - 2))) := ⟨_, rfl⟩
      rw [← hWb] at hB3 hK3 ⊢
      have HKb : Hid (Keeps (fun _ => False) w Wb) := HO.out.2.2.trans hK3 fun b hb e => by have := HP.out.2.2.2.2.1; omega
      clear hK3 hWb a0 a1 a2 z0 z1 z2 d0 d1 d2
      refine bodyPost_ret (results_row_tmp rfl _ _ O1 83 #[.bool true, .bool false, .slice (some ⟨G, 2, none⟩) k (c - 2)] (0, 0) _ rfl hB3 Try.underlying83 rfl (by kernel_rfl)) rfl ?_
      refine ⟨_, _, _, _, _, by rw [HY.out]; rfl, (fun e => ?_), HKb.out⟩
      exact HQ.out.2.2.2.2

set_option maxRecDepth 20000 in
set_option maxHeartbeats 2000000 in
theorem hread_some3 (n G c : Nat) (l : List UInt32) (w : World) (hs : SegW w (some ⟨G, 0, none⟩) l) (hl : l.length = 3 + n) (hc : l.length ≤ c ∧ c ≤ maxLen) (hn1 : 1 ≤ n) (hn : n ≤ 16) (h0 : wd l 0 ≠ 0) (hk1 : 1 ≤ (wd l 2).toNat) (hk2 : (wd l 2).toNat ≤ n) :
    Calls Try.prog 49 #[.slice (some ⟨G, 0, none⟩) l.length c, .int .i64 3] w (RdR w 3 n l G c) := by
  obtain ⟨k, hk⟩ : ∃ k, k = (wd l 2).toNat := ⟨_, rfl⟩
  obtain ⟨f, hf⟩ : ∃ f, f = decide (wd l 1 = 1) := ⟨_, rfl⟩
  obtain ⟨W0, hW0⟩ : ∃ W0, W0 = (w.alloc (.cells #[.bool false, .bool false, .slice none 0 0] 83)).alloc (.cells #[.bool true, .bool f, .slice (some ⟨G, 3, none⟩) k (c - 3)] 83) := ⟨_, rfl⟩
  have hK : Keeps (fun _ => False) w W0 := by rw [hW0]; exact ((Keeps.refl _ w).alloc _).alloc _
  have hB1 : Blk W0 w.heap.size [.bool false, .bool false, .slice none 0 0] 83 := by rw [hW0]; exact (Blk.new w _ 83).alloc _
  have hB2 : Blk W0 (w.heap.size + 1) [.bool true, .bool f, .slice (some ⟨G, 3, none⟩) k (c - 3)] 83 := by
    rw [hW0]; have := Blk.new (w.alloc (.cells #[.bool false, .bool false, .slice none 0 0] 83)) #[.bool true, .bool f, .slice (some ⟨G, 3, none⟩) k (c - 3)] 83
    simpa using this
  have hs2 := hs.kept hK (fun _ _ e => e)
  have hKx : Keeps (fun _ => False) w ((w.alloc (.cells #[.bool false, .bool false, .slice none 0 0] 83)).alloc (.cells #[.bool false, .bool false, .slice none 0 0] 83)) := ((Keeps.refl _ w).alloc _).alloc _
  have hKy : Keeps (fun _ => False) w ((w.alloc (.cells #[.bool false, .bool false, .slice none 0 0] 83)).alloc (.cells #[.bool true, .bool false, .slice none 0 0] 83)) := ((Keeps.refl _ w).alloc _).alloc _
  have c0 := (hs.kept hKx (fun _ _ e => e)).wd (j := 0) (by omega)
  have cl := (hs.kept hKx (fun _ _ e => e)).wd (j := 2) (by omega)
  have c1 := (hs.kept hKy (fun _ _ e => e)).wd (j := 1) (by omega)
  rw [Nat.zero_add] at c0 cl c1
  rw [← hk] at cl
  have hv0 : (((wd l 0).toNat : Int) != 0) = true := by
    have : (wd l 0).toNat ≠ 0 := fun e => h0 (UInt32.toNat_inj.1 (by simpa using e))
    exact bne_iff_ne.2 (by omega)
  have hms : hM 3 l = (l.drop 3).take k := by unfold hM; rw [if_neg h0, hk]
  have hml : (hM 3 l).length = k := by rw [hms]; simp; omega
  have hsg : SegW W0 (some ⟨G, 3, none⟩) (hM 3 l) := by
    refine .inr ⟨G, 3, rfl, fun i hi => ?_⟩
    rw [hml] at hi
    have := hs2.wd (j := 3 + i) (by omega)
    rw [Nat.zero_add] at this
    rw [this, wd_get (by omega)]
    simp [hms]
  have HWd := hwords_any 3 n true f (some ⟨G, 3, none⟩) (c - 3) (hM 3 l) W0 hsg (by omega) (fun e => by omega) (by omega) hn
  rw [hml] at HWd
  obtain ⟨ws, hws⟩ : ∃ ws, ws = hdW 3 n true f (hM 3 l) := ⟨_, rfl⟩
  have hwl : ws.length = l.length := by rw [hws, hl]; exact hdW_length (by omega) (by omega)
  have hRB : rightB 3 n l = decide (ws = l) := by
    rw [hws, hf]; exact right_eq3 hl h0 (by omega) (by omega)
  have hVV : true = hT l ∧ f = hF 3 l ∧ .slice (some ⟨G, 3, none⟩) k (c - 3) = hV 3 l G c := by
    unfold hT hF hV hT
    rw [if_neg h0, decide_eq_true h0, hk, hf]
    simp
  unfold WdP at HWd
  rw [← hws, hwl] at HWd
  obtain ⟨L, hL⟩ : ∃ L, L = l.length := ⟨_, rfl⟩
  obtain ⟨O1, hO1⟩ : ∃ O, O = w.heap.size := ⟨_, rfl⟩
  obtain ⟨O2, hO2⟩ : ∃ O, O = w.heap.size + 1 := ⟨_, rfl⟩
  rw [← hL] at HWd ⊢
  rw [← hO1] at hB1
  rw [← hO2] at hB2
  have d0 := hB2.cell (i := 0) rfl
  have d1 := hB2.cell (i := 1) rfl
  have d2 := hB2.cell (i := 2) rfl
  have HWd : Hid (Calls _ _ _ _ _) := HWd
  have HP : Hid (W0 = _ ∧ Keeps (fun _ => False) w W0 ∧ Blk W0 O1 [.bool false, .bool false, .slice none 0 0] 83 ∧ Blk W0 O2 [.bool true, .bool f, .slice (some ⟨G, 3, none⟩) k (c - 3)] 83 ∧ O1 = w.heap.size ∧ O2 = w.heap.size + 1) := ⟨hW0, hK, hB1, hB2, hO1, hO2⟩
  have HQ : Hid (SegW W0 (some ⟨G, 0, none⟩) l ∧ L = l.length ∧ ws.length = l.length ∧ rightB 3 n l = decide (ws = l) ∧ (true = hT l ∧ f = hF 3 l ∧ .slice (some ⟨G, 3, none⟩) k (c - 3) = hV 3 l G c)) := ⟨hs2, hL, hwl, hRB, hVV⟩
  obtain ⟨v0, hv⟩ : ∃ v : Nat, v = (wd l 0).toNat := ⟨_, rfl⟩
  rw [← hv] at c0 hv0
  obtain ⟨v1, hv1⟩ : ∃ v : Nat, v = (wd l 1).toNat := ⟨_, rfl⟩
  have hf1 : ((v1 : Int) == 1) = f := by
    rw [hf, hv1]
    by_cases h : wd l 1 = 1
    · rw [h]; rfl
    · have : (wd l 1).toNat ≠ 1 := fun e => h (UInt32.toNat_inj.1 (by simpa using e))
      rw [beq_eq_false_iff_ne.2 (by omega), decide_eq_false h]
  rw [← hv1] at c1
  have g0 : 0 < (L : Int) := by omega
  have g4 : (L : Int) - 3 = (n : Int) := by omega
  have g5 : (n : Int) ≤ 16 := by omega
  have g6 : (L : Int) ≤ 19 := by omega
  have g7 : 1 ≤ (k : Int) := by omega
  have g8 : ¬ (n : Int) < (k : Int) := by omega
  have g9 : (k : Int) ≤ 16 := by omega
  have g10 : 3 + (k : Int) ≤ c := by omega
  have g11 : (c : Int) ≤ 9223372036854775807 := by have := hc.2; unfold maxLen at this; omega
  have g12 : 2 < (L : Int) := by omega
  have g13 : ¬ c = 3 := by omega
  have g14 : ¬ (k : Int) < 1 := by omega
  have g15 : (L : Int) ≤ c := by omega
  clear hs hs2 hl hn1 hn h0 hK hKx hKy hB1 hB2 hW0 hws hwl hRB hL hO1 hO2 hc hk hk1 hk2 hms hml hsg hVV hv hf hv1
  go_enter Try.func49, Try.ntmps49
  go_wp2_with fail
  rw [← HP.out.1, ← HP.out.2.2.2.2.2, ← HP.out.2.2.2.2.1]
  refine HWd.out.mono ?_
  rintro e w2 ⟨Gw, hGs, rfl, hGB, hk2⟩
  have H2 : Hid (Blk w2 Gw (wvs ws) 34 ∧ Keeps (fun _ => False) W0 w2) := ⟨hGB, hk2⟩
  clear hGs hGB hk2 HWd c0 cl c1 d0 d1 d2
  go_wp2
  go_loopw [57] (fun i wr => ∃ j : Nat, j ≤ L ∧ i = .int .i64 j ∧ ws.take j = l.take j ∧ Keeps (fun _ => False) w2 wr) (fun i _ => L - (intOf i).toNat)
  case atStart => exact ⟨0, by omega, rfl, by simp, Keeps.refl _ _⟩
  case round =>
    obtain ⟨j, hj, rfl, ht, hk⟩ := hrel
    have hK0 : Keeps (fun _ => False) W0 wr := H2.out.2.trans hk fun _ _ e => e
    have hO1 := HP.out.2.2.1.kept hK0 fun e => e
    have hO2 := HP.out.2.2.2.1.kept hK0 fun e => e
    have HO : Hid (Blk wr O1 [.bool false, .bool false, .slice none 0 0] 83 ∧ Blk wr O2 [.bool true, .bool f, .slice (some ⟨G, 3, none⟩) k (c - 3)] 83 ∧ Keeps (fun _ => False) w wr) := ⟨hO1, hO2, HP.out.2.1.trans hK0 fun _ _ e => e⟩
    by_cases hlt : j < L
    · have hlt' : (j : Int) < L := by omega
      have hjl : j < l.length := by have := HQ.out.2.1; omega
      have hjw : j < ws.length := by have := HQ.out.2.2.1; omega
      have cl := (HQ.out.1.kept hK0 (fun _ _ e => e)).wd hjl
      rw [Nat.zero_add] at cl
      have cw := (H2.out.1.kept hk fun e => e).cell (wvs_wd hjw)
      by_cases hx : wd ws j = wd l j
      · rw [hx] at cw
        have HT : Hid (ws.take (j + 1) = l.take (j + 1)) := by
          show ws.take (j + 1) = l.take (j + 1)
          rw [List.take_add_one, List.take_add_one, ht, List.getElem?_eq_getElem hjl, List.getElem?_eq_getElem hjw, ← wd_get hjl, ← wd_get hjw, hx]
        have HK : Hid (Keeps (fun _ => False) w2 wr) := hk
        obtain ⟨x, hxx⟩ : ∃ x : Nat, x = (wd l j).toNat := ⟨_, rfl⟩
        rw [← hxx] at cl cw
        clear hj ht hk hK0 hO1 hO2 hjl hjw hx hxx HO
        go_wp2
        go_quiet (fail)
        go_wp2
        go_roundw
        case rel => exact ⟨j + 1, by omega, by go_num, HT.out, HK.out.drewN _⟩
        case measure => simp [intOf]; omega
      · have HN : Hid (rightB 3 n l = false) := by
          show rightB 3 n l = false
          rw [HQ.out.2.2.2.1, decide_eq_false]
          intro e; exact hx (by rw [e])
        obtain ⟨x, hxx⟩ : ∃ x : Nat, x = (wd l j).toNat := ⟨_, rfl⟩
        obtain ⟨y, hyy⟩ : ∃ x : Nat, x = (wd ws j).toNat := ⟨_, rfl⟩
        rw [← hxx] at cl
        rw [← hyy] at cw
        have hxy : ((y : Int) != (x : Int)) = true := bne_iff_ne.2 (by rw [hxx, hyy]; exact fun e => hx (UInt32.toNat_inj.1 (by omega)))
        have a0 := hO1.cell (i := 0) rfl
        have a1 := hO1.cell (i := 1) rfl
        have a2 := hO1.cell (i := 2) rfl
        have z0 := hO1.frozen 0
        have z1 := hO1.frozen 1
        have z2 := hO1.frozen 2
        clear hj ht hk hK0 hO1 hO2 hjl hjw hx hxx hyy
        go_wp2
        go_quiet (fail)
        go_wp2
        obtain ⟨hB3, hK3⟩ := set3 (HO.out.1.drewN nq) (.bool false) (.bool false) (.slice none 0 0)
        obtain ⟨Wb, hWb⟩ : ∃ Wb, Wb = ((((wr.drewN nq).setCell ⟨O1, 0, none⟩ (.bool false)).setCell ⟨O1, 1, none⟩ (.bool false)).setCell ⟨O1, 2, none⟩ (.slice none 0 0)) := ⟨_, rfl⟩
        rw [← hWb] at hB3 hK3 ⊢
        have HKb : Hid (Keeps (fun _ => False) w Wb) := (HO.out.2.2.drewN nq).trans hK3 fun b hb e => by have := HP.out.2.2.2.2.1; omega
        clear hK3 hWb a0 a1 a2 z0 z1 z2 cl cw
        refine bodyPost_ret (results_row_tmp rfl _ _ O1 83 #[.bool false, .bool false, .slice none 0 0] (0, 0) _ rfl hB3 Try.underlying83 rfl (by kernel_rfl)) rfl ?_
        exact ⟨_, _, _, _, _, by rw [HN.out]; rfl, (fun e => by rw [HN.out] at e; cases e), HKb.out⟩
    · obtain rfl : j = L := by omega
      have HY : Hid (rightB 3 n l = true) := by
        show rightB 3 n l = true
        rw [HQ.out.2.2.2.1, decide_eq_true]
        rw [List.take_of_length_le (by have := HQ.out.2.2.1; have := HQ.out.2.1; omega), List.take_of_length_le (by have := HQ.out.2.1; omega)] at ht
        exact ht
      have a0 := hO1.cell (i := 0) rfl
      have a1 := hO1.cell (i := 1) rfl
      have a2 := hO1.cell (i := 2) rfl
      have z0 := hO1.frozen 0
      have z1 := hO1.frozen 1
      have z2 := hO1.frozen 2
      have d0 := hO2.cell (i := 0) rfl
      have d1 := hO2.cell (i := 1) rfl
      have d2 := hO2.cell (i := 2) rfl
      clear hj ht hk hK0 hO1 hO2 hlt
      go_wp2
      obtain ⟨hB3, hK3⟩ := set3 HO.out.1 (.bool true) (.bool f) (.slice (some ⟨G, 3, none⟩) k (c - 3))
      obtain ⟨Wb, hWb⟩ : ∃ Wb, Wb = (((wr.setCell ⟨O1, 0, none⟩ (.bool true)).setCell ⟨O1, 1, none⟩ (.bool f)).setCell ⟨O1, 2, none⟩ (.slice (some ⟨G, 3, none⟩) k (c - 3))) := ⟨_, rfl⟩
      rw [← hWb] at hB3 hK3 ⊢
      have HKb : Hid (Keeps (fun _ => False) w Wb) := HO.out.2.2.trans hK3 fun b hb e => by have := HP.out.2.2.2.2.1; omega
      clear hK3 hWb a0 a1 a2 z0 z1 z2 d0 d1 d2
      refine bodyPost_ret (results_row_tmp rfl _ _ O1 83 #[.bool true, .bool f, .slice (some ⟨G, 3, none⟩) k (c - 3)] (0, 0) _ rfl hB3 Try.underlying83 rfl (by kernel_rfl)) rfl ?_
      refine ⟨_, _, _, _, _, by rw [HY.out]; rfl, (fun e => ?_), HKb.out⟩
      exact HQ.out.2.2.2.2


theorem hread_any (h n G c : Nat) (l : List UInt32) (w : World) (hs : SegW w (some ⟨G, 0, none⟩) l) (hl : l.length = h + n) (hc : l.length ≤ c ∧ c ≤ maxLen) (hh : h = 2 ∨ h = 3) (hn1 : 1 ≤ n) (hn : n ≤ 16) :
    Calls Try.prog 49 #[.slice (some ⟨G, 0, none⟩) l.length c, .int .i64 h] w (RdR w h n l G c) := by
  by_cases h0 : wd l 0 = 0
  · exact hread_zero h n G c l w hs hl hh hn1 hn h0
  · by_cases hk : (wd l (h - 1)).toNat < 1 ∨ n < (wd l (h - 1)).toNat
    · exact hread_bad h n G c l w hs hl hh hn1 hn h0 hk
    · rcases hh with rfl | rfl
      · have hk' : ¬ ((wd l 1).toNat < 1 ∨ n < (wd l 1).toNat) := hk
        exact hread_some2 n G c l w hs hl hc hn1 hn h0 (by omega) (by omega)
      · have hk' : ¬ ((wd l 2).toNat < 1 ∨ n < (wd l 2).toNat) := hk
        exact hread_some3 n G c l w hs hl hc hn1 hn h0 (by omega) (by omega)

end Go.Proofs.Ytfcgpjojjehkiaa
