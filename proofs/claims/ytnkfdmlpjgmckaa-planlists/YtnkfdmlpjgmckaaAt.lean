import Derived.Test.YtnkfdmlpjgmckaaAs
namespace Go.Proofs.Ytnkfdmlpjgmckaa
open Go.RowKit
set_option linter.unusedVariables false
set_option maxRecDepth 6000

theorem rspans_q {x : Cfg} {p : Int} {l : List Spn} {e0 : Int} (hv : SpV x p l e0) {w : World} {N : Nat} (hi : x.In w N) (hN : N ≤ w.heap.size) (ht : tot x.cs x.cs.length ≤ 2147483647) :
    Calls Try.prog 17 #[x.v, .int .i64 p] w fun e w' => ∃ a c, e = .returned (.tuple #[.slice a l.length c, .int .i64 e0]) ∧ OwnS w' (.slice a l.length c) l ∧ (∀ b, (Value.slice a l.length c).ownBlock = some b → w.heap.size ≤ b) ∧ Keeps (fun _ => False) w w' :=
  (rspans_any x p w N hi hN ht).mono fun _ _ h => ssp_q hv h
theorem spans_q {x : Cfg} {p : Int} {l : List Spn} {e0 : Int} (hv : SpV x p l e0) {w : World} {N : Nat} (hi : x.In w N) (hN : N ≤ w.heap.size) (ht : tot x.cs x.cs.length ≤ 2147483647) :
    Calls Try.prog 18 #[x.v, .int .i64 p] w fun e w' => ∃ a c, e = .returned (.tuple #[.slice a l.length c, .int .i64 e0]) ∧ OwnS w' (.slice a l.length c) l ∧ (∀ b, (Value.slice a l.length c).ownBlock = some b → w.heap.size ≤ b) ∧ Keeps (fun _ => False) w w' :=
  (spans_any x p w N hi hN ht).mono fun _ _ h => ssp_q hv h

set_option maxHeartbeats 4000000 in
theorem planLists_any (x : Cfg) (k p : Int) (w : World) (N : Nat) (hi : x.In w N) (hN : N ≤ w.heap.size) (hs : Small x) :
    Calls Try.prog 6 #[x.v, .int .i64 k, .int .i64 p] w fun e w' => e = .returned (.bool true) ∧ Keeps (fun _ => False) w w' := by
  obtain ⟨W, hW⟩ : ∃ W, W = x.laid w := ⟨_, rfl⟩
  obtain ⟨C, hC⟩ : ∃ C, C = w.heap.size := ⟨_, rfl⟩
  have HO : Hid (One w x C N W ∧ Small x) := by rw [hW, hC]; exact ⟨One.mk' hi hN, hs⟩
  clear hi hN hs
  unfold Cfg.laid at hW
  go_enter Try.func6, Try.ntmps6
  go_wp2_with fail
  rw [← hW, ← hC]
  clear hW hC
  refine (vast_any x W N HO.out.1.cin HO.out.1.nn).mono ?_
  rintro e w1 ⟨b, rfl, hK, hv⟩
  have HO1 : Hid (One w x C N w1) := HO.out.1.kept hK
  clear hK
  cases b with
  | true =>
    clear hv
    go_wp2
    go_ret
    exact ⟨rfl, HO1.out.keeps⟩
  | false =>
    have HT : Hid (tot x.cs x.cs.length ≤ 2147483647) := hv rfl HO.out.2
    clear hv HO
    obtain ⟨c0, c1, c2, c3, c4, c5, c6⟩ := HO1.out.cells
    obtain ⟨l, e0, hstv, hl16⟩ := stV_any x k
    have HV : Hid (StV x k l e0) := hstv
    obtain ⟨L, hL⟩ : ∃ L, l.length = L := ⟨_, rfl⟩
    have HL : Hid (l.length = L) := hL
    have HC := rstarts_q hstv HO1.out.cin HO1.out.nn
    rw [hL] at HC hl16
    have HC : Hid (Calls _ _ _ _ _) := HC
    clear hstv hL
    go_wp2_with fail
    refine HC.out.mono ?_
    rintro e w2 ⟨aw, cw, rfl, hsw, hcw, hK⟩
    have HO2 : Hid (One w x C N w2 ∧ SegA ivs 1 w2 aw l) := ⟨HO1.out.kept hK, hsw⟩
    have hcw' : (L : Int) ≤ cw ∧ (cw : Int) ≤ 9223372036854775807 := by unfold maxLen at hcw; omega
    have HW : Hid (L ≤ cw ∧ cw ≤ maxLen) := hcw
    clear hK hsw HC HO1 c0 c1 c2 c3 c4 c5 c6 hcw
    go_wp2
    go_loopw [9] (fun i wr => ∃ j : Nat, j ≤ 2 ∧ i = .int .i64 j ∧ One w x C N wr ∧ SegA ivs 1 wr aw l) (fun i _ => 2 - (intOf i).toNat)
    case atStart => exact ⟨0, by omega, rfl, HO2.out.1, HO2.out.2⟩
    case round =>
      obtain ⟨j, hj, rfl, hO, hSw⟩ := hrel
      clear HO2
      by_cases hlt : j < 2
      · have HK : Hid (One w x C N wr ∧ SegA ivs 1 wr aw l) := ⟨hO, hSw⟩
        have hlt' : (j : Int) < 2 := by omega
        have HC1 := starts_q HV.out hO.cin hO.nn
        rw [HL.out] at HC1
        have HC1 : Hid (Calls _ _ _ _ _) := HC1
        obtain ⟨c0, c1, c2, c3, c4, c5, c6⟩ := hO.cells
        clear hO hSw
        go_wp2_with fail
        refine HC1.out.mono ?_
        rintro e w3 ⟨a3, k3, rfl, hf3, ho3, hb3, hK⟩
        have H3 : Hid (One w x C N w3 ∧ SegA ivs 1 w3 aw l ∧ Fl a3 L k3 ∧ w3.ownsRow 0 3 1 (.slice a3 L k3) L (l.map (.int .i64)) ∧ (∀ b, (Value.slice a3 L k3).ownBlock = some b → wr.heap.size ≤ b) ∧ wr.heap.size ≤ w3.heap.size) := ⟨HK.out.1.kept hK, HK.out.2.kept hK (fun _ _ _ e => e), hf3, ho3, hb3, hK.size⟩
        clear hK hf3 ho3 hb3 HC1 c0 c1 c2 c3 c4 c5 c6
        have HC2 := starts_q HV.out H3.out.1.cin H3.out.1.nn
        rw [HL.out] at HC2
        have HC2 : Hid (Calls _ _ _ _ _) := HC2
        obtain ⟨c0, c1, c2, c3, c4, c5, c6⟩ := H3.out.1.cells
        go_wp2_with fail
        refine HC2.out.mono ?_
        rintro e w4 ⟨a4, k4, rfl, hf4, ho4, hb4, hK⟩
        have H4 : Hid (One w x C N w4 ∧ SegA ivs 1 w4 aw l ∧ w4.ownsRow 0 3 1 (.slice a3 L k3) L (l.map (.int .i64)) ∧ Fl a4 L k4 ∧ w4.ownsRow 0 3 1 (.slice a4 L k4) L (l.map (.int .i64)) ∧ (∀ b, (Value.slice a4 L k4).ownBlock = some b → w3.heap.size ≤ b) ∧ w3.heap.size ≤ w4.heap.size) := ⟨H3.out.1.kept hK, H3.out.2.1.kept hK (fun _ _ _ e => e), owns_kept H3.out.2.2.2.1 hK (fun _ _ e => e), hf4, ho4, hb4, hK.size⟩
        clear hK hf4 ho4 hb4 HC2 c0 c1 c2 c3 c4 c5 c6
        have hcc : ∀ (w' : World) (a : Option Addr) (c : Nat), w'.ownsRow 0 3 1 (.slice a L c) L (l.map (.int .i64)) → SegA ivs 1 w' a l ∧ (l.length ≤ c ∧ c ≤ maxLen) := by
          intro w' a c ho
          have hL := HL.out
          subst hL
          refine ⟨own_ints ho, ?_⟩
          obtain ⟨a', c', e', hc', _⟩ := owns_cell ho
          cases e'
          exact hc'
        have HCC : Hid (∀ (w' : World) (a : Option Addr) (c : Nat), w'.ownsRow 0 3 1 (.slice a L c) L (l.map (.int .i64)) → SegA ivs 1 w' a l ∧ (l.length ≤ c ∧ c ≤ maxLen)) := hcc
        clear hcc
        have HD1 := sameInts_eq a3 aw k3 cw l w4 (HCC.out _ _ _ H4.out.2.2.1).1 H4.out.2.1 (HCC.out _ _ _ H4.out.2.2.1).2 (by rw [HL.out]; exact HW.out)
        rw [HL.out] at HD1
        have HD1 : Hid (Calls _ _ _ _ _) := HD1
        go_wp2_with fail
        refine HD1.out.mono ?_
        rintro e w5 ⟨rfl, hK⟩
        have H5 : Hid (One w x C N w5 ∧ SegA ivs 1 w5 aw l ∧ w5.ownsRow 0 3 1 (.slice a3 L k3) L (l.map (.int .i64)) ∧ w5.ownsRow 0 3 1 (.slice a4 L k4) L (l.map (.int .i64)) ∧ w4.heap.size ≤ w5.heap.size) := ⟨H4.out.1.kept hK, H4.out.2.1.kept hK (fun _ _ _ e => e), owns_kept H4.out.2.2.1 hK (fun _ _ e => e), owns_kept H4.out.2.2.2.2.1 hK (fun _ _ e => e), hK.size⟩
        clear hK HD1
        have HD2 := sameInts_eq a4 aw k4 cw l w5 (HCC.out _ _ _ H5.out.2.2.2.1).1 H5.out.2.1 (HCC.out _ _ _ H5.out.2.2.2.1).2 (by rw [HL.out]; exact HW.out)
        rw [HL.out] at HD2
        have HD2 : Hid (Calls _ _ _ _ _) := HD2
        go_wp2_with fail
        refine HD2.out.mono ?_
        rintro e w6 ⟨rfl, hK⟩
        have H6 : Hid (One w x C N w6 ∧ SegA ivs 1 w6 aw l ∧ w6.ownsRow 0 3 1 (.slice a3 L k3) L (l.map (.int .i64)) ∧ w6.ownsRow 0 3 1 (.slice a4 L k4) L (l.map (.int .i64)) ∧ w5.heap.size ≤ w6.heap.size) := ⟨H5.out.1.kept hK, H5.out.2.1.kept hK (fun _ _ _ e => e), owns_kept H5.out.2.2.1 hK (fun _ _ e => e), owns_kept H5.out.2.2.2.1 hK (fun _ _ e => e), hK.size⟩
        clear hK HD2
        have HA : Hid (Calls Try.prog 16 #[Value.slice (some ⟨w6.heap.size, 0, none⟩) 2 2] (w6.alloc (.cells #[Value.slice a3 L k3, Value.slice a4 L k4] 35)) fun e w' => e = .returned (.bool true) ∧ Keeps (fun k => some k = (Value.slice a3 L k3).ownBlock ∨ some k = (Value.slice a4 L k4).ownBlock) (w6.alloc (.cells #[Value.slice a3 L k3, Value.slice a4 L k4] 35)) w') := by
          have hKa : Keeps (fun _ => False) w6 (w6.alloc (.cells #[Value.slice a3 L k3, Value.slice a4 L k4] 35)) := (Keeps.refl _ _).alloc _
          have hB := Blk.new w6 #[Value.slice a3 L k3, Value.slice a4 L k4] 35
          have hlm : (l.map (Value.int .i64)).length = L := by rw [List.length_map]; exact HL.out
          refine apartInts_any a3 a4 k3 k4 L w6.heap.size hl16 (l.map (.int .i64)) (l.map (.int .i64)) hlm hlm H3.out.2.2.1 H4.out.2.2.2.1 _ ?_
          have p1 : Objs w6 [] := ⟨fun i o h => by simp at h, fun i j a b k h => by simp at h⟩
          have q3 : ∀ b, (Value.slice a3 L k3).ownBlock = some b → b < w3.heap.size := fun b hb => ((H3.out.2.2.2.1).lt b hb).2
          have q4 : ∀ b, (Value.slice a4 L k4).ownBlock = some b → w3.heap.size ≤ b ∧ b < w6.heap.size := fun b hb => ⟨H4.out.2.2.2.2.2.1 b hb, ((H6.out.2.2.2.1).lt b hb).2⟩
          have hsz := H4.out.2.2.2.2.2.2
          have hsz2 := H5.out.2.2.2.2
          have hsz3 := H6.out.2.2.2.2
          refine ⟨fun i o ho => ?_, fun i j a b k ha hb hij hk => ?_⟩
          · match i, ho with
            | 0, ho => cases ho; dsimp only; rw [hlm]; exact owns_kept H6.out.2.2.1 hKa (fun _ _ e => e)
            | 1, ho => cases ho; dsimp only; rw [hlm]; exact owns_kept H6.out.2.2.2.1 hKa (fun _ _ e => e)
            | 2, ho => cases ho; exact ⟨rfl, .inr ⟨w6.heap.size, 2, _, rfl, Nat.zero_le _, hB, Nat.le_refl _, by unfold maxLen; omega, rfl, rfl⟩⟩
            | n + 3, ho => simp at ho
          · match i, j, ha, hb with
            | 0, 0, _, _ => exact (hij rfl).elim
            | 1, 1, _, _ => exact (hij rfl).elim
            | 2, 2, _, _ => exact (hij rfl).elim
            | 0, 1, ha, hb => cases ha; cases hb; intro e; have := q3 k hk; have := (q4 k e).1; omega
            | 1, 0, ha, hb => cases ha; cases hb; intro e; have := q3 k e; have := (q4 k hk).1; omega
            | 0, 2, ha, hb => cases ha; cases hb; intro e; have := q3 k hk; have e' : w6.heap.size = k := Option.some.inj e; omega
            | 2, 0, ha, hb => cases ha; cases hb; intro e; have := q3 k e; have e' : w6.heap.size = k := Option.some.inj hk; omega
            | 1, 2, ha, hb => cases ha; cases hb; intro e; have := (q4 k hk).2; have e' : w6.heap.size = k := Option.some.inj e; omega
            | 2, 1, ha, hb => cases ha; cases hb; intro e; have := (q4 k e).2; have e' : w6.heap.size = k := Option.some.inj hk; omega
            | n + 3, _, ha, _ => simp at ha
            | _, n + 3, _, hb => simp at hb
        go_wp2_with fail
        refine HA.out.mono ?_
        rintro e w7 ⟨rfl, hK⟩
        have HN : Hid (One w x C N w7 ∧ SegA ivs 1 w7 aw l) := by
          have hb3 := H3.out.2.2.2.2.1
          have hb4 := H4.out.2.2.2.2.2.1
          have hsz3 := H3.out.2.2.2.2.2
          have hC := HK.out.1.cfg.lt
          have hww := HK.out.1.keeps.size
          refine ⟨(H6.out.1.kept ((Keeps.refl _ _).alloc _)).up hK fun b e => ?_, (H6.out.2.1.kept ((Keeps.refl (fun _ => False) _).alloc _) (fun _ _ _ e => e)).kept hK fun hne y hy e => ?_⟩
          · rcases e with e | e
            · have := hb3 b e.symm; omega
            · have := hb4 b e.symm; omega
          · have hyl := segA_lt HK.out.2 (fun _ => by simp [ivs]) hne y hy
            rcases e with e | e
            · have := hb3 _ e.symm; omega
            · have := hb4 _ e.symm; omega
        clear hK HA HCC
        go_wp2
        go_roundw
        case rel => exact ⟨j + 1, by omega, by go_num, HN.out.1, HN.out.2⟩
        case measure => simp [intOf]; omega
      · obtain rfl : j = 2 := by omega
        have HO3 : Hid (One w x C N wr) := hO
        clear hO hSw HW HL HV
        obtain ⟨wy, hwy⟩ : ∃ wy, wy = wr := ⟨_, rfl⟩
        subst hwy
        obtain ⟨m, f0, hspv, hm31⟩ := spV_any x p HT.out
        have HV : Hid (SpV x p m f0) := hspv
        obtain ⟨M, hM⟩ : ∃ M, m.length = M := ⟨_, rfl⟩
        have HL : Hid (m.length = M) := hM
        have HC := rspans_q hspv HO3.out.cin HO3.out.nn HT.out
        rw [hM] at HC hm31
        have HC : Hid (Calls _ _ _ _ _) := HC
        obtain ⟨c0, c1, c2, c3, c4, c5, c6⟩ := HO3.out.cells
        clear hspv hM
        go_wp2_with fail
        refine HC.out.mono ?_
        rintro e w8 ⟨az, cz, rfl, hos, _, hK⟩
        have hsg : ∀ (w' : World) (a : Option Addr) (c : Nat), OwnS w' (.slice a M c) m → SegA Spn.vs 4 w' a m ∧ (m.length ≤ c ∧ c ≤ maxLen) := by
          intro w' a c ho
          obtain ⟨a', c', e', hc', hs', _⟩ := ownS_seg ho
          rw [HL.out] at e'
          cases e'
          exact ⟨hs', hc'⟩
        have HSG : Hid (∀ (w' : World) (a : Option Addr) (c : Nat), OwnS w' (.slice a M c) m → SegA Spn.vs 4 w' a m ∧ (m.length ≤ c ∧ c ≤ maxLen)) := hsg
        have HW : Hid (m.length ≤ cz ∧ cz ≤ maxLen) := (hsg _ _ _ hos).2
        have HO8 : Hid (One w x C N w8 ∧ SegA Spn.vs 4 w8 az m) := ⟨HO3.out.kept hK, (hsg _ _ _ hos).1⟩
        have hcs : (M : Int) ≤ cz ∧ (cz : Int) ≤ 9223372036854775807 := by have h := (hsg _ _ _ hos).2; unfold maxLen at h; have := HL.out; omega
        clear hK hos hsg HC HO3 c0 c1 c2 c3 c4 c5 c6
        go_wp2
        go_loopw [15] (fun i wr => ∃ j : Nat, j ≤ 2 ∧ i = .int .i64 j ∧ One w x C N wr ∧ SegA Spn.vs 4 wr az m) (fun i _ => 2 - (intOf i).toNat)
        case atStart => exact ⟨0, by omega, rfl, HO8.out.1, HO8.out.2⟩
        case round =>
          obtain ⟨j, hj, rfl, hO, hSw⟩ := hrel
          clear HO8
          by_cases hlt : j < 2
          · have HK : Hid (One w x C N wr ∧ SegA Spn.vs 4 wr az m) := ⟨hO, hSw⟩
            have hlt' : (j : Int) < 2 := by omega
            have HC1 := spans_q HV.out hO.cin hO.nn HT.out
            rw [HL.out] at HC1
            have HC1 : Hid (Calls _ _ _ _ _) := HC1
            obtain ⟨c0, c1, c2, c3, c4, c5, c6⟩ := hO.cells
            clear hO hSw
            go_wp2_with fail
            refine HC1.out.mono ?_
            rintro e w3 ⟨a3, k3, rfl, ho3, hb3, hK⟩
            have H3 : Hid (One w x C N w3 ∧ SegA Spn.vs 4 w3 az m ∧ OwnS w3 (.slice a3 M k3) m ∧ (∀ b, (Value.slice a3 M k3).ownBlock = some b → wr.heap.size ≤ b) ∧ wr.heap.size ≤ w3.heap.size) := ⟨HK.out.1.kept hK, HK.out.2.kept hK (fun _ _ _ e => e), ho3, hb3, hK.size⟩
            clear hK ho3 hb3 HC1 c0 c1 c2 c3 c4 c5 c6
            have HC2 := spans_q HV.out H3.out.1.cin H3.out.1.nn HT.out
            rw [HL.out] at HC2
            have HC2 : Hid (Calls _ _ _ _ _) := HC2
            obtain ⟨c0, c1, c2, c3, c4, c5, c6⟩ := H3.out.1.cells
            go_wp2_with fail
            refine HC2.out.mono ?_
            rintro e w4 ⟨a4, k4, rfl, ho4, hb4, hK⟩
            have H4 : Hid (One w x C N w4 ∧ SegA Spn.vs 4 w4 az m ∧ OwnS w4 (.slice a3 M k3) m ∧ OwnS w4 (.slice a4 M k4) m ∧ (∀ b, (Value.slice a4 M k4).ownBlock = some b → w3.heap.size ≤ b) ∧ w3.heap.size ≤ w4.heap.size) := ⟨H3.out.1.kept hK, H3.out.2.1.kept hK (fun _ _ _ e => e), owns_kept H3.out.2.2.1 hK (fun _ _ e => e), ho4, hb4, hK.size⟩
            clear hK ho4 hb4 HC2 c0 c1 c2 c3 c4 c5 c6
            have HD1 := sameSpans_eq a3 az k3 cz m w4 (HSG.out _ _ _ H4.out.2.2.1).1 H4.out.2.1 (HSG.out _ _ _ H4.out.2.2.1).2 HW.out
            rw [HL.out] at HD1
            have HD1 : Hid (Calls _ _ _ _ _) := HD1
            go_wp2_with fail
            refine HD1.out.mono ?_
            rintro e w5 ⟨rfl, hK⟩
            have H5 : Hid (One w x C N w5 ∧ SegA Spn.vs 4 w5 az m ∧ OwnS w5 (.slice a3 M k3) m ∧ OwnS w5 (.slice a4 M k4) m) := ⟨H4.out.1.kept hK, H4.out.2.1.kept hK (fun _ _ _ e => e), owns_kept H4.out.2.2.1 hK (fun _ _ e => e), owns_kept H4.out.2.2.2.1 hK (fun _ _ e => e)⟩
            clear hK HD1
            have HD2 := sameSpans_eq a4 az k4 cz m w5 (HSG.out _ _ _ H5.out.2.2.2).1 H5.out.2.1 (HSG.out _ _ _ H5.out.2.2.2).2 HW.out
            rw [HL.out] at HD2
            have HD2 : Hid (Calls _ _ _ _ _) := HD2
            go_wp2_with fail
            refine HD2.out.mono ?_
            rintro e w6 ⟨rfl, hK⟩
            have H6 : Hid (One w x C N w6 ∧ SegA Spn.vs 4 w6 az m ∧ OwnS w6 (.slice a3 M k3) m ∧ OwnS w6 (.slice a4 M k4) m) := ⟨H5.out.1.kept hK, H5.out.2.1.kept hK (fun _ _ _ e => e), owns_kept H5.out.2.2.1 hK (fun _ _ e => e), owns_kept H5.out.2.2.2 hK (fun _ _ e => e)⟩
            clear hK HD2
            have HA : Hid (Calls Try.prog 20 #[Value.slice a3 M k3, Value.slice a4 M k4] w6 fun e w' => e = .returned (.bool true) ∧ Keeps (fun k => some k = (Value.slice a3 M k3).ownBlock ∨ some k = (Value.slice a4 M k4).ownBlock) w6 w') :=
              apartS_any a3 a4 k3 k4 M M m m HL.out HL.out hm31 hm31 w6 H6.out.2.2.1 H6.out.2.2.2 (fun b hb e => by
                have h1 := (World.ownsRow.lt H3.out.2.2.1 b hb).2
                have h2 := H4.out.2.2.2.2.1 b e
                omega)
            go_wp2_with fail
            refine HA.out.mono ?_
            rintro e w7 ⟨rfl, hK⟩
            have HN : Hid (One w x C N w7 ∧ SegA Spn.vs 4 w7 az m) := by
              have hb3 := H3.out.2.2.2.1
              have hb4 := H4.out.2.2.2.2.1
              have hsz3 := H3.out.2.2.2.2
              have hC := HK.out.1.cfg.lt
              have hww := HK.out.1.keeps.size
              refine ⟨H6.out.1.up hK fun b e => ?_, H6.out.2.1.kept hK fun hne y hy e => ?_⟩
              · rcases e with e | e
                · have := hb3 b e.symm; omega
                · have := hb4 b e.symm; omega
              · have hyl := segA_lt HK.out.2 (fun _ => by simp) hne y hy
                rcases e with e | e
                · have := hb3 _ e.symm; omega
                · have := hb4 _ e.symm; omega
            clear hK HA
            go_wp2
            go_roundw
            case rel => exact ⟨j + 1, by omega, by go_num, HN.out.1, HN.out.2⟩
            case measure => simp [intOf]; omega
          · obtain rfl : j = 2 := by omega
            have HO9 : Hid (One w x C N wr) := hO
            clear hO hSw
            obtain ⟨c0, c1, c2, c3, c4, c5, c6⟩ := HO9.out.cells
            go_wp2_with fail
            refine (core_any x p wr N HO9.out.cin HO9.out.nn).mono ?_
            rintro e w3 ⟨r, er, rfl, hR, hK⟩
            have HOa : Hid (One w x C N w3 ∧ CoR x p r er) := ⟨HO9.out.kept hK, hR⟩
            clear hK hR c0 c1 c2 c3 c4 c5 c6
            obtain ⟨c0, c1, c2, c3, c4, c5, c6⟩ := HOa.out.1.cells
            go_wp2_with fail
            refine (rcore_any x p w3 N HOa.out.1.cin HOa.out.1.nn).mono ?_
            rintro e w4 ⟨r', er', rfl, hR, hK⟩
            obtain ⟨rfl, rfl⟩ := HOa.out.2.unique hR
            have HOb : Hid (One w x C N w4) := HOa.out.1.kept hK
            clear hK hR c0 c1 c2 c3 c4 c5 c6
            go_wp2_with fail
            refine (awake_any w4).mono ?_
            rintro e w5 ⟨rfl, hK⟩
            have HOc : Hid (Keeps (fun _ => False) w w5) := HOb.out.keeps.trans hK fun _ _ h => h
            clear hK
            go_wp2
            go_ret
            exact ⟨rfl, HOc.out⟩
end Go.Proofs.Ytnkfdmlpjgmckaa
