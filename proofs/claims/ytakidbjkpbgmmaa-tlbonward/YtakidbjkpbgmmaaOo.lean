import Derived.Test.YtakidbjkpbgmmaaOn
namespace Go.Proofs.Ytakidbjkpbgmmaa
open Go.RowKit Go.Shelf
set_option linter.unusedVariables false

set_option maxRecDepth 20000 in
set_option maxHeartbeats 8000000 in
theorem tlbOnward_any (ad : Option Addr) (os : List OpV) (c : Nat) (bd : Option Addr) (bs : List OpV) (cb : Nat) (w : World) (hl : os.length ≤ c ∧ c ≤ maxLen) (hs : SegO w ad os) (hf : ∀ o ∈ os, o.Fine) (hb : ∀ o ∈ os, o.ls.length ≤ 5864062014634)
    (hl' : bs.length ≤ cb ∧ cb ≤ maxLen) (hs' : SegO w bd bs) (hf' : ∀ o ∈ bs, o.Fine) (hb' : ∀ o ∈ bs, o.ls.length ≤ 5864062014634) :
    Calls Try.prog 5 #[.slice ad os.length c, .slice bd bs.length cb] w fun r w' => r = .returned (.bool true) ∧ Keeps (fun _ => False) w w' := by
  obtain ⟨n, hn⟩ : ∃ n, n = os.length := ⟨_, rfl⟩
  obtain ⟨m, hm⟩ : ∃ m, m = bs.length := ⟨_, rfl⟩
  have HS : Hid (SegO w ad os ∧ n = os.length ∧ (∀ o ∈ os, o.Fine) ∧ ∀ o ∈ os, o.ls.length ≤ 5864062014634) := ⟨hs, hn, hf, hb⟩
  have HB : Hid (SegO w bd bs ∧ m = bs.length ∧ (∀ o ∈ bs, o.Fine) ∧ ∀ o ∈ bs, o.ls.length ≤ 5864062014634) := ⟨hs', hm, hf', hb'⟩
  have hc2 : (n : Int) ≤ c := by omega
  have hc3 : (c : Int) ≤ 9223372036854775807 := by unfold maxLen at hl; omega
  have hc4 : (m : Int) ≤ cb := by omega
  have hc5 : (cb : Int) ≤ 9223372036854775807 := by unfold maxLen at hl'; omega
  rw [← hn, ← hm]
  clear hl hs hn hf hb hl' hs' hm hf' hb'
  go_enter Try.func5, Try.ntmps5
  go_wp2_with fail
  refine (two_any w).mono ?_
  rintro r w1 ⟨a, b, Fa, Fb, rfl, hTa, hTb, hab, hFa, hFb, hK1⟩
  obtain ⟨X1, hX1⟩ : ∃ X1, X1 = w1.alloc (.cells #[.slice none 0 0] 28) := ⟨_, rfl⟩
  have hKa : Keeps (fun _ => False) w1 X1 := by rw [hX1]; exact (Keeps.refl _ w1).alloc _
  have hT : Th w X1 a b w1.heap.size [] [] [] := by
    have hr1 : Rf X1 w1.heap.size [] (fun b => b = w1.heap.size) := by rw [hX1]; exact rf_new w1
    have hz := hK1.size
    exact ⟨hK1.trans hKa fun _ _ h => h, Fa, Fb, _, hTa.kept hKa fun _ _ h => h, hTb.kept hKa fun _ _ h => h, hr1, hab, fun z hz he => by have := hTa.lt z hz; omega, fun z hz he => by have := hTb.lt z hz; omega, hFa, hFb, fun z hz => by omega⟩
  have HT : Hid (Th w X1 a b w1.heap.size [] [] []) := hT
  have HX : Hid (X1 = w1.alloc (.cells #[.slice none 0 0] 28)) := hX1
  clear hTa hTb hab hFa hFb hK1 hX1 hKa hT
  go_wp2
  rw [← HX.out]
  obtain ⟨d, hd⟩ : ∃ d, d = w1.heap.size := ⟨_, rfl⟩
  rw [← hd] at HT
  rw [← hd]
  clear hd HX
  go_loopw [9] (fun i wr => ∃ (j : Nat) (la lb L : List Lf), j ≤ n ∧ i = .int .i64 j ∧ Th w wr a b d la lb L ∧ Good la) (fun i _ => n - (intOf i).toNat)
  case atStart => exact ⟨0, [], [], [], by omega, rfl, HT.out, fun l hl => by cases hl⟩
  case round =>
    clear HT
    obtain ⟨j, la, lb, L, hj, rfl, hT, hgood⟩ := hrel
    by_cases hlt : j < n
    · obtain ⟨o, ho⟩ : ∃ o, os[j]? = some o := ⟨_, List.getElem?_eq_getElem (by have := HS.out.2.1; omega)⟩
      obtain ⟨g, q, rfl, hO⟩ : ∃ g q, ad = some ⟨g, q, none⟩ ∧ OpAt w g (q + j * 6) o := by
        rcases HS.out.1 with h | ⟨g, q, ha, h⟩
        · rw [h] at ho; simp at ho
        · exact ⟨g, q, ha, h j o ho⟩
      obtain ⟨⟨o0, o1, o2, o3, o4, o5⟩, -⟩ := hO.kept hT.keeps
      have hlt' : (j : Int) < n := by omega
      have hm := List.mem_of_getElem? ho
      have HC : Hid (Calls _ _ _ _ _) := th_step hT o (HS.out.2.2.1 o hm).2.1.1 (HS.out.2.2.1 o hm).2.2.1 (HS.out.2.2.2 o hm) hO.2
      have HO : Hid (OpAt w g (q + j * 6) o ∧ Good la) := ⟨hO, hgood⟩
      clear hT hO ho hm hgood
      go_wp2_with fail
      refine HC.out.mono ?_
      rintro r w2 ⟨⟨b', rfl⟩, hT2⟩
      have HT2 : Hid (Th w w2 a b d (stepS o la) lb (stepS o L)) := hT2
      clear o0 o1 o2 o3 o4 o5 HC
      obtain ⟨⟨o0, o1, o2, o3, o4, o5⟩, -⟩ := HO.out.1.kept hT2.keeps
      clear hT2
      have HC2 : Hid (Calls Try.prog 8 #[ptr b, ptr d, .agg #[.int .i64 0, .int .i64 (bits BinOp.and .i64 o.l.p 1), .int .i64 (j : Int), .int .i64 (j : Int), .int .i64 (bits BinOp.and .i64 (j : Int) 7), .slice none 0 0]] w2 _) :=
        th_step HT2.out.swap ⟨0, bits BinOp.and .i64 o.l.p 1, ⟨j, j, bits BinOp.and .i64 (j : Int) 7⟩, none, [], 0⟩ ⟨by show -9223372036854775808 ≤ (j : Int); omega, by show (j : Int) ≤ 9223372036854775807; omega⟩ ⟨Nat.le_refl _, Nat.zero_le _⟩ (Nat.zero_le _) (.inl rfl)
      go_wp2_with fail
      refine HC2.out.mono ?_
      rintro r w3 ⟨⟨b'', rfl⟩, hT3⟩
      have HT3 : Hid (∃ lb' L', Th w w3 a b d (stepS o la) lb' L') := ⟨_, _, hT3.swap⟩
      clear o0 o1 o2 o3 o4 o5 HC2 hT3
      go_wp2
      go_roundw
      case rel =>
        obtain ⟨lb', L', h⟩ := HT3.out
        exact ⟨j + 1, stepS o la, lb', L', by omega, by go_num, h, good_step HO.out.2⟩
      case measure => simp [intOf]; omega
    · obtain rfl : j = n := by omega
      have HTw0 : Hid (Tw w wr a b la lb (fun _ => False) ∧ heldB la = true) := ⟨hT.tw, held_good hgood hT.tw.facts.1 hT.tw.facts.2⟩
      clear hT hgood hlt
      have HL : Hid (Calls _ _ _ _ _) := tw_told HTw0.out.1
      go_wp2_with fail
      refine HL.out.mono ?_
      rintro r w2 ⟨g2, c2, rfl, hg2, hc2', hs2, hk2⟩
      have HR : Hid (Calls _ _ _ _ _) := tw_restore HTw0.out.1.swap hk2 hg2 hc2' hs2
      rw [HTw0.out.2] at HR
      simp only [if_true] at HR
      clear hg2 hc2' hs2 hk2 HL
      go_wp2_with fail
      refine HR.out.mono ?_
      rintro r w3 ⟨rfl, hTT, -⟩
      have HT3 : Hid (Tw w w3 a b la la (fun _ => False)) := hTT.swap
      clear hTT HR HTw0
      go_wp2
      go_loopw [10] (fun i wr => ∃ (k : Nat) (lc : List Lf), k ≤ m ∧ i = .int .i64 k ∧ Tw w wr a b lc lc (fun _ => False)) (fun i _ => m - (intOf i).toNat)
      case atStart => exact ⟨0, la, by omega, rfl, HT3.out⟩
      case round =>
        clear HT3
        obtain ⟨wz, hz⟩ : ∃ wz, wz = wr := ⟨_, rfl⟩
        subst hz
        obtain ⟨k, lc, hk, rfl, hT⟩ := hrel
        by_cases hlt : k < m
        · obtain ⟨o, ho⟩ : ∃ o, bs[k]? = some o := ⟨_, List.getElem?_eq_getElem (by have := HB.out.2.1; omega)⟩
          obtain ⟨g, q, rfl, hO⟩ : ∃ g q, bd = some ⟨g, q, none⟩ ∧ OpAt w g (q + k * 6) o := by
            rcases HB.out.1 with h | ⟨g, q, ha, h⟩
            · rw [h] at ho; simp at ho
            · exact ⟨g, q, ha, h k o ho⟩
          obtain ⟨⟨o0, o1, o2, o3, o4, o5⟩, -⟩ := hO.kept hT.keeps
          have hlt' : (k : Int) < m := by omega
          have hm := List.mem_of_getElem? ho
          obtain ⟨which, kind, l, oad, xs, cap⟩ := o
          dsimp only at o0 o1 o2 o3 o4 o5
          obtain ⟨W, hW⟩ : ∃ W, W = wz.alloc (.cells #[.int .i64 which, .int .i64 kind, .int .i64 l.p, .int .i64 l.f, .int .i64 l.r, .slice oad xs.length cap] 30) := ⟨_, rfl⟩
          have hKW : Keeps (fun _ => False) wz W := by rw [hW]; exact (Keeps.refl _ wz).alloc _
          have hBW : Blk W wz.heap.size (oC which kind l oad xs.length cap) 30 := by rw [hW]; exact Blk.new wz _ 30
          have HW : Hid (W = wz.alloc (.cells #[.int .i64 which, .int .i64 kind, .int .i64 l.p, .int .i64 l.f, .int .i64 l.r, .slice oad xs.length cap] 30) ∧ Tw w W a b lc lc (fun z => z = wz.heap.size) ∧ Blk W wz.heap.size (oC which kind l oad xs.length cap) 30) := ⟨hW, hT.grow hKW fun z hz => .inr ⟨by omega, by have := hBW.lt; omega⟩, hBW⟩
          have HO : Hid (SegL w oad xs ∧ I64 l.p ∧ (xs.length ≤ cap ∧ cap ≤ maxLen) ∧ xs.length ≤ 5864062014634) := ⟨hO.2, (HB.out.2.2.1 _ hm).2.1.1, (HB.out.2.2.1 _ hm).2.2.1, HB.out.2.2.2 _ hm⟩
          have hgz : g < wz.heap.size := World.block_lt_of_cell? wz _ o0
          clear hT hO ho hm hW hKW hBW
          obtain ⟨N, hN⟩ : ∃ N, N = xs.length := ⟨_, rfl⟩
          rw [← hN] at HW o5
          have HNN : Hid (N = xs.length) := hN
          clear hN
          by_cases e0 : kind = 0
          · subst e0
            have HC : Hid (Calls _ _ _ _ _) := tw_find HW.out.2.1 l.p HO.out.2.1
            obtain ⟨x0, hx0⟩ : ∃ x0, x0 = (findT l.p lc).getD Lf.none := ⟨_, rfl⟩
            obtain ⟨ok, hok⟩ : ∃ ok, ok = (findT l.p lc).isSome := ⟨_, rfl⟩
            rw [← hx0, ← hok] at HC
            obtain ⟨lc', hlc'⟩ : ∃ lc', lc' = touchT l.p lc := ⟨_, rfl⟩
            rw [← hlc'] at HC
            have HX0 : Hid (x0 = (findT l.p lc).getD Lf.none ∧ ok = (findT l.p lc).isSome ∧ lc' = touchT l.p lc) := ⟨hx0, hok, hlc'⟩
            clear hx0 hok hlc'
            go_wp2_with fail
            rw [← HW.out.1]
            refine HC.out.mono ?_
            rintro r w2 ⟨rfl, hT2, hS2⟩
            have hBo := HW.out.2.2.same hS2 rfl
            obtain ⟨X, hX⟩ : ∃ X, X = w2.alloc (.cells #[.int .i64 x0.p, .int .i64 x0.f, .int .i64 x0.r] 38) := ⟨_, rfl⟩
            have hKX : Keeps (fun _ => False) w2 X := by rw [hX]; exact (Keeps.refl _ w2).alloc _
            have hBx : Blk X w2.heap.size x0.vs 38 := by rw [hX]; exact Blk.new w2 _ 38
            have hTX : Tw w X a b lc' lc (fun z => z = w2.heap.size) := hT2.grow hKX fun z hz => .inr ⟨by omega, by have := hBx.lt; omega⟩
            have HC2 : Hid (Calls _ _ _ _ _) := tw_find hTX.swap l.p HO.out.2.1
            rw [← HX0.out.1, ← HX0.out.2.1, ← HX0.out.2.2] at HC2
            have H2 : Hid (Blk X w2.heap.size x0.vs 38 ∧ X = w2.alloc (.cells #[.int .i64 x0.p, .int .i64 x0.f, .int .i64 x0.r] 38)) := ⟨hBx, hX⟩
            have p0 := hBo.cell (i := 2) rfl
            have hlt2 := hBo.lt
            clear hT2 hS2 hBo hX hKX hBx hTX HC o0 o1 o2 o3 o4 o5 hgz
            go_wp2_with fail
            rw [← H2.out.2]
            refine HC2.out.mono ?_
            rintro r w3 ⟨rfl, hT3, hS3⟩
            have hBx3 := H2.out.1.same hS3 rfl
            have x0c := hBx3.cell (i := 0) rfl
            have x1c := hBx3.cell (i := 1) rfl
            have x2c := hBx3.cell (i := 2) rfl
            have hltx := hBx3.lt
            obtain ⟨Y, hY⟩ : ∃ Y, Y = w3.alloc (.cells #[.int .i64 x0.p, .int .i64 x0.f, .int .i64 x0.r] 38) := ⟨_, rfl⟩
            have HY : Hid (Y = _) := hY
            have hKY : Keeps (fun _ => False) w3 Y := by rw [hY]; exact (Keeps.refl _ w3).alloc _
            have hTT := (hT3.swap.keep hKY).none
            clear hT3 hS3 hBx3 hY hKY HC2 p0 hlt2
            have HTw : Hid (Tw w Y a b lc' lc' (fun _ => False)) := hTT
            clear hTT
            have HL1 : Hid (Calls _ _ _ _ _) := tw_told HTw.out
            go_wp2_with fail
            rw [← HY.out]
            refine HL1.out.mono ?_
            rintro r wl1 ⟨g1, c1, rfl, hg1, hc1, hs1, hk1⟩
            have hTT1 := HTw.out.keep hk1
            have HL2 : Hid (Calls _ _ _ _ _) := tw_told hTT1.swap
            have HS1 : Hid ((lc'.length ≤ c1 ∧ c1 ≤ maxLen) ∧ SegL wl1 (some ⟨g1, 0, none⟩) lc' ∧ Tw w wl1 a b lc' lc' (fun _ => False)) := ⟨hc1, hs1, hTT1⟩
            clear hg1 hc1 hs1 hk1 hTT1 HL1
            go_wp2_with fail
            refine HL2.out.mono ?_
            rintro r wl2 ⟨g2, c2, rfl, hg2, hc2', hs2, hk2⟩
            have HSM : Hid (Calls _ _ _ _ _) := same_any (some ⟨g1, 0, none⟩) (some ⟨g2, 0, none⟩) lc' lc' c1 c2 wl2 HS1.out.1 hc2' (HS1.out.2.1.kept hk2 fun _ _ h => h) hs2
            rw [decide_eq_true rfl] at HSM
            have HTL : Hid (Tw w wl2 a b lc' lc' (fun _ => False)) := HS1.out.2.2.keep hk2
            clear hg2 hc2' hs2 hk2 HL2
            go_wp2_with fail
            refine HSM.out.mono ?_
            rintro r wl3 ⟨rfl, hk3⟩
            have HTE : Hid (Tw w wl3 a b lc' lc' (fun _ => False)) := HTL.out.keep hk3
            clear hk3 HSM
            go_wp2
            go_roundw
            case rel => exact ⟨k + 1, lc', by omega, by go_num, HTE.out⟩
            case measure => simp [intOf]; omega
          by_cases e1 : kind = 1
          · subst e1
            obtain ⟨Y, hY⟩ : ∃ Y, Y = (wz.alloc (.cells #[.int .i64 which, .int .i64 1, .int .i64 l.p, .int .i64 l.f, .int .i64 l.r, .slice oad N cap] 30)).alloc (.cells #[.int .i64 l.p, .int .i64 l.f, .int .i64 l.r] 38) := ⟨_, rfl⟩
            have hzW : W.heap.size = wz.heap.size + 1 := by rw [HW.out.1]; simp
            have hYW : Y = W.alloc (.cells #[.int .i64 l.p, .int .i64 l.f, .int .i64 l.r] 38) := by rw [hY, ← HW.out.1]
            have hKY : Keeps (fun _ => False) W Y := by rw [hYW]; exact (Keeps.refl _ W).alloc _
            have hBY : Blk Y (wz.heap.size + 1) l.vs 38 := by rw [← hzW, hYW]; exact Blk.new W _ 38
            have hTY : Tw w Y a b lc lc (fun z => z = wz.heap.size + 1) := HW.out.2.1.grow hKY fun z hz => .inr ⟨by omega, by have := hBY.lt; omega⟩
            have HC : Hid (Calls _ _ _ _ _) := tw_put hTY l
            obtain ⟨e, he⟩ : ∃ e : Int, e = if mayB l then 0 else 80 := ⟨_, rfl⟩
            obtain ⟨lc', hlc'⟩ : ∃ lc', lc' = if mayB l then putT l lc else lc := ⟨_, rfl⟩
            rw [← he, ← hlc'] at HC
            have HE : Hid (e = (if mayB l then 0 else 80) ∧ lc' = if mayB l then putT l lc else lc) := ⟨he, hlc'⟩
            have H1 : Hid (Y = _ ∧ Blk Y (wz.heap.size + 1) l.vs 38) := ⟨hY, hBY⟩
            clear hY hzW hYW hKY hBY hTY he hlc'
            go_wp2_with fail
            rw [← H1.out.1]
            refine HC.out.mono ?_
            rintro r w2 ⟨rfl, hT2, hS2⟩
            have hB2 := H1.out.2.same hS2 rfl
            have HC2 : Hid (Calls _ _ _ _ _) := tw_put hT2.swap l
            rw [← HE.out.1, ← HE.out.2] at HC2
            have v0 := hB2.cell (i := 0) rfl
            have v1 := hB2.cell (i := 1) rfl
            have v2 := hB2.cell (i := 2) rfl
            clear hT2 hS2 hB2 HC o0 o1 o2 o3 o4 o5 hgz
            go_wp2_with fail
            refine HC2.out.mono ?_
            rintro r w3 ⟨rfl, hT3, -⟩
            have hTT := hT3.swap.none
            clear hT3 HC2 v0 v1 v2
            have HTw : Hid (Tw w w3 a b lc' lc' (fun _ => False)) := hTT
            clear hTT
            have HL1 : Hid (Calls _ _ _ _ _) := tw_told HTw.out
            go_wp2_with fail
            refine HL1.out.mono ?_
            rintro r wl1 ⟨g1, c1, rfl, hg1, hc1, hs1, hk1⟩
            have hTT1 := HTw.out.keep hk1
            have HL2 : Hid (Calls _ _ _ _ _) := tw_told hTT1.swap
            have HS1 : Hid ((lc'.length ≤ c1 ∧ c1 ≤ maxLen) ∧ SegL wl1 (some ⟨g1, 0, none⟩) lc' ∧ Tw w wl1 a b lc' lc' (fun _ => False)) := ⟨hc1, hs1, hTT1⟩
            clear hg1 hc1 hs1 hk1 hTT1 HL1
            go_wp2_with fail
            refine HL2.out.mono ?_
            rintro r wl2 ⟨g2, c2, rfl, hg2, hc2', hs2, hk2⟩
            have HSM : Hid (Calls _ _ _ _ _) := same_any (some ⟨g1, 0, none⟩) (some ⟨g2, 0, none⟩) lc' lc' c1 c2 wl2 HS1.out.1 hc2' (HS1.out.2.1.kept hk2 fun _ _ h => h) hs2
            rw [decide_eq_true rfl] at HSM
            have HTL : Hid (Tw w wl2 a b lc' lc' (fun _ => False)) := HS1.out.2.2.keep hk2
            clear hg2 hc2' hs2 hk2 HL2
            go_wp2_with fail
            refine HSM.out.mono ?_
            rintro r wl3 ⟨rfl, hk3⟩
            have HTE : Hid (Tw w wl3 a b lc' lc' (fun _ => False)) := HTL.out.keep hk3
            clear hk3 HSM
            go_wp2
            go_roundw
            case rel => exact ⟨k + 1, lc', by omega, by go_num, HTE.out⟩
            case measure => simp [intOf]; omega
          by_cases e2 : kind = 2
          · subst e2
            obtain ⟨lc', hlc'⟩ : ∃ lc' : List Lf, lc' = [] := ⟨_, rfl⟩
            have HC : Hid (Calls _ _ _ _ _) := tw_flush HW.out.2.1
            rw [← hlc'] at HC
            have HLC : Hid (lc' = []) := hlc'
            clear hlc'
            go_wp2_with fail
            rw [← HW.out.1]
            refine HC.out.mono ?_
            rintro r w2 ⟨rfl, hT2, -⟩
            have HC2 : Hid (Calls _ _ _ _ _) := tw_flush hT2.swap
            rw [← HLC.out] at HC2
            clear hT2 HC o0 o1 o2 o3 o4 o5 hgz
            go_wp2_with fail
            refine HC2.out.mono ?_
            rintro r w3 ⟨rfl, hT3, -⟩
            have hTT := hT3.swap.none
            clear hT3 HC2
            have HTw : Hid (Tw w w3 a b lc' lc' (fun _ => False)) := hTT
            clear hTT
            have HL1 : Hid (Calls _ _ _ _ _) := tw_told HTw.out
            go_wp2_with fail
            refine HL1.out.mono ?_
            rintro r wl1 ⟨g1, c1, rfl, hg1, hc1, hs1, hk1⟩
            have hTT1 := HTw.out.keep hk1
            have HL2 : Hid (Calls _ _ _ _ _) := tw_told hTT1.swap
            have HS1 : Hid ((lc'.length ≤ c1 ∧ c1 ≤ maxLen) ∧ SegL wl1 (some ⟨g1, 0, none⟩) lc' ∧ Tw w wl1 a b lc' lc' (fun _ => False)) := ⟨hc1, hs1, hTT1⟩
            clear hg1 hc1 hs1 hk1 hTT1 HL1
            go_wp2_with fail
            refine HL2.out.mono ?_
            rintro r wl2 ⟨g2, c2, rfl, hg2, hc2', hs2, hk2⟩
            have HSM : Hid (Calls _ _ _ _ _) := same_any (some ⟨g1, 0, none⟩) (some ⟨g2, 0, none⟩) lc' lc' c1 c2 wl2 HS1.out.1 hc2' (HS1.out.2.1.kept hk2 fun _ _ h => h) hs2
            rw [decide_eq_true rfl] at HSM
            have HTL : Hid (Tw w wl2 a b lc' lc' (fun _ => False)) := HS1.out.2.2.keep hk2
            clear hg2 hc2' hs2 hk2 HL2
            go_wp2_with fail
            refine HSM.out.mono ?_
            rintro r wl3 ⟨rfl, hk3⟩
            have HTE : Hid (Tw w wl3 a b lc' lc' (fun _ => False)) := HTL.out.keep hk3
            clear hk3 HSM
            go_wp2
            go_roundw
            case rel => exact ⟨k + 1, lc', by omega, by go_num, HTE.out⟩
            case measure => simp [intOf]; omega
          by_cases e4 : kind = 4
          · subst e4
            have HC : Hid (Calls _ _ _ _ _) := copied_any oad xs cap W HO.out.2.2.1 (by have := HO.out.2.2.2; omega) (HO.out.1.kept HW.out.2.1.keeps fun _ _ h => h)
            rw [← HNN.out] at HC
            obtain ⟨e, he⟩ : ∃ e : Int, e = if heldB xs then 0 else 81 := ⟨_, rfl⟩
            obtain ⟨lc', hlc'⟩ : ∃ lc', lc' = if heldB xs then xs else lc := ⟨_, rfl⟩
            have HE : Hid (e = (if heldB xs then 0 else 81) ∧ lc' = if heldB xs then xs else lc) := ⟨he, hlc'⟩
            clear he hlc'
            go_wp2_with fail
            rw [← HW.out.1]
            refine HC.out.mono ?_
            rintro r w2 ⟨g2, rfl, hB2, hg2, hK2⟩
            have HR : Hid (Calls _ _ _ _ _) := tw_restore HW.out.2.1 hK2 hg2 (c := N) ⟨by have := HNN.out; omega, by have := HNN.out; have := HO.out.2.2.2; unfold maxLen; omega⟩ hB2.seg
            rw [← HNN.out, ← HE.out.1, ← HE.out.2] at HR
            have H2 : Hid (Blk w2 wz.heap.size (oC which 4 l oad N cap) 30) := HW.out.2.2.kept hK2 fun h => h
            clear hB2 hg2 hK2 HC o0 o1 o2 o3 o4 o5 hgz
            go_wp2_with fail
            refine HR.out.mono ?_
            rintro r w3 ⟨rfl, hT3, hS3⟩
            have hB3 := H2.out.same hS3 rfl
            have HC3 : Hid (Calls _ _ _ _ _) := copied_any oad xs cap w3 HO.out.2.2.1 (by have := HO.out.2.2.2; omega) (HO.out.1.kept hT3.keeps fun _ _ h => h)
            rw [← HNN.out] at HC3
            have HT3 : Hid (Tw w w3 a b lc' lc (fun z => z = wz.heap.size)) := hT3
            have o5 := hB3.cell (i := 5) rfl
            clear hT3 hS3 hB3 HR
            go_wp2_with fail
            refine HC3.out.mono ?_
            rintro r w4 ⟨g4, rfl, hB4, hg4, hK4⟩
            have HR4 : Hid (Calls _ _ _ _ _) := tw_restore HT3.out.swap hK4 hg4 (c := N) ⟨by have := HNN.out; omega, by have := HNN.out; have := HO.out.2.2.2; unfold maxLen; omega⟩ hB4.seg
            rw [← HNN.out, ← HE.out.1, ← HE.out.2] at HR4
            clear hB4 hg4 hK4 HC3 o5
            go_wp2_with fail
            refine HR4.out.mono ?_
            rintro r w5 ⟨rfl, hT5, -⟩
            have hTT := hT5.swap.none
            clear hT5 HR4
            have HTw : Hid (Tw w w5 a b lc' lc' (fun _ => False)) := hTT
            clear hTT
            have HL1 : Hid (Calls _ _ _ _ _) := tw_told HTw.out
            go_wp2_with fail
            refine HL1.out.mono ?_
            rintro r wl1 ⟨g1, c1, rfl, hg1, hc1, hs1, hk1⟩
            have hTT1 := HTw.out.keep hk1
            have HL2 : Hid (Calls _ _ _ _ _) := tw_told hTT1.swap
            have HS1 : Hid ((lc'.length ≤ c1 ∧ c1 ≤ maxLen) ∧ SegL wl1 (some ⟨g1, 0, none⟩) lc' ∧ Tw w wl1 a b lc' lc' (fun _ => False)) := ⟨hc1, hs1, hTT1⟩
            clear hg1 hc1 hs1 hk1 hTT1 HL1
            go_wp2_with fail
            refine HL2.out.mono ?_
            rintro r wl2 ⟨g2, c2, rfl, hg2, hc2', hs2, hk2⟩
            have HSM : Hid (Calls _ _ _ _ _) := same_any (some ⟨g1, 0, none⟩) (some ⟨g2, 0, none⟩) lc' lc' c1 c2 wl2 HS1.out.1 hc2' (HS1.out.2.1.kept hk2 fun _ _ h => h) hs2
            rw [decide_eq_true rfl] at HSM
            have HTL : Hid (Tw w wl2 a b lc' lc' (fun _ => False)) := HS1.out.2.2.keep hk2
            clear hg2 hc2' hs2 hk2 HL2
            go_wp2_with fail
            refine HSM.out.mono ?_
            rintro r wl3 ⟨rfl, hk3⟩
            have HTE : Hid (Tw w wl3 a b lc' lc' (fun _ => False)) := HTL.out.keep hk3
            clear hk3 HSM
            go_wp2
            go_roundw
            case rel => exact ⟨k + 1, lc', by omega, by go_num, HTE.out⟩
            case measure => simp [intOf]; omega
          · have k0 : (kind == 0) = false := by simpa using e0
            have k1 : (kind == 1) = false := by simpa using e1
            have k2 : (kind == 2) = false := by simpa using e2
            have k4 : (kind == 4) = false := by simpa using e4
            clear e0 e1 e2 e4
            obtain ⟨lc', hlc'⟩ : ∃ lc', lc' = lc := ⟨_, rfl⟩
            have hTT : Tw w W a b lc' lc' (fun _ => False) := by rw [hlc']; exact HW.out.2.1.none
            clear hlc'
            have HTw : Hid (Tw w W a b lc' lc' (fun _ => False)) := hTT
            clear hTT
            have HL1 : Hid (Calls _ _ _ _ _) := tw_told HTw.out
            go_wp2_with fail
            rw [← HW.out.1]
            refine HL1.out.mono ?_
            rintro r wl1 ⟨g1, c1, rfl, hg1, hc1, hs1, hk1⟩
            have hTT1 := HTw.out.keep hk1
            have HL2 : Hid (Calls _ _ _ _ _) := tw_told hTT1.swap
            have HS1 : Hid ((lc'.length ≤ c1 ∧ c1 ≤ maxLen) ∧ SegL wl1 (some ⟨g1, 0, none⟩) lc' ∧ Tw w wl1 a b lc' lc' (fun _ => False)) := ⟨hc1, hs1, hTT1⟩
            clear hg1 hc1 hs1 hk1 hTT1 HL1
            go_wp2_with fail
            refine HL2.out.mono ?_
            rintro r wl2 ⟨g2, c2, rfl, hg2, hc2', hs2, hk2⟩
            have HSM : Hid (Calls _ _ _ _ _) := same_any (some ⟨g1, 0, none⟩) (some ⟨g2, 0, none⟩) lc' lc' c1 c2 wl2 HS1.out.1 hc2' (HS1.out.2.1.kept hk2 fun _ _ h => h) hs2
            rw [decide_eq_true rfl] at HSM
            have HTL : Hid (Tw w wl2 a b lc' lc' (fun _ => False)) := HS1.out.2.2.keep hk2
            clear hg2 hc2' hs2 hk2 HL2
            go_wp2_with fail
            refine HSM.out.mono ?_
            rintro r wl3 ⟨rfl, hk3⟩
            have HTE : Hid (Tw w wl3 a b lc' lc' (fun _ => False)) := HTL.out.keep hk3
            clear hk3 HSM
            go_wp2
            go_roundw
            case rel => exact ⟨k + 1, lc', by omega, by go_num, HTE.out⟩
            case measure => simp [intOf]; omega
        · obtain rfl : k = m := by omega
          have HK : Hid (Keeps (fun _ => False) w wz) := hT.keeps
          clear hT
          go_wp2
          go_ret
          exact ⟨rfl, HK.out⟩

end Go.Proofs.Ytakidbjkpbgmmaa
