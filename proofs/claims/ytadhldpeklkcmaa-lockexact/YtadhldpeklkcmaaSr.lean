import Derived.Test.YtadhldpeklkcmaaSq
namespace Go.Proofs.Ytadhldpeklkcmaa
open Go.RowKit
set_option linter.unusedVariables false
set_option linter.unusedSimpArgs false
set_option maxRecDepth 10000

theorem SegW.keptN {S : Nat → Prop} {w w' : World} {a : Option Addr} {ts : List UInt32} (h : SegW w a ts) (hK : Keeps S w w') (hn : ∀ x, a = some x → ts ≠ [] → ¬ S x.block) : SegW w' a ts := by
  by_cases h0 : ts = []
  · exact .inl h0
  · exact h.kept hK fun x hx => hn x hx h0

theorem Pst.Ok.pair2 {p : Pst} {N : Nat} {w w5 w6 W7 : World} (h : p.Ok N w) {X Y : Chn} (hX : X.In w6) (hXl : X.lk.length ≤ 2147483647) (hXf : ∀ k, X.F k → w.heap.size ≤ k ∧ k < w5.heap.size) (s5 : w.heap.size ≤ w5.heap.size) (hY : Y.Rn w6) (hYf : ∀ k, Y.F k → w5.heap.size ≤ k) (s6 : w5.heap.size ≤ w6.heap.size) (k6 : Keeps (fun _ => False) w w6) {lv' : Value}
    (hr : W7.ownsRow 0 84 2 lv' (p.Xs.length + 1) (pvs p.Xs p.Ys ++ [.pointer (some ⟨X.b, 0, none⟩), .pointer (some ⟨Y.b, 0, none⟩)])) (hg : Grew w6 p.lv W7 lv') : Pst.Ok { p with lv := lv', Xs := p.Xs ++ [X], Ys := p.Ys ++ [Y] } N (W7.setCell ⟨p.WB, 4, none⟩ lv') ∧ Keeps (fun k => N ≤ k) w (W7.setCell ⟨p.WB, 4, none⟩ lv') := by
  obtain ⟨W8, hW8⟩ : ∃ W8, W8 = W7.setCell ⟨p.WB, 4, none⟩ lv' := ⟨_, rfl⟩
  rw [← hW8]
  have hKB : Keeps (· = p.WB) W7 W8 := by rw [hW8]; exact (Keeps.refl (· = p.WB) W7).setCell _ _ fun _ => rfl
  have hK68 : Keeps (fun k => k = p.WB ∨ some k = p.lv.ownBlock) w6 W8 := (hg.keeps.mono fun _ _ e => .inr e).trans hKB fun _ _ e => .inl e
  have hF : ∀ k, (k = p.WB ∨ some k = p.lv.ownBlock) → k < w.heap.size := by
    rintro k (e | e)
    · exact h.sep.lt 0 k (Pst.f0 e)
    · exact h.sep.lt 5 k (Pst.f5 e.symm)
  have h6 := h.same k6
  have hlW : p.lv.ownBlock ≠ some p.WB := fun e => by have := h.sep.one 5 0 _ (Pst.f5 e) (Pst.f0 rfl); omega
  have hl'W : lv'.ownBlock ≠ some p.WB := by
    rcases hg.fresh with e | ⟨b, e, hb⟩
    · rw [e]; exact hlW
    · rw [e]; intro e2; cases e2; have := h.sep.lt 0 _ (Pst.f0 rfl); omega
  have hK : Keeps (fun k => k = p.WB ∨ some k = p.lv.ownBlock) w W8 := k6.none.trans hK68 fun _ _ e => e
  refine ⟨h.push (w1 := w5) (w2 := w6) (hX.kept hK68 ?_) hXl (hY.kept hK68 ?_) s5 s6 hK68.size hXf (fun k hk => ⟨hYf k hk, hY.lt hk⟩) (owns_kept hr hKB fun k hk e => by subst e; exact hl'W hk) hg.fresh ?_ hK, hK.mono fun k _ e => ?_⟩
  · intro k hk e; have := (hXf k hk).1; have := hF k e; omega
  · intro k hk e; have := hYf k hk; have := hF k e; omega
  · rw [hW8]
    exact (h6.blk.kept hg.keeps fun e => hlW e.symm).setCell 4 lv'
  · rcases e with e | e
    · exact h.geF (Pst.f0 e)
    · exact h.geF (Pst.f5 e.symm)
set_option maxHeartbeats 2000000 in
theorem makes_restore_no (p : Pst) (N : Nat) (o : Opr) (ls : List Int) (ts : List UInt32) (w : World) (hok : p.Ok N w) (hs : p.Same) (hL : SegI w o.la ls) (hln : o.ln = ls.length) (hT : SegW w o.ta ts) (htn : o.tn = ts.length) (hll : ls.length ≤ 2147483647) (htl : ts.length ≤ 2147483647) (htop : ∀ z ∈ ls, z ≤ 9223372036854775807) (hn : p.Xs.length ≤ 4294967296) (hkd : o.kind = 9) (hcan : canB ls.length o.b o.asked ts.length = false) :
    Calls Try.prog 8 #[.pointer (some ⟨p.WB, 0, none⟩), .agg o.vs.toArray] w (PlayP p N w) := by
  obtain ⟨hkb, hO⟩ := box_op o w
  obtain ⟨w1, hw1⟩ : ∃ w1, w1 = w.alloc (.cells o.vs.toArray 30) := ⟨_, rfl⟩
  rw [← hw1] at hkb hO
  have hok1 := hok.same hkb
  obtain ⟨B, hB⟩ : ∃ B, B = w.heap.size := ⟨_, rfl⟩
  have hO' : Blk w1 B o.vs 30 := by rw [hB]; exact hO
  have k0 : w1.cell? ⟨B, 0, none⟩ = some (.int .i64 9) := by rw [← hkd]; exact hO'.cell (i := 0) rfl
  have hL1 := hL.kept hkb fun _ _ e => e
  have hT1 := hT.kept hkb fun _ _ e => e
  have H1 := lentI o.la o.lc ls w1 hL1 (by omega)
  have H2 : ∀ w2, Keeps (fun _ => False) w1 w2 → Calls _ _ _ w2 _ := fun w2 hk => lentW o.ta o.tc ts w2 (hT1.kept hk fun _ _ e => e) (by omega)
  have HW : Hid (w.alloc (.cells #[.int .i64 9, .int .i64 o.who, .int .i64 o.a, .int .i64 o.b, .bool o.asked, .int .u32 (o.wd.toNat : Int), .slice o.la o.ln o.lc, .slice o.ta o.tn o.tc] 30) = w1) := by rw [hw1, ← hkd]; rfl
  have hvs : o.vs.toArray = #[.int .i64 9, .int .i64 o.who, .int .i64 o.a, .int .i64 o.b, .bool o.asked, .int .u32 (o.wd.toNat : Int), .slice o.la o.ln o.lc, .slice o.ta o.tn o.tc] := by rw [← hkd]; rfl
  rw [hvs]
  obtain ⟨nl, hnl⟩ : ∃ nl, nl = ls.length := ⟨_, rfl⟩
  obtain ⟨nt, hnt⟩ : ∃ nt, nt = ts.length := ⟨_, rfl⟩
  rw [hln, ← hnl, htn, ← hnt] at HW ⊢
  obtain ⟨A, hA⟩ : ∃ A, A = w1.heap.size := ⟨_, rfl⟩
  rw [← hnl, ← hA] at H1
  rw [← hnt] at H2
  have H1 : Hid (Calls _ _ _ _ _) := H1
  have H2 : Hid (∀ w2, _) := H2
  have HC : Hid (canB ls.length o.b o.asked ts.length = false ∧ SegW w1 o.ta ts ∧ nt = ts.length ∧ nt ≤ 2147483647) := ⟨hcan, hT1, hnt, by omega⟩
  clear hcan
  have HH : Hid (p.Ok N w1 ∧ Keeps (fun _ => False) w w1 ∧ p.Same ∧ SegI w1 o.la ls ∧ nl = ls.length ∧ A = w1.heap.size ∧ (∀ z ∈ ls, z ≤ 9223372036854775807) ∧ nl ≤ 2147483647 ∧ p.Xs.length ≤ 4294967296) := ⟨hok1, hkb, hs, hL1, hnl, hA, htop, by omega, hn⟩
  clear hok hs hL hln hT htn hll htl htop hn hkd hkb hO hw1 hok1 hO' hL1 hT1 hvs hnl hnt hA
  go_enter Try.func8, Try.ntmps8
  go_wp2_with (fail)
  rw [HW.out, ← hB]
  clear HW hB
  refine H1.out.mono ?_
  rintro e w2 ⟨rfl, hb2, hk2⟩
  have k2 := cell_kept k0 hk2 id
  have HB2 : Hid (Blk w2 A _ 3 ∧ Keeps (fun _ => False) w1 w2) := ⟨hb2, hk2⟩
  clear hb2 hk2 k0 H1
  go_wp2_with fail
  refine (H2.out _ HB2.out.2).mono ?_
  rintro e w3 ⟨rfl, hb3, hk3⟩
  have k3 := cell_kept k2 hk3 id
  have HB3 : Hid (Blk w3 A (ivs (ls ++ marksI 9)) 3 ∧ Keeps (fun _ => False) w1 w3) := ⟨HB2.out.1.kept hk3 (fun e => e), HB2.out.2.trans hk3 fun _ _ e => e⟩
  obtain ⟨A2, hA2⟩ : ∃ A2, A2 = w2.heap.size := ⟨_, rfl⟩
  rw [← hA2]
  have HB4 : Hid (Blk w3 A2 (wvs (ts ++ marksW 9)) 26 ∧ A2 = w2.heap.size ∧ w1.heap.size ≤ A2 ∧ ¬ A = A2) := ⟨by rw [hA2]; exact hb3, hA2, by rw [hA2]; exact HB2.out.2.size, fun e => by have := HB2.out.1.lt; omega⟩
  clear hk3 k2 HB2 H2 hA2 hb3
  go_wp2_with fail
  have H3 := restore_no (some ⟨A, 0, none⟩) (some ⟨A2, 0, none⟩) (nl + 9) (nt + 9) nl nt o.b o.asked w3 (by have := HH.out.2.2.2.2.2.2.2.1; omega) (by rw [HH.out.2.2.2.2.1, HC.out.2.2.1]; exact HC.out.1)
  refine H3.mono ?_
  rintro e w4 ⟨rfl, hk4⟩
  have HK4 : Hid (Keeps (fun _ => False) w1 w4 ∧ Blk w4 A (ivs (ls ++ marksI 9)) 3 ∧ Blk w4 A2 (wvs (ts ++ marksW 9)) 26) := ⟨HB3.out.2.trans hk4 fun _ _ e => e, HB3.out.1.kept hk4 (fun e => e), HB4.out.1.kept hk4 (fun e => e)⟩
  clear H3 hk4 k3 HB3
  go_wp2_with fail
  have H4 := rrestore_no o.la o.ta o.lc o.tc nl nt o.b o.asked w4 (by have := HH.out.2.2.2.2.2.2.2.1; omega) (by have := HC.out.2.2.2; omega) (by rw [HH.out.2.2.2.2.1, HC.out.2.2.1]; exact HC.out.1)
  refine H4.mono ?_
  rintro e w5 ⟨rfl, hk5⟩
  have HV : Hid (Blk w5 A (ivs (ls ++ marksI 9)) 3 ∧ Blk w5 A2 (wvs (ts ++ marksW 9)) 26 ∧ Keeps (fun _ => False) w1 w5) := ⟨HK4.out.2.1.kept hk5 (fun e => e), HK4.out.2.2.kept hk5 (fun e => e), HK4.out.1.trans hk5 fun _ _ e => e⟩
  clear H4 hk5 HK4
  go_wp2_with fail
  have H6 := backI A o.la o.lc ls w5 HV.out.1 (HH.out.2.2.2.1.kept HV.out.2.2 fun _ _ e => e) (fun x hx h0 e => by have := segI_lt' HH.out.2.2.2.1 x hx h0; have := HH.out.2.2.2.2.2.1; omega) (by have := HH.out.2.2.2.2.1; have := HH.out.2.2.2.2.2.2.2.1; omega)
  rw [← HH.out.2.2.2.2.1] at H6
  refine H6.mono ?_
  rintro e w6 ⟨rfl, hk6⟩
  have HK6 : Hid (Keeps (· = A) w5 w6) := hk6
  clear H6 hk6
  go_wp2_with fail
  have H7 := backW A2 o.ta o.tc ts w6 (HV.out.2.1.kept HK6.out fun e => HB4.out.2.2.2 e.symm) ((HC.out.2.1.kept HV.out.2.2 fun _ _ e => e).keptN HK6.out fun x hx h0 e => by have := segW_lt' HC.out.2.1 x hx h0; have := HH.out.2.2.2.2.2.1; omega) (fun x hx h0 e => by have := segW_lt' HC.out.2.1 x hx h0; have := HB4.out.2.2.1; omega) (by have := HC.out.2.2.1; have := HC.out.2.2.2; omega)
  rw [← HC.out.2.2.1] at H7
  refine H7.mono ?_
  rintro e w7 ⟨rfl, hk7⟩
  have HK7 : Hid (Keeps (· = A2) w6 w7 ∧ Keeps (fun _ => False) w1 w7) := ⟨hk7, ((HV.out.2.2.none.trans HK6.out fun k hk e => by have := HH.out.2.2.2.2.2.1; show w1.heap.size ≤ k; omega).trans hk7 fun k hk e => by have := HB4.out.2.2.1; show w1.heap.size ≤ k; omega).new⟩
  clear H7 hk7
  go_wp2
  go_ret
  exact ⟨rfl, p, HH.out.1.same HK7.out.2, HH.out.2.2.1, rfl, by simp, by simp, by simp, (HH.out.2.1.trans HK7.out.2 fun _ _ e => e).none⟩
set_option maxHeartbeats 2000000 in
theorem makes_restore_ok (p : Pst) (N : Nat) (o : Opr) (ls : List Int) (ts : List UInt32) (w : World) (hok : p.Ok N w) (hs : p.Same) (hL : SegI w o.la ls) (hln : o.ln = ls.length) (hT : SegW w o.ta ts) (htn : o.tn = ts.length) (hll : ls.length ≤ 2147483647) (htl : ts.length ≤ 2147483647) (htop : ∀ z ∈ ls, z ≤ 9223372036854775807) (hn : p.Xs.length ≤ 4294967296) (hkd : o.kind = 9) (hcan : canB ls.length o.b o.asked ts.length = true) :
    Calls Try.prog 8 #[.pointer (some ⟨p.WB, 0, none⟩), .agg o.vs.toArray] w (PlayP p N w) := by
  obtain ⟨hkb, hO⟩ := box_op o w
  obtain ⟨w1, hw1⟩ : ∃ w1, w1 = w.alloc (.cells o.vs.toArray 30) := ⟨_, rfl⟩
  rw [← hw1] at hkb hO
  have hok1 := hok.same hkb
  obtain ⟨B, hB⟩ : ∃ B, B = w.heap.size := ⟨_, rfl⟩
  have hO' : Blk w1 B o.vs 30 := by rw [hB]; exact hO
  have k0 : w1.cell? ⟨B, 0, none⟩ = some (.int .i64 9) := by rw [← hkd]; exact hO'.cell (i := 0) rfl
  have hL1 := hL.kept hkb fun _ _ e => e
  have hT1 := hT.kept hkb fun _ _ e => e
  have H1 := lentI o.la o.lc ls w1 hL1 (by omega)
  have H2 : ∀ w2, Keeps (fun _ => False) w1 w2 → Calls _ _ _ w2 _ := fun w2 hk => lentW o.ta o.tc ts w2 (hT1.kept hk fun _ _ e => e) (by omega)
  have HW : Hid (w.alloc (.cells #[.int .i64 9, .int .i64 o.who, .int .i64 o.a, .int .i64 o.b, .bool o.asked, .int .u32 (o.wd.toNat : Int), .slice o.la o.ln o.lc, .slice o.ta o.tn o.tc] 30) = w1) := by rw [hw1, ← hkd]; rfl
  have hvs : o.vs.toArray = #[.int .i64 9, .int .i64 o.who, .int .i64 o.a, .int .i64 o.b, .bool o.asked, .int .u32 (o.wd.toNat : Int), .slice o.la o.ln o.lc, .slice o.ta o.tn o.tc] := by rw [← hkd]; rfl
  rw [hvs]
  obtain ⟨nl, hnl⟩ : ∃ nl, nl = ls.length := ⟨_, rfl⟩
  obtain ⟨nt, hnt⟩ : ∃ nt, nt = ts.length := ⟨_, rfl⟩
  rw [hln, ← hnl, htn, ← hnt] at HW ⊢
  obtain ⟨A, hA⟩ : ∃ A, A = w1.heap.size := ⟨_, rfl⟩
  rw [← hnl, ← hA] at H1
  rw [← hnt] at H2
  have H1 : Hid (Calls _ _ _ _ _) := H1
  have H2 : Hid (∀ w2, _) := H2
  have HC : Hid (canB ls.length o.b o.asked ts.length = true ∧ SegW w1 o.ta ts ∧ nt = ts.length ∧ nt ≤ 2147483647) := ⟨hcan, hT1, hnt, by omega⟩
  clear hcan
  have HH : Hid (p.Ok N w1 ∧ Keeps (fun _ => False) w w1 ∧ p.Same ∧ SegI w1 o.la ls ∧ nl = ls.length ∧ A = w1.heap.size ∧ (∀ z ∈ ls, z ≤ 9223372036854775807) ∧ nl ≤ 2147483647 ∧ p.Xs.length ≤ 4294967296) := ⟨hok1, hkb, hs, hL1, hnl, hA, htop, by omega, hn⟩
  clear hok hs hL hln hT htn hll htl htop hn hkd hkb hO hw1 hok1 hO' hL1 hT1 hvs hnl hnt hA
  go_enter Try.func8, Try.ntmps8
  go_wp2_with (fail)
  rw [HW.out, ← hB]
  clear HW hB
  refine H1.out.mono ?_
  rintro e w2 ⟨rfl, hb2, hk2⟩
  have k2 := cell_kept k0 hk2 id
  have HB2 : Hid (Blk w2 A _ 3 ∧ Keeps (fun _ => False) w1 w2) := ⟨hb2, hk2⟩
  clear hb2 hk2 k0 H1
  go_wp2_with fail
  refine (H2.out _ HB2.out.2).mono ?_
  rintro e w3 ⟨rfl, hb3, hk3⟩
  have k3 := cell_kept k2 hk3 id
  have HB3 : Hid (Blk w3 A (ivs (ls ++ marksI 9)) 3 ∧ Keeps (fun _ => False) w1 w3) := ⟨HB2.out.1.kept hk3 (fun e => e), HB2.out.2.trans hk3 fun _ _ e => e⟩
  obtain ⟨A2, hA2⟩ : ∃ A2, A2 = w2.heap.size := ⟨_, rfl⟩
  rw [← hA2]
  have HB4 : Hid (Blk w3 A2 (wvs (ts ++ marksW 9)) 26 ∧ A2 = w2.heap.size ∧ w1.heap.size ≤ A2 ∧ ¬ A = A2) := ⟨by rw [hA2]; exact hb3, hA2, by rw [hA2]; exact HB2.out.2.size, fun e => by have := HB2.out.1.lt; omega⟩
  clear hk3 k2 HB2 H2 hA2 hb3
  go_wp2_with fail
  have H3 := restore_ok (some ⟨A, 0, none⟩) (some ⟨A2, 0, none⟩) (nl + 9) (nt + 9) ls ts o.b o.asked w3 (segI_pre HB3.out.1) (segW_pre HB4.out.1) (by have := HH.out.2.2.2.2.1; have := HH.out.2.2.2.2.2.2.2.1; omega) HH.out.2.2.2.2.2.2.1 HC.out.1
  rw [← HH.out.2.2.2.2.1, ← HC.out.2.2.1] at H3
  refine H3.mono ?_
  rintro e w4 ⟨X, rfl, hXl, hXt, hXs, hXI, hXf, hk4⟩
  have HX : Hid (X.lk = ls ∧ X.tk = ts ∧ X.st = (if o.asked then 2 else settledN ls ts) ∧ X.In w4 ∧ (∀ k, X.F k → w3.heap.size ≤ k) ∧ Blk w4 A (ivs (ls ++ marksI 9)) 3 ∧ Blk w4 A2 (wvs (ts ++ marksW 9)) 26 ∧ Keeps (fun _ => False) w1 w4) := ⟨hXl, hXt, hXs, hXI, hXf, HB3.out.1.kept hk4 (fun e => e), HB4.out.1.kept hk4 (fun e => e), HB3.out.2.trans hk4 fun _ _ e => e⟩
  have HA3 : Hid (A < w3.heap.size ∧ A2 < w3.heap.size) := ⟨HB3.out.1.lt, HB4.out.1.lt⟩
  obtain ⟨xb, hxb⟩ : ∃ xb, xb = X.b := ⟨_, rfl⟩
  have HXB : Hid (xb = X.b) := hxb
  rw [← hxb]
  clear H3 hXl hXt hXs hXI hXf hk4 k3 HB3 hxb
  go_wp2_with fail
  have H4 := rrestore_ok o.la o.ta o.lc o.tc ls ts o.b o.asked w4 (HH.out.2.2.2.1.kept HX.out.2.2.2.2.2.2.2 fun _ _ e => e) (HC.out.2.1.kept HX.out.2.2.2.2.2.2.2 fun _ _ e => e) (by have := HH.out.2.2.2.2.1; have := HH.out.2.2.2.2.2.2.2.1; omega) HC.out.1
  rw [← HH.out.2.2.2.2.1, ← HC.out.2.2.1] at H4
  refine H4.mono ?_
  rintro e w5 ⟨Y, rfl, hYl, hYt, hYs, hYI, hYf, hk5⟩
  have HY : Hid (Y.lk = ls ∧ Y.tk = ts ∧ Y.st = (if o.asked then 2 else settledN ls ts) ∧ Y.Rn w5 ∧ (∀ k, Y.F k → w4.heap.size ≤ k) ∧ Keeps (fun _ => False) w4 w5) := ⟨hYl, hYt, hYs, hYI, hYf, hk5⟩
  have HV : Hid (Blk w5 A (ivs (ls ++ marksI 9)) 3 ∧ Blk w5 A2 (wvs (ts ++ marksW 9)) 26 ∧ Keeps (fun _ => False) w1 w5) := ⟨HX.out.2.2.2.2.2.1.kept hk5 (fun e => e), HX.out.2.2.2.2.2.2.1.kept hk5 (fun e => e), HX.out.2.2.2.2.2.2.2.trans hk5 fun _ _ e => e⟩
  obtain ⟨yb, hyb⟩ : ∃ yb, yb = Y.b := ⟨_, rfl⟩
  have HYB : Hid (yb = Y.b) := hyb
  rw [← hyb]
  clear H4 hYl hYt hYs hYI hYf hk5 hyb
  go_wp2_with fail
  have H6 := backI A o.la o.lc ls w5 HV.out.1 (HH.out.2.2.2.1.kept HV.out.2.2 fun _ _ e => e) (fun x hx h0 e => by have := segI_lt' HH.out.2.2.2.1 x hx h0; have := HH.out.2.2.2.2.2.1; omega) (by have := HH.out.2.2.2.2.1; have := HH.out.2.2.2.2.2.2.2.1; omega)
  rw [← HH.out.2.2.2.2.1] at H6
  refine H6.mono ?_
  rintro e w6 ⟨rfl, hk6⟩
  have HK6 : Hid (Keeps (· = A) w5 w6) := hk6
  clear H6 hk6
  go_wp2_with fail
  have H7 := backW A2 o.ta o.tc ts w6 (HV.out.2.1.kept HK6.out fun e => HB4.out.2.2.2 e.symm) ((HC.out.2.1.kept HV.out.2.2 fun _ _ e => e).keptN HK6.out fun x hx h0 e => by have := segW_lt' HC.out.2.1 x hx h0; have := HH.out.2.2.2.2.2.1; omega) (fun x hx h0 e => by have := segW_lt' HC.out.2.1 x hx h0; have := HB4.out.2.2.1; omega) (by have := HC.out.2.2.1; have := HC.out.2.2.2; omega)
  rw [← HC.out.2.2.1] at H7
  refine H7.mono ?_
  rintro e w7 ⟨rfl, hk7⟩
  have HK7 : Hid (Keeps (· = A2) w6 w7 ∧ Keeps (fun _ => False) w1 w7) := ⟨hk7, ((HV.out.2.2.none.trans HK6.out fun k hk e => by have := HH.out.2.2.2.2.2.1; show w1.heap.size ≤ k; omega).trans hk7 fun k hk e => by have := HB4.out.2.2.1; show w1.heap.size ≤ k; omega).new⟩
  clear H7 hk7
  have hX7 : X.In w7 := ((HX.out.2.2.2.1.kept HY.out.2.2.2.2.2 fun _ _ e => e).kept HK6.out fun k hk e => by have := HX.out.2.2.2.2.1 k hk; have := HA3.out.1; omega).kept HK7.out.1 fun k hk e => by have := HX.out.2.2.2.2.1 k hk; have := HA3.out.2; omega
  have s34 : w1.heap.size ≤ w3.heap.size := by have := HB4.out.2.2.1; have := HA3.out.2; omega
  have s45 : w4.heap.size ≤ w7.heap.size := Nat.le_trans HY.out.2.2.2.2.2.size (Nat.le_trans HK6.out.size HK7.out.1.size)
  have s14 : w1.heap.size ≤ w4.heap.size := HX.out.2.2.2.2.2.2.2.size
  have hY7 : Y.Rn w7 := ((HY.out.2.2.2.1.kept HK6.out fun k hk e => by have := HY.out.2.2.2.2.1 k hk; have := HX.out.2.2.2.2.2.1.lt; omega).kept HK7.out.1 fun k hk e => by have := HY.out.2.2.2.2.1 k hk; have := HX.out.2.2.2.2.2.2.1.lt; omega)
  have hr6 := owns_kept HH.out.1.row HK7.out.2 fun _ _ e => e
  obtain ⟨lv', W7, hap, hr7, hg7⟩ := append_pair xb yb p.lv p.Xs.length _ hr6 (by have := HH.out.2.2.2.2.2.2.2.2; omega)
  have hfin := HH.out.1.pair2 (w5 := w4) hX7 (by rw [HX.out.1]; have := HH.out.2.2.2.2.1; have := HH.out.2.2.2.2.2.2.2.1; omega) (fun k hk => ⟨Nat.le_trans s34 (HX.out.2.2.2.2.1 k hk), HX.out.2.2.2.1.lt hk⟩) s14 hY7 HY.out.2.2.2.2.1 s45 HK7.out.2 (by rw [← HXB.out, ← HYB.out]; exact hr7) hg7
  have hsame := HH.out.2.2.1.pair HH.out.1.len (X := X) (Y := Y) (by rw [HY.out.1, HX.out.1]) (by rw [HY.out.2.1, HX.out.2.1]) (by rw [HY.out.2.2.1, HX.out.2.2.1]) lv'
  obtain ⟨la', lc', hlv', -, -⟩ := owns_slice hr7
  obtain ⟨la, lc, hlv, -, -⟩ := owns_slice HH.out.1.row
  have c4 : w7.cell? ⟨p.WB, 4, none⟩ = some (.slice la p.Xs.length lc) := by rw [(HH.out.1.same HK7.out.2).blk.cell (i := 4) rfl, hlv]
  have hB7 := (HH.out.1.same HK7.out.2).blk.kept hg7.keeps (fun e => by have := HH.out.1.sep.one 5 0 _ (Pst.f5 e.symm) (Pst.f0 rfl); omega)
  have d4 : W7.cell? ⟨p.WB, 4, none⟩ = some (.slice la p.Xs.length lc) := by rw [hB7.cell (i := 4) rfl, hlv]
  have z4 := hB7.frozen 4
  rw [hlv] at hap
  rw [hlv'] at hap hfin hsame
  have HAP : Hid (∀ ty, _) := hap
  have HFIN : Hid (_ ∧ _) := ⟨hfin, hsame⟩
  clear hX7 s34 s45 s14 hY7 hr6 hr7 hg7 hfin hsame hlv' hlv hap hB7
  go_wp2_with (at_builtin; go_must (refine wpList_append_run rfl (.tmp 133) (.tmp 137) 35 35 rfl (.slice la p.Xs.length lc) (.slice (some ⟨w7.heap.size, 0, none⟩) 1 1) (.slice la' (p.Xs.length + 1) lc') W7 rfl rfl HAP.out ?_; refine Hid.out ?_))
  unfold Hid
  clear HAP c4
  go_wp2
  go_ret
  exact ⟨rfl, _, HFIN.out.1.1, HFIN.out.2, rfl, by simp, by simp, by simp, HH.out.2.1.none.trans HFIN.out.1.2 fun _ _ e => e⟩
end Go.Proofs.Ytadhldpeklkcmaa
