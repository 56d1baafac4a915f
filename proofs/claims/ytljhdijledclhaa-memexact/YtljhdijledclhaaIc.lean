import Derived.Test.YtljhdijledclhaaIa
namespace Go.Proofs.Ytljhdijledclhaa
open Go.RowKit
set_option linter.unusedVariables false
set_option linter.unusedSimpArgs false

theorem its_get (I : List It) (i : Nat) (t : It) (h : I[i]? = some t) : (I.flatMap It.vs)[i * 3]? = some (.func (.func 54) #[] #[.pointer (some ⟨t.c, 0, none⟩), .pointer (some ⟨t.d, 0, none⟩)]) ∧ (I.flatMap It.vs)[i * 3 + 1]? = some (.int .i64 t.i) ∧ (I.flatMap It.vs)[i * 3 + 2]? = some (.int .i64 t.j) := by
  induction I generalizing i with
  | nil => simp at h
  | cons q I ih =>
    cases i with
    | zero => simp at h; subst h; exact ⟨rfl, rfl, rfl⟩
    | succ i =>
      have := ih i (by simpa using h)
      rw [List.flatMap_cons]
      have hl : q.vs.length = 3 := rfl
      rw [List.getElem?_append_right (by omega), List.getElem?_append_right (by omega), List.getElem?_append_right (by omega), hl, show (i + 1) * 3 - 3 = i * 3 by omega, show (i + 1) * 3 + 1 - 3 = i * 3 + 1 by omega, show (i + 1) * 3 + 2 - 3 = i * 3 + 2 by omega]
      exact this

set_option maxRecDepth 20000 in
set_option maxHeartbeats 400000 in
theorem pick_big (c : Int) (n : Nat) (w : World) (hn : 0 < n) (hn2 : (n : Int) ≤ 8589934592) (h1 : -9223372036854775808 ≤ c) (h2 : c ≤ 9223372036854775807) :
    Calls Try.prog 15 #[.int .i64 c, .int .i64 n] w fun e w' => e = .returned (.int .i64 (pk c n : Nat)) ∧ w' = w := by
  have HP : Hid (((pk c n : Nat) : Int) = _) := pk_cast c n hn
  have hn0 : ¬ ((n : Int) = 0) := by omega
  have hn1 : ¬ (n = 0) := by omega
  by_cases h0 : c < 0
  · go_enter Try.func15, Try.ntmps15
    go_wp2
    go_ret
    refine ⟨ret_int ?_, rfl⟩
    rw [HP.out, if_pos h0, ← Int.neg_tmod, Int.tmod_eq_emod_of_nonneg (by omega)]
  · go_enter Try.func15, Try.ntmps15
    go_wp2
    go_ret
    refine ⟨ret_int ?_, rfl⟩
    rw [HP.out, if_neg (by omega)]

theorem Try.size96 : (Try.prog.info? 96).map (·.size) = some 3 := by kernel_rfl
theorem all96 (c d : Nat) (i j : Int) : (#[.func (.func 54) #[] #[.pointer (some ⟨c, 0, none⟩), .pointer (some ⟨d, 0, none⟩)], .int .i64 i, .int .i64 j] : Array Value).all (·.oneCell') = true := by kernel_rfl

set_option maxRecDepth 100000 in
set_option maxHeartbeats 8000000 in
theorem iterators_14 (k who oth a b c : Int) (W : Nat) (v : Value) (w0 w : World) (X T : Nat) (h : Game w0 w X T) (hk13 : (k == 13) = false) (hc : in64 c) (hT : T ≤ 8589934592) :
    Calls Try.prog 11 #[.pointer (some ⟨X, 0, none⟩), .agg #[.int .i64 k, .int .i64 who, .int .i64 oth, .int .i64 a, .int .i64 b, .int .i64 c, .int .u32 W, v]] w fun e w' => e = .returned (.bool true) ∧ Game w0 w' X T := by
  obtain ⟨s, g, hH, hR, hS, hX⟩ := h.out
  have HG : Hid (∀ w', Keeps (fun _ => False) w w' → Game w0 w' X T) := fun w' hK => h.quiet hK
  have hr := (hH.row hR.ri).1
  obtain ⟨ia, ic, hsi, hcn, hcm⟩ := owns_slice hr
  by_cases hI0 : g.I.length = 0
  · have hx := (hH.blk hR.x).1.cell (i := 1) rfl
    rw [hsi, hX, hI0] at hx
    obtain ⟨w1, hw1⟩ : ∃ w1, w1 = w.alloc (.cells #[.int .i64 k, .int .i64 who, .int .i64 oth, .int .i64 a, .int .i64 b, .int .i64 c, .int .u32 W, v] 29) := ⟨_, rfl⟩
    have hK : Keeps (fun _ => False) w w1 := by rw [hw1]; exact (Keeps.refl _ w).alloc _
    have HW1 : Hid (_ = _) := hw1
    have HF : Hid (Game w0 w1 X T) := HG.out w1 hK
    have x1 := cell_kept hx hK (fun e => e)
    have k0 := (show Blk w1 w.heap.size [.int .i64 k, .int .i64 who, .int .i64 oth, .int .i64 a, .int .i64 b, .int .i64 c, .int .u32 W, v] 29 by rw [hw1]; exact Blk.new w _ 29).cell (i := 0) rfl
    obtain ⟨O, hO⟩ : ∃ O, O = w.heap.size := ⟨_, rfl⟩
    have HO : Hid (O = w.heap.size) := hO
    rw [← hO] at k0
    rw [hw1] at x1
    clear h hH hR hS hr hsi hX hI0 hx hK hw1 hcn hcm hO
    go_enter Try.func11, Try.ntmps11
    go_wp2_with fail
    go_ret
    exact ⟨rfl, by rw [← HW1.out]; exact HF.out⟩
  obtain ⟨N, hN⟩ : ∃ N, N = g.I.length := ⟨_, rfl⟩
  have hN0 : 0 < N := by omega
  have hNT : N ≤ T := by rw [hN]; exact hS.i
  obtain ⟨j, hj⟩ : ∃ j, j = pk c N := ⟨_, rfl⟩
  have hjN : j < N := by rw [hj]; exact pk_lt c N hN0
  have hjN' : (j : Int) < N := by omega
  obtain ⟨t, ht⟩ : ∃ t, g.I[j]? = some t := ⟨_, List.getElem?_eq_getElem (by omega)⟩
  obtain ⟨p, q, hp, hq, ht1, ht2⟩ := hR.it j t ht
  have HP1 : Hid (∀ w, Calls Try.prog 15 #[.int .i64 c, .int .i64 N] w fun e w' => e = .returned (.int .i64 (j : Nat)) ∧ w' = w) := fun w => by rw [hj]; exact pick_big c N w hN0 (by omega) hc.1 hc.2
  obtain ⟨w1, hw1⟩ : ∃ w1, w1 = w.alloc (.cells #[.int .i64 k, .int .i64 who, .int .i64 oth, .int .i64 a, .int .i64 b, .int .i64 c, .int .u32 W, v] 29) := ⟨_, rfl⟩
  have hK01 : Keeps (fun _ => False) w w1 := by rw [hw1]; exact (Keeps.refl _ w).alloc _
  obtain ⟨O, hO⟩ : ∃ O, O = w.heap.size := ⟨_, rfl⟩
  have hB1 : Blk w1 O [.int .i64 k, .int .i64 who, .int .i64 oth, .int .i64 a, .int .i64 b, .int .i64 c, .int .u32 W, v] 29 := by rw [hw1, hO]; exact Blk.new w _ 29
  obtain ⟨v0, v1, v2⟩ := its_get g.I j t ht
  rw [hsi] at hr
  obtain ⟨ib, e0, f0⟩ := owns_cellK hr v0
  obtain ⟨ib1, e1, f1⟩ := owns_cellK hr v1
  obtain ⟨ib2, e2, f2⟩ := owns_cellK hr v2
  rw [e0] at e1 e2
  cases e1
  cases e2
  obtain ⟨L, hL⟩ : ∃ L, L = g.P.length := ⟨_, rfl⟩
  have hLi : (L : Int) ≤ 12 := by have := hS.p12; omega
  have hiL : (t.i : Int) < L := by have := (List.getElem?_eq_some_iff.1 hp).1; omega
  have hjL : (t.j : Int) < L := by have := (List.getElem?_eq_some_iff.1 hq).1; omega
  obtain ⟨lb, lc, hsl⟩ : ∃ lb lc, g.sl = .slice (some ⟨lb, 0, none⟩) g.P.length lc := by
    have hr := (hH.row hR.rl).1
    obtain ⟨la, lc, hsl, -, -⟩ := owns_slice hr
    rw [hsl] at hr
    obtain ⟨lb, e1, -⟩ := owns_cellK hr (pvs_get g.P _ p hp).1
    exact ⟨lb, lc, by rw [hsl, e1]⟩
  have hrl := (hH.row hR.rl).1
  rw [hsl] at hrl
  obtain ⟨l1, g1, u1⟩ := owns_cellK hrl (pvs_get g.P _ p hp).2
  obtain ⟨l2, g2, u2⟩ := owns_cellK hrl (pvs_get g.P _ q hq).2
  cases g1
  cases g2
  have hx0 := (hH.blk hR.x).1.cell (i := 0) rfl
  have hx1 := (hH.blk hR.x).1.cell (i := 1) rfl
  rw [hsl, hX, ← hL] at hx0
  rw [hsi, e0, hX, ← hN] at hx1
  unfold ptr at u1 u2
  obtain ⟨ti, hti⟩ : ∃ x, x = t.i := ⟨_, rfl⟩
  obtain ⟨tj, htj⟩ : ∃ x, x = t.j := ⟨_, rfl⟩
  rw [← hti] at hiL f1 u1
  rw [← htj] at hjL f2 u2
  have HS : Hid (∀ w', Keeps (fun _ => False) w1 w' → (w'.cell? ⟨X, 1, none⟩ = some (.slice (some ⟨ib, 0, none⟩) N ic) ∧ w'.cell? ⟨ib, j * 3, none⟩ = some (.func (.func 54) #[] #[.pointer (some ⟨t.c, 0, none⟩), .pointer (some ⟨t.d, 0, none⟩)]) ∧ w'.cell? ⟨ib, j * 3 + 1, none⟩ = some (.int .i64 ti) ∧ w'.cell? ⟨ib, j * 3 + 2, none⟩ = some (.int .i64 tj) ∧ w'.cell? ⟨O, 5, none⟩ = some (.int .i64 c)) ∧
      w'.cell? ⟨X, 0, none⟩ = some (.slice (some ⟨lb, 0, none⟩) L lc) ∧ w'.cell? ⟨lb, ti * 2 + 1, none⟩ = some (.pointer (some ⟨p.rb, 0, none⟩)) ∧ w'.cell? ⟨lb, tj * 2 + 1, none⟩ = some (.pointer (some ⟨q.rb, 0, none⟩))) := by
    intro w' hK
    have hK' : Keeps (fun _ => False) w w' := hK01.trans hK fun _ _ e => e
    exact ⟨⟨cell_kept hx1 hK' (fun e => e), cell_kept f0 hK' (fun e => e), cell_kept f1 hK' (fun e => e), cell_kept f2 hK' (fun e => e), (hB1.kept hK (fun e => e)).cell rfl⟩, cell_kept hx0 hK' (fun e => e), cell_kept u1 hK' (fun e => e), cell_kept u2 hK' (fun e => e)⟩
  obtain ⟨D, hD, HCh⟩ := go_chain p q t.c t.d w (fun w' hK => by
    have H' := hH.quiet hK
    exact ⟨⟨(H'.mm (hR.mm _ p hp).1).1, (H'.rm (hR.mm _ p hp).2).1⟩, ⟨(H'.mm (hR.mm _ q hq).1).1, (H'.rm (hR.mm _ q hq).2).1⟩, (H'.blk ht1).1.cell rfl, (H'.blk ht2).1.cell rfl⟩)
  obtain ⟨Q, hQ⟩ : ∃ Q, Q = w1.heap.size := ⟨_, rfl⟩
  have HQ : Hid (Q = w1.heap.size) := hQ
  have hZ : Blk (w1.alloc (Obj.cells #[.nilFunc, .int .i64 0, .int .i64 0] 96)).drew Q [.nilFunc, .int .i64 0, .int .i64 0] 96 := by rw [hQ]; exact (Blk.new w1 _ 96).drew
  have HZ : Hid (Blk (w1.alloc (Obj.cells #[.nilFunc, .int .i64 0, .int .i64 0] 96)).drew Q [.nilFunc, .int .i64 0, .int .i64 0] 96) := hZ
  obtain ⟨w2, hw2⟩ : ∃ w2, w2 = (w1.alloc (Obj.cells #[.nilFunc, .int .i64 0, .int .i64 0] 96)).drew.setRow Q #[.func (.func 54) #[] #[.pointer (some ⟨t.c, 0, none⟩), .pointer (some ⟨t.d, 0, none⟩)], .int .i64 ti, .int .i64 tj] := ⟨_, rfl⟩
  have HW2 : Hid (_ = _) := hw2
  have hK12 : Keeps (fun _ => False) w1 w2 := by rw [hw2]; exact (((Keeps.refl _ w1).alloc _).drew).setRow _ _ (fun h => by omega)
  have HK12 : Hid (Keeps (fun _ => False) w1 w2) := hK12
  have HK02 : Hid (Keeps (fun _ => False) w w2) := hK01.trans hK12 fun _ _ e => e
  have hBq : Blk w2 Q [.func (.func 54) #[] #[.pointer (some ⟨t.c, 0, none⟩), .pointer (some ⟨t.d, 0, none⟩)], .int .i64 ti, .int .i64 tj] 96 := by rw [hw2]; exact hZ.setRow _
  have HB : Hid (∀ w', Keeps (fun _ => False) w2 w' → w'.cell? ⟨Q, 0, none⟩ = some (.func (.func 54) #[] #[.pointer (some ⟨t.c, 0, none⟩), .pointer (some ⟨t.d, 0, none⟩)]) ∧ w'.cell? ⟨Q, 1, none⟩ = some (.int .i64 ti) ∧ w'.cell? ⟨Q, 2, none⟩ = some (.int .i64 tj)) := fun w' hK => by
    have := hBq.kept hK (fun e => e)
    exact ⟨this.cell rfl, this.cell rfl, this.cell rfl⟩
  obtain ⟨⟨x1, x2, x3, x4, x5⟩, y0, y1, y2⟩ := HS.out w1 (Keeps.refl _ _)
  have k0 := hB1.cell (i := 0) rfl
  have x1w := x1
  have k0w := k0
  rw [hw1] at x1w k0w
  have HO : Hid (O = w.heap.size) := hO
  have HW1 : Hid (_ = _) := hw1
  have hwd : IntKind.i64.wrap ((D : Int) + 1) = (D : Int) + 1 := by rw [IntKind.wrap_i64]; omega
  clear h hH hR hS hX hr hsi hcn hI0 hN hNT hj ht hp hq ht1 ht2 hw1 hK01 hO hB1 v0 v1 v2 e0 f0 f1 f2 hL hsl hrl u1 u2 hx0 hx1 hti htj hQ hZ hw2 hK12 hBq hc
  go_enter Try.func11, Try.ntmps11
  go_wp2_with fail
  rw [← HO.out, ← HW1.out]
  clear x1w k0w
  refine wp_region_held_drew (S := fun w' => w'.cell? ⟨X, 1, none⟩ = some (.slice (some ⟨ib, 0, none⟩) N ic) ∧ w'.cell? ⟨ib, j * 3, none⟩ = some (.func (.func 54) #[] #[.pointer (some ⟨t.c, 0, none⟩), .pointer (some ⟨t.d, 0, none⟩)]) ∧ w'.cell? ⟨ib, j * 3 + 1, none⟩ = some (.int .i64 ti) ∧ w'.cell? ⟨ib, j * 3 + 2, none⟩ = some (.int .i64 tj) ∧ w'.cell? ⟨O, 5, none⟩ = some (.int .i64 c)) Try.mixed (HS.out _ ((Keeps.refl _ w1).drew)).1 (fun hHeld => ?_)
  simp only [List.size_toArray, List.length_cons, List.length_nil, Nat.reduceAdd, Array.replicate_succ, Array.replicate_zero, List.push_toArray, List.append_toArray, List.nil_append, List.cons_append]
  refine hk 0 (.pointer (some ⟨X, 0, none⟩)) hHeld ?_
  simp only [Act.put, List.setIfInBounds_toArray, List.set_cons_zero, List.set_cons_succ]
  refine hk 1 (.pointer (some ⟨X, 0, none⟩)) hHeld ?_
  simp only [Act.put, List.setIfInBounds_toArray, List.set_cons_zero, List.set_cons_succ]
  refine hk 2 (.pointer (some ⟨X, 1, none⟩)) hHeld ?_
  simp only [Act.put, List.setIfInBounds_toArray, List.set_cons_zero, List.set_cons_succ]
  refine hk 3 (.slice (some ⟨ib, 0, none⟩) N ic) hHeld ?_
  simp only [Act.put, List.setIfInBounds_toArray, List.set_cons_zero, List.set_cons_succ]
  refine hk 4 (.pointer (some ⟨O, 5, none⟩)) hHeld ?_
  simp only [Act.put, List.setIfInBounds_toArray, List.set_cons_zero, List.set_cons_succ]
  refine hk 5 (.int .i64 c) hHeld ?_
  simp only [Act.put, List.setIfInBounds_toArray, List.set_cons_zero, List.set_cons_succ]
  refine hk 6 (.pointer (some ⟨X, 0, none⟩)) hHeld ?_
  simp only [Act.put, List.setIfInBounds_toArray, List.set_cons_zero, List.set_cons_succ]
  refine hk 7 (.pointer (some ⟨X, 0, none⟩)) hHeld ?_
  simp only [Act.put, List.setIfInBounds_toArray, List.set_cons_zero, List.set_cons_succ]
  refine hk 8 (.pointer (some ⟨X, 1, none⟩)) hHeld ?_
  simp only [Act.put, List.setIfInBounds_toArray, List.set_cons_zero, List.set_cons_succ]
  refine hk 9 (.slice (some ⟨ib, 0, none⟩) N ic) hHeld ?_
  simp only [Act.put, List.setIfInBounds_toArray, List.set_cons_zero, List.set_cons_succ]
  refine hk 10 (.int .i64 (N : Int)) hHeld ?_
  simp only [Act.put, List.setIfInBounds_toArray, List.set_cons_zero, List.set_cons_succ]
  refine wpAnyH_ready (rs := [11, 14]) (by kernel_rfl) (by simp) ?_
  refine AllReadyH.cons rfl (fun Kq hK => ?_) (AllReadyH.cons rfl (fun Kq hK => ?_) AllReadyH.nil)
  focus
    go_simp
    refine (HP1.out _).mono ?_
    rintro e wx ⟨rfl, hwx⟩
    subst hwx
    refine hK.out _ _ (HS.out _ ((Keeps.refl _ w1).drew)).1 (fun hHeld => ?_)
    simp only [Act.put, List.setIfInBounds_toArray, List.set_cons_zero, List.set_cons_succ]
    refine hk 12 (.pointer (some ⟨ib, j * 3, none⟩)) hHeld ?_
    simp only [Act.put, List.setIfInBounds_toArray, List.set_cons_zero, List.set_cons_succ]
    refine hk 13 (.agg #[.func (.func 54) #[] #[.pointer (some ⟨t.c, 0, none⟩), .pointer (some ⟨t.d, 0, none⟩)], .int .i64 ti, .int .i64 tj]) hHeld ?_
    simp only [Act.put, List.setIfInBounds_toArray, List.set_cons_zero, List.set_cons_succ]
    refine wpAnyH_ready (rs := [14]) (by kernel_rfl) (by simp) ?_
    refine AllReadyH.cons rfl (fun Kq hK => ?_) AllReadyH.nil
    go_simp
    refine hK.out _ _ (HS.out _ (((Keeps.refl _ w1).alloc _).drew)).1 (fun hHeld => ?_)
    simp only [Act.put, List.setIfInBounds_toArray, List.set_cons_zero, List.set_cons_succ]
  rotate_left
  focus
    go_simp
    refine hK.out _ _ (HS.out _ (((Keeps.refl _ w1).alloc _).drew)).1 (fun hHeld => ?_)
    simp only [Act.put, List.setIfInBounds_toArray, List.set_cons_zero, List.set_cons_succ]
    refine wpAnyH_ready (rs := [11]) (by kernel_rfl) (by simp) ?_
    refine AllReadyH.cons rfl (fun Kq hK => ?_) AllReadyH.nil
    go_simp
    refine (HP1.out _).mono ?_
    rintro e wx ⟨rfl, hwx⟩
    subst hwx
    refine hK.out _ _ (HS.out _ (((Keeps.refl _ w1).alloc _).drew)).1 (fun hHeld => ?_)
    simp only [Act.put, List.setIfInBounds_toArray, List.set_cons_zero, List.set_cons_succ]
    refine hk 12 (.pointer (some ⟨ib, j * 3, none⟩)) hHeld ?_
    simp only [Act.put, List.setIfInBounds_toArray, List.set_cons_zero, List.set_cons_succ]
    refine hk 13 (.agg #[.func (.func 54) #[] #[.pointer (some ⟨t.c, 0, none⟩), .pointer (some ⟨t.d, 0, none⟩)], .int .i64 ti, .int .i64 tj]) hHeld ?_
    simp only [Act.put, List.setIfInBounds_toArray, List.set_cons_zero, List.set_cons_succ]
  all_goals
    refine wpAnyH_ready (rs := [15]) (by kernel_rfl) (by simp) ?_
    refine AllReadyH.cons rfl (fun Kq hK => ?_) AllReadyH.nil
    rw [if_pos (by rfl)]
    simp only [List.getElem_toArray, List.getElem_cons_succ, List.getElem_cons_zero]
    rw [← HQ.out]
    refine wp_store_row 96 (.tmp 7) (.tmp 77) rfl Q #[.func (.func 54) #[] #[.pointer (some ⟨t.c, 0, none⟩), .pointer (some ⟨t.d, 0, none⟩)], .int .i64 ti, .int .i64 tj] (by rfl) (by rfl) 96 _ HZ.out Try.size96 rfl (all96 ..) ?_
    rw [← HW2.out]
    refine hK.out _ _ (HS.out _ HK12.out).1 (fun hHeld => ?_)
    simp only [Act.put, List.setIfInBounds_toArray, List.set_cons_zero, List.set_cons_succ]
    refine wpAnyH_done (by kernel_rfl) ?_ _
    clear hHeld hK x1 x2 x3 x4 x5 y0 y1 y2 k0
    obtain ⟨-, y0, y1, y2⟩ := HS.out w2 HK12.out
    obtain ⟨q0, q1, q2⟩ := HB.out w2 (Keeps.refl _ _)
    go_wp2_with fail
    refine region_tail 18 (by kernel_rfl) ?_
    simp only [List.take_succ_cons, List.take_zero, List.drop_succ_cons, List.drop_zero]
    repeat still_step
    refine wpStill_nil ?_
    go_wp2_with fail
    refine (HCh.out _ (HK02.out.drewN 1)).mono ?_
    rintro e w3 ⟨wa, wc, rfl, hK3, hK13, C1⟩
    obtain ⟨r0, -, -⟩ := HB.out w3 (((Keeps.refl _ w2).drewN 1).trans hK13 fun _ _ e => e)
    clear hK3 hK13 y0 y1 y2 q0 q1 q2
    go_wp2_with fail
    refine (C1.out _ (Keeps.refl _ w3)).mono ?_
    rintro e w5 ⟨ya, yc, rfl, hK5, C2⟩
    clear C1 hK5 r0
    go_wp2_with fail
    refine (C2.out _ (Keeps.refl _ w5)).mono ?_
    rintro e w7 ⟨rfl, hK7⟩
    have HF : Hid (Game w0 w7 X T) := HG.out w7 hK7
    clear C2 hK7
    go_wp2
    go_ret
    exact ⟨rfl, HF.out⟩

end Go.Proofs.Ytljhdijledclhaa
