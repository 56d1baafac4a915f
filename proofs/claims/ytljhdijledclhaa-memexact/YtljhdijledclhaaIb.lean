import Derived.Test.YtljhdijledclhaaIa
namespace Go.Proofs.Ytljhdijledclhaa
open Go.RowKit
set_option linter.unusedVariables false
set_option linter.unusedSimpArgs false

set_option maxRecDepth 100000 in
set_option maxHeartbeats 8000000 in
theorem iterators_13 (who oth a b c : Int) (W : Nat) (v : Value) (w0 w : World) (X T : Nat) (h : Game w0 w X T) (hwho : in64 who) (hoth : in64 oth) (hT : T ≤ 8589934592) :
    Calls Try.prog 11 #[.pointer (some ⟨X, 0, none⟩), .agg #[.int .i64 13, .int .i64 who, .int .i64 oth, .int .i64 a, .int .i64 b, .int .i64 c, .int .u32 W, v]] w fun e w' => e = .returned (.bool true) ∧ Game w0 w' X (T + 1) := by
  obtain ⟨s, g, hH, hR, hS, hX⟩ := h.out
  obtain ⟨w1, hw1⟩ : ∃ w1, w1 = w.alloc (.cells #[.int .i64 13, .int .i64 who, .int .i64 oth, .int .i64 a, .int .i64 b, .int .i64 c, .int .u32 W, v] 29) := ⟨_, rfl⟩
  have hK : Keeps (fun _ => False) w w1 := by rw [hw1]; exact (Keeps.refl _ w).alloc _
  obtain ⟨O, hO⟩ : ∃ O, O = w.heap.size := ⟨_, rfl⟩
  have H1 := hH.newBlk (w' := w1) (b := O) (l := [.int .i64 13, .int .i64 who, .int .i64 oth, .int .i64 a, .int .i64 b, .int .i64 c, .int .u32 W, v]) (21, 0) (by rw [hO, hw1]; exact Blk.new w _ 29) (by omega) hK
  have R1 := hR.other 21 0 (by omega) (.blk O [.int .i64 13, .int .i64 who, .int .i64 oth, .int .i64 a, .int .i64 b, .int .i64 c, .int .u32 W, v] 29)
  have o1 := (H1.blk (upd_self _ _ _)).1
  have hP1 := hS.p1
  have hP12 := hS.p12
  obtain ⟨L, hL⟩ : ∃ L, L = g.P.length := ⟨_, rfl⟩
  rw [← hL] at hP1 hP12
  have hLi : (L : Int) ≤ 12 := by omega
  obtain ⟨i, hi⟩ : ∃ i, i = pk who L := ⟨_, rfl⟩
  obtain ⟨j, hj⟩ : ∃ j, j = pk oth L := ⟨_, rfl⟩
  have hil : i < L := by rw [hi]; exact pk_lt who L hP1
  have hjl : j < L := by rw [hj]; exact pk_lt oth L hP1
  have hil' : (i : Int) < L := by omega
  have hjl' : (j : Int) < L := by omega
  obtain ⟨p, hp⟩ : ∃ p, g.P[i]? = some p := ⟨_, List.getElem?_eq_getElem (by omega)⟩
  obtain ⟨q, hq⟩ : ∃ p, g.P[j]? = some p := ⟨_, List.getElem?_eq_getElem (by omega)⟩
  have HP1 : Hid (∀ w, Calls Try.prog 15 #[.int .i64 who, .int .i64 L] w fun e w' => e = .returned (.int .i64 (i : Nat)) ∧ w' = w) := fun w => by rw [hi]; exact pick_any who L w hP1 (by omega) hwho.1 hwho.2
  have HP2 : Hid (∀ w, Calls Try.prog 15 #[.int .i64 oth, .int .i64 L] w fun e w' => e = .returned (.int .i64 (j : Nat)) ∧ w' = w) := fun w => by rw [hj]; exact pick_any oth L w hP1 (by omega) hoth.1 hoth.2
  obtain ⟨lb, lc, hsl⟩ : ∃ lb lc, g.sl = .slice (some ⟨lb, 0, none⟩) g.P.length lc := by
    have hr := (hH.row hR.rl).1
    obtain ⟨la, lc, hsl, -, -⟩ := owns_slice hr
    rw [hsl] at hr
    obtain ⟨lb, e1, -⟩ := owns_cellK hr (pvs_get g.P i p hp).1
    exact ⟨lb, lc, by rw [hsl, e1]⟩
  have HS : Hid (∀ w', Keeps (fun _ => False) w1 w' → (w'.cell? ⟨X, 0, none⟩ = some (.slice (some ⟨lb, 0, none⟩) L lc) ∧ w'.cell? ⟨lb, i * 2, none⟩ = some (.pointer (some ⟨p.b, 0, none⟩)) ∧ w'.cell? ⟨lb, j * 2, none⟩ = some (.pointer (some ⟨q.b, 0, none⟩))) ∧ w'.cell? ⟨O, 1, none⟩ = some (.int .i64 who) ∧ w'.cell? ⟨O, 2, none⟩ = some (.int .i64 oth)) := by
    intro w' hK'
    have H' := H1.quiet hK'
    have x1 := R1.x
    have x2 := R1.rl
    rw [hsl, hX] at x1
    rw [hsl] at x2
    have o' := o1.kept hK' (fun e => e)
    have := H'.s4 x1 x2 hp hq
    rw [hL]
    exact ⟨this, o'.cell rfl, o'.cell rfl⟩
  have HCh : Hid (∀ w', Keeps (fun _ => False) w1 w' → _) := fun w' hK' => it_chain (w := w') (H1.quiet hK') R1 hS hX hT hp hq hsl
  rw [← hL] at HCh
  have HO : Hid (O = w.heap.size) := hO
  have HW1 : Hid (_ = _) := hw1
  obtain ⟨⟨x0, x1, x2⟩, x3, x4⟩ := HS.out w1 (Keeps.refl _ _)
  clear h hH hR hS hX hK H1 R1 o1 hP1 hP12 hL hi hj hp hq hsl hwho hoth hT hw1 hO
  unfold ptr at HCh
  go_enter Try.func11, Try.ntmps11
  go_wp2_with fail
  rw [← HO.out, ← HW1.out]
  refine region_tail 7 (by kernel_rfl) ?_
  simp only [List.take_succ_cons, List.take_zero, List.drop_succ_cons, List.drop_zero]
  repeat still_step
  refine wpStill_nil ?_
  go_wp2_with fail
  refine (HP1.out _).mono ?_
  rintro e wx ⟨rfl, hwx⟩
  subst hwx
  obtain ⟨w2, hw2⟩ : ∃ w2, w2 = w1.drewN 1 := ⟨_, rfl⟩
  have HW2 : Hid (w2 = w1.drewN 1) := hw2
  have HK2 : Hid (Keeps (fun _ => False) w1 w2) := by rw [hw2]; exact (Keeps.refl _ w1).drewN 1
  rw [← hw2]
  obtain ⟨⟨y0, y1, y2⟩, y3, y4⟩ := HS.out w2 HK2.out
  clear hw2 x0 x1 x2 x3 x4
  go_wp2_with fail
  refine region_tail 7 (by kernel_rfl) ?_
  simp only [List.take_succ_cons, List.take_zero, List.drop_succ_cons, List.drop_zero]
  repeat still_step
  refine wpStill_nil ?_
  go_wp2_with fail
  refine (HP2.out _).mono ?_
  rintro e wx ⟨rfl, hwx⟩
  subst hwx
  obtain ⟨w3, hw3⟩ : ∃ w3, w3 = w2.drewN 1 := ⟨_, rfl⟩
  have HW3 : Hid (w3 = w2.drewN 1) := hw3
  have HK3 : Hid (Keeps (fun _ => False) w1 w3) := by rw [hw3]; exact HK2.out.drewN 1
  rw [← hw3]
  clear hw3 y0 y1 y2 y3 y4
  obtain ⟨ia, ia', n, ic, ic', W4, d0, d1, d2, hap, d3, d4, S4, S5, hG⟩ := HCh.out w3.drew HK3.out.drew
  obtain ⟨W0, hW0⟩ : ∃ W0, W0 = w3.drew := ⟨_, rfl⟩
  have HW0 : Hid (W0 = w3.drew) := hW0
  have k0 : Keeps (fun _ => False) w1 W0 := by rw [hW0]; exact HK3.out.drew
  rw [← hW0] at d0 d1 d2 hap
  obtain ⟨C, hC⟩ : ∃ C, C = W0.heap.size := ⟨_, rfl⟩
  have HC : Hid (C = W0.heap.size) := hC
  rw [← hC] at hap d2
  obtain ⟨W2, hW2⟩ : ∃ W2, W2 = (W0.alloc (.cells #[.pointer (some ⟨p.b, 0, none⟩)] 42)).alloc (.cells #[.pointer (some ⟨q.b, 0, none⟩)] 42) := ⟨_, rfl⟩
  have k2 : Keeps (fun _ => False) w1 W2 := by rw [hW2]; exact (k0.alloc _).alloc _
  have z2 : W2.heap.size = C + 2 := by rw [hW2, World.size_alloc, World.size_alloc, hC]
  have HD : Hid (Calls Try.prog 22 #[.pointer (some ⟨p.b, 0, none⟩), .pointer (some ⟨q.b, 0, none⟩)] W0 fun e w' => e = .returned (.func (.func 54) #[] #[.pointer (some ⟨C, 0, none⟩), .pointer (some ⟨C + 1, 0, none⟩)]) ∧ w' = W2) := by
    rw [hC, hW2]; exact differ_any _ _ W0
  rw [← hW2] at d1 d2 hap
  rw [← z2] at hap
  obtain ⟨W3, hW3⟩ : ∃ W3, W3 = W2.alloc (.cells #[.func (.func 54) #[] #[.pointer (some ⟨C, 0, none⟩), .pointer (some ⟨C + 1, 0, none⟩)], .int .i64 i, .int .i64 j] 96) := ⟨_, rfl⟩
  have HW3a : Hid (W3 = W2.alloc (.cells #[.func (.func 54) #[] #[.pointer (some ⟨C, 0, none⟩), .pointer (some ⟨C + 1, 0, none⟩)], .int .i64 i, .int .i64 j] 96)) := hW3
  have k3 : Keeps (fun _ => False) w1 W3 := by rw [hW3]; exact k2.alloc _
  rw [← hW3] at hap d2
  have HF : Hid (Game w0 _ X (T + 1)) := hG
  have HAP : Hid (∀ ty, _) := hap
  have S0' : Hid _ := (HS.out _ k0).1
  have S2' : Hid _ := (HS.out _ k2).1
  have S3' : Hid _ := (HS.out _ k3).1
  have S4' : Hid _ := S4
  have S5' : Hid _ := S5
  have D0 : Hid _ := d0
  have D1 : Hid _ := d1
  have D2 : Hid _ := d2
  clear hG hap S4 S5 hW0 k0 hC hW2 k2 z2 hW3 k3 d0 d1 d2
  go_wp2_with fail
  refine wp_region_held_drew (S := fun w' => w'.cell? ⟨X, 0, none⟩ = some (.slice (some ⟨lb, 0, none⟩) L lc) ∧ w'.cell? ⟨lb, i * 2, none⟩ = some (.pointer (some ⟨p.b, 0, none⟩)) ∧ w'.cell? ⟨lb, j * 2, none⟩ = some (.pointer (some ⟨q.b, 0, none⟩))) Try.mixed (by rw [← HW0.out]; exact S0'.out) (fun hHeld => ?_)
  simp only [List.size_toArray, List.length_cons, List.length_nil, Nat.reduceAdd, Array.replicate_succ, Array.replicate_zero, List.push_toArray, List.append_toArray, List.nil_append, List.cons_append]
  rw [← HW0.out] at hHeld ⊢
  refine hk 0 (.pointer (some ⟨X, 0, none⟩)) hHeld ?_
  simp only [Act.put, List.setIfInBounds_toArray, List.set_cons_zero, List.set_cons_succ]
  refine hk 1 (.pointer (some ⟨X, 0, none⟩)) hHeld ?_
  simp only [Act.put, List.setIfInBounds_toArray, List.set_cons_zero, List.set_cons_succ]
  refine hk 2 (.pointer (some ⟨X, 0, none⟩)) hHeld ?_
  simp only [Act.put, List.setIfInBounds_toArray, List.set_cons_zero, List.set_cons_succ]
  refine hk 3 (.pointer (some ⟨X, 1, none⟩)) hHeld ?_
  simp only [Act.put, List.setIfInBounds_toArray, List.set_cons_zero, List.set_cons_succ]
  refine hk 5 (.pointer (some ⟨X, 0, none⟩)) hHeld ?_
  simp only [Act.put, List.setIfInBounds_toArray, List.set_cons_zero, List.set_cons_succ]
  refine hk 6 (.pointer (some ⟨X, 0, none⟩)) hHeld ?_
  simp only [Act.put, List.setIfInBounds_toArray, List.set_cons_zero, List.set_cons_succ]
  refine hk 7 (.pointer (some ⟨X, 0, none⟩)) hHeld ?_
  simp only [Act.put, List.setIfInBounds_toArray, List.set_cons_zero, List.set_cons_succ]
  refine hk 8 (.slice (some ⟨lb, 0, none⟩) L lc) hHeld ?_
  simp only [Act.put, List.setIfInBounds_toArray, List.set_cons_zero, List.set_cons_succ]
  refine hk 9 (.int .i64 (i : Int)) hHeld ?_
  simp only [Act.put, List.setIfInBounds_toArray, List.set_cons_zero, List.set_cons_succ]
  refine hk 10 (.pointer (some ⟨lb, i * 2, none⟩)) hHeld ?_
  simp only [Act.put, List.setIfInBounds_toArray, List.set_cons_zero, List.set_cons_succ]
  refine hk 11 (.pointer (some ⟨lb, i * 2, none⟩)) hHeld ?_
  simp only [Act.put, List.setIfInBounds_toArray, List.set_cons_zero, List.set_cons_succ]
  refine hk 12 (.pointer (some ⟨p.b, 0, none⟩)) hHeld ?_
  simp only [Act.put, List.setIfInBounds_toArray, List.set_cons_zero, List.set_cons_succ]
  refine hk 13 (.pointer (some ⟨X, 0, none⟩)) hHeld ?_
  simp only [Act.put, List.setIfInBounds_toArray, List.set_cons_zero, List.set_cons_succ]
  refine hk 14 (.pointer (some ⟨X, 0, none⟩)) hHeld ?_
  simp only [Act.put, List.setIfInBounds_toArray, List.set_cons_zero, List.set_cons_succ]
  refine hk 15 (.pointer (some ⟨X, 0, none⟩)) hHeld ?_
  simp only [Act.put, List.setIfInBounds_toArray, List.set_cons_zero, List.set_cons_succ]
  refine hk 16 (.slice (some ⟨lb, 0, none⟩) L lc) hHeld ?_
  simp only [Act.put, List.setIfInBounds_toArray, List.set_cons_zero, List.set_cons_succ]
  refine hk 17 (.int .i64 (j : Int)) hHeld ?_
  simp only [Act.put, List.setIfInBounds_toArray, List.set_cons_zero, List.set_cons_succ]
  refine hk 18 (.pointer (some ⟨lb, j * 2, none⟩)) hHeld ?_
  simp only [Act.put, List.setIfInBounds_toArray, List.set_cons_zero, List.set_cons_succ]
  refine hk 19 (.pointer (some ⟨lb, j * 2, none⟩)) hHeld ?_
  simp only [Act.put, List.setIfInBounds_toArray, List.set_cons_zero, List.set_cons_succ]
  refine hk 20 (.pointer (some ⟨q.b, 0, none⟩)) hHeld ?_
  simp only [Act.put, List.setIfInBounds_toArray, List.set_cons_zero, List.set_cons_succ]
  refine hk 22 (.int .i64 (i : Int)) hHeld ?_
  simp only [Act.put, List.setIfInBounds_toArray, List.set_cons_zero, List.set_cons_succ]
  refine hk 23 (.int .i64 (j : Int)) hHeld ?_
  simp only [Act.put, List.setIfInBounds_toArray, List.set_cons_zero, List.set_cons_succ]
  refine wpAnyH_ready (rs := [4, 21]) (by kernel_rfl) (by simp) ?_
  refine AllReadyH.cons rfl (fun Kq hK => ?_) (AllReadyH.cons rfl (fun Kq hK => ?_) AllReadyH.nil)
  focus
    have d9 := D0.out
    go_simp
    refine hK.out _ _ S0'.out (fun hHeld => ?_)
    simp only [Act.put, List.setIfInBounds_toArray, List.set_cons_zero, List.set_cons_succ]
    clear d9
    refine wpAnyH_ready (rs := [21]) (by kernel_rfl) (by simp) ?_
    refine AllReadyH.cons rfl (fun Kq hK => ?_) AllReadyH.nil
    go_simp
    refine HD.out.mono ?_
    rintro e wy ⟨rfl, hwy⟩
    subst wy
    refine hK.out _ _ S2'.out (fun hHeld => ?_)
    simp only [Act.put, List.setIfInBounds_toArray, List.set_cons_zero, List.set_cons_succ]
    refine hk 24 (.agg #[.func (.func 54) #[] #[.pointer (some ⟨C, 0, none⟩), .pointer (some ⟨C + 1, 0, none⟩)], .int .i64 (i : Int), .int .i64 (j : Int)]) hHeld ?_
    simp only [Act.put, List.setIfInBounds_toArray, List.set_cons_zero, List.set_cons_succ]
    refine wpAnyH_ready (rs := [25]) (by kernel_rfl) (by simp) ?_
    refine AllReadyH.cons rfl (fun Kq hK => ?_) AllReadyH.nil
    go_simp
    rw [← HW3a.out]
    refine hK.out _ _ S3'.out (fun hHeld => ?_)
    simp only [Act.put, List.setIfInBounds_toArray, List.set_cons_zero, List.set_cons_succ]
  rotate_left
  focus
    go_simp
    refine HD.out.mono ?_
    rintro e wy ⟨rfl, hwy⟩
    subst wy
    refine hK.out _ _ S2'.out (fun hHeld => ?_)
    simp only [Act.put, List.setIfInBounds_toArray, List.set_cons_zero, List.set_cons_succ]
    refine hk 24 (.agg #[.func (.func 54) #[] #[.pointer (some ⟨C, 0, none⟩), .pointer (some ⟨C + 1, 0, none⟩)], .int .i64 (i : Int), .int .i64 (j : Int)]) hHeld ?_
    simp only [Act.put, List.setIfInBounds_toArray, List.set_cons_zero, List.set_cons_succ]
    refine wpAnyH_ready (rs := [4, 25]) (by kernel_rfl) (by simp) ?_
    refine AllReadyH.cons rfl (fun Kq hK => ?_) (AllReadyH.cons rfl (fun Kq hK => ?_) AllReadyH.nil)
    focus
      have d9 := D1.out
      go_simp
      refine hK.out _ _ S2'.out (fun hHeld => ?_)
      simp only [Act.put, List.setIfInBounds_toArray, List.set_cons_zero, List.set_cons_succ]
      clear d9
      refine wpAnyH_ready (rs := [25]) (by kernel_rfl) (by simp) ?_
      refine AllReadyH.cons rfl (fun Kq hK => ?_) AllReadyH.nil
      go_simp
      rw [← HW3a.out]
      refine hK.out _ _ S3'.out (fun hHeld => ?_)
      simp only [Act.put, List.setIfInBounds_toArray, List.set_cons_zero, List.set_cons_succ]
    rotate_left
    focus
      go_simp
      rw [← HW3a.out]
      refine hK.out _ _ S3'.out (fun hHeld => ?_)
      simp only [Act.put, List.setIfInBounds_toArray, List.set_cons_zero, List.set_cons_succ]
      refine wpAnyH_ready (rs := [4]) (by kernel_rfl) (by simp) ?_
      refine AllReadyH.cons rfl (fun Kq hK => ?_) AllReadyH.nil
      have d9 := D2.out
      go_simp
      refine hK.out _ _ S3'.out (fun hHeld => ?_)
      simp only [Act.put, List.setIfInBounds_toArray, List.set_cons_zero, List.set_cons_succ]
      clear d9
  all_goals
    refine wpAnyH_ready (rs := [26]) (by kernel_rfl) (by simp) ?_
    refine AllReadyH.cons rfl (fun Kq hK => ?_) AllReadyH.nil
    rw [if_pos (by rfl)]
    simp only [List.getElem_toArray, List.getElem_cons_succ, List.getElem_cons_zero]
    refine wp_append_run (.tmp 33) (.tmp 54) 33 33 rfl (.slice ia n ic) (.slice (some ⟨W2.heap.size, 0, none⟩) 1 1) (.slice ia' (n + 1) ic') W4 rfl rfl HAP.out ?_
    refine hK.out _ _ S4'.out (fun hHeld => ?_)
    simp only [Act.put, List.setIfInBounds_toArray, List.set_cons_zero, List.set_cons_succ]
    refine hk 27 (.pointer (some ⟨X, 0, none⟩)) hHeld ?_
    simp only [Act.put, List.setIfInBounds_toArray, List.set_cons_zero, List.set_cons_succ]
    refine hk 28 (.pointer (some ⟨X, 1, none⟩)) hHeld ?_
    simp only [Act.put, List.setIfInBounds_toArray, List.set_cons_zero, List.set_cons_succ]
    refine wpAnyH_ready (rs := [29]) (by kernel_rfl) (by simp) ?_
    refine AllReadyH.cons rfl (fun Kq hK => ?_) AllReadyH.nil
    go_simp
    refine hK.out _ _ S5'.out (fun hHeld => ?_)
    simp only [Act.put, List.setIfInBounds_toArray, List.set_cons_zero, List.set_cons_succ]
    refine wpAnyH_done (by kernel_rfl) ?_ _
    clear hHeld hK
    go_wp2
    go_ret
    exact ⟨rfl, HF.out⟩

end Go.Proofs.Ytljhdijledclhaa
