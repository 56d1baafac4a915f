import Derived.Test.YtljhdijledclhaaMl
namespace Go.Proofs.Ytljhdijledclhaa
open Go.RowKit
set_option linter.unusedVariables false
set_option linter.unusedSimpArgs false

set_option maxRecDepth 100000 in
set_option maxHeartbeats 4000000 in
theorem makes_10 (who oth a b c : Int) (W : Nat) (v : Value) (w0 w : World) (X T : Nat) (h : Game w0 w X T) (hwho : in64 who) :
    Calls Try.prog 8 #[.pointer (some ⟨X, 0, none⟩), .agg #[.int .i64 10, .int .i64 who, .int .i64 oth, .int .i64 a, .int .i64 b, .int .i64 c, .int .u32 W, v]] w fun e w' => e = .returned (.bool true) ∧ Game w0 w' X T := by
  obtain ⟨s, g, p, lb, lc, hk⟩ := h.wk (ocs 10 who oth a b c W v) who
  have HW : Hid (Wk w0 w X T (ocs 10 who oth a b c W v) s g (pk who g.P.length) p lb lc) := hk
  have c0 := hk.c0
  have c1 := hk.c1
  have c2 := hk.c2
  have m1 : (g.P.length : Int) ≤ 12 := by have := hk.sm.p12; omega
  have m2 : 0 < g.P.length := hk.sm.p1
  have hlt := pk_lt who g.P.length m2
  obtain ⟨L, hL⟩ : ∃ L, L = g.P.length := ⟨_, rfl⟩
  have HL : Hid (L = g.P.length) := hL
  rw [← hL] at c0 c1 c2 m1 m2 hlt
  obtain ⟨i, hi⟩ : ∃ i, i = pk who L := ⟨_, rfl⟩
  have HP : ∀ w, Calls _ _ _ w _ := fun w => pick_any who L w m2 (by omega) hwho.1 hwho.2
  rw [← hi] at c1 c2 hlt HP
  have HP : Hid (∀ w, _) := HP
  have HI : Hid (i = pk who L) := hi
  have hlt' : (i : Int) < L := by omega
  unfold ocs at c0 c1 c2
  unfold ptr at c1 c2
  clear h hk hwho hL hi
  -- PRE
  obtain ⟨O, hO⟩ : ∃ O, O = w.heap.size := ⟨_, rfl⟩
  have HO : Hid (O = w.heap.size) := hO
  have o1 : (w.alloc (.cells #[.int .i64 10, .int .i64 who, .int .i64 oth, .int .i64 a, .int .i64 b, .int .i64 c, .int .u32 W, v] 29)).cell? ⟨O, 1, none⟩ = some (.int .i64 who) := by rw [hO]; exact (Blk.new w _ 29).cell rfl
  go_enter Try.func8, Try.ntmps8
  go_wp2_with fail
  rw [← HO.out]
  obtain ⟨w1, hw1⟩ : ∃ w1, w1 = w.alloc (.cells #[.int .i64 10, .int .i64 who, .int .i64 oth, .int .i64 a, .int .i64 b, .int .i64 c, .int .u32 W, v] 29) := ⟨_, rfl⟩
  have HW1 : Hid (w1 = w.alloc (.cells #[.int .i64 10, .int .i64 who, .int .i64 oth, .int .i64 a, .int .i64 b, .int .i64 c, .int .u32 W, v] 29)) := hw1
  rw [← hw1]
  have hS0 : w1.drew.cell? ⟨X, 0, none⟩ = some (.slice (some ⟨lb, 0, none⟩) L lc) ∧ w1.drew.cell? ⟨O, 1, none⟩ = some (.int .i64 who) ∧ w1.drew.cell? ⟨lb, i * 2, none⟩ = some (.pointer (some ⟨p.b, 0, none⟩)) ∧ w1.drew.cell? ⟨lb, i * 2 + 1, none⟩ = some (.pointer (some ⟨p.rb, 0, none⟩)) := by
    rw [hw1]; exact ⟨c0, o1, c1, c2⟩
  have hSz : (w1.alloc (Obj.cells #[Value.pointer none, Value.pointer none] 85)).drew.cell? ⟨X, 0, none⟩ = some (.slice (some ⟨lb, 0, none⟩) L lc) ∧ (w1.alloc (Obj.cells #[Value.pointer none, Value.pointer none] 85)).drew.cell? ⟨O, 1, none⟩ = some (.int .i64 who) ∧ (w1.alloc (Obj.cells #[Value.pointer none, Value.pointer none] 85)).drew.cell? ⟨lb, i * 2, none⟩ = some (.pointer (some ⟨p.b, 0, none⟩)) ∧ (w1.alloc (Obj.cells #[Value.pointer none, Value.pointer none] 85)).drew.cell? ⟨lb, i * 2 + 1, none⟩ = some (.pointer (some ⟨p.rb, 0, none⟩)) := by
    have hKz : Keeps (fun _ => False) w1.drew (w1.alloc (Obj.cells #[Value.pointer none, Value.pointer none] 85)).drew := (((Keeps.refl (fun _ => False) w1.drew).alloc _))
    exact ⟨cell_kept hS0.1 hKz (fun e => e), cell_kept hS0.2.1 hKz (fun e => e), cell_kept hS0.2.2.1 hKz (fun e => e), cell_kept hS0.2.2.2 hKz (fun e => e)⟩
  obtain ⟨Q, hQ⟩ : ∃ Q, Q = w1.heap.size := ⟨_, rfl⟩
  obtain ⟨w2, hw2⟩ : ∃ w2, w2 = (w1.alloc (Obj.cells #[.pointer (some ⟨p.b, 0, none⟩), .pointer (some ⟨p.rb, 0, none⟩)] 85)).drew := ⟨_, rfl⟩
  have HQ : Hid (w2 = (w1.alloc (Obj.cells #[.pointer (some ⟨p.b, 0, none⟩), .pointer (some ⟨p.rb, 0, none⟩)] 85)).drew) := hw2
  have HSf : Hid (w2.cell? ⟨X, 0, none⟩ = some (.slice (some ⟨lb, 0, none⟩) L lc) ∧ w2.cell? ⟨O, 1, none⟩ = some (.int .i64 who) ∧ w2.cell? ⟨lb, i * 2, none⟩ = some (.pointer (some ⟨p.b, 0, none⟩)) ∧ w2.cell? ⟨lb, i * 2 + 1, none⟩ = some (.pointer (some ⟨p.rb, 0, none⟩))) := by
    have hKz : Keeps (fun _ => False) w1.drew w2 := by rw [hw2]; exact (Keeps.refl (fun _ => False) w1.drew).alloc _
    exact ⟨cell_kept hS0.1 hKz (fun e => e), cell_kept hS0.2.1 hKz (fun e => e), cell_kept hS0.2.2.1 hKz (fun e => e), cell_kept hS0.2.2.2 hKz (fun e => e)⟩
  have hHw := HW.out.h2
  have hKw : Keeps (fun _ => False) ((w.alloc (.cells (ocs 10 who oth a b c W v).toArray 29)).alloc (.cells #[ptr p.b, ptr p.rb] 85)) w2 := by
    rw [hw2, hw1]; exact (Keeps.refl _ _).drew
  have H2 := hHw.quiet hKw
  have o0 := (H2.blk (o := (21, 0)) (by rw [upd_ne _ _ _ _ (by simp), upd_self])).1
  have q0 := (H2.blk (o := (22, 0)) (upd_self _ _ _)).1
  have hz : w1.heap.size = w.heap.size + 1 := by rw [hw1, World.size_alloc]
  rw [← hO] at o0
  rw [← hz, ← hQ] at q0
  unfold ocs at o0
  unfold ptr at q0
  have k0 := o0.cell (i := 0) rfl
  have k1 := o0.cell (i := 1) rfl
  have k3 := o0.cell (i := 3) rfl
  have k4 := o0.cell (i := 4) rfl
  have k5 := o0.cell (i := 5) rfl
  have k6 := o0.cell (i := 6) rfl
  have k7 := o0.cell (i := 7) rfl
  have j0 := q0.cell (i := 0) rfl
  have j1 := q0.cell (i := 1) rfl
  obtain ⟨S2, g1, g2, g3, g4⟩ := HW.out.open hKw
  have hch := clone_chain g1 g2 HW.out.sm HW.out.x HW.out.hp g4
  rw [← hz, ← hQ] at hch
  unfold ptr at hch
  have HQ1 : Hid (Q = w1.heap.size) := hQ
  clear hQ hw1 c0 c1 c2 o1 hO hw2 hHw hKw H2 o0 q0 hz g1 g2 g3 g4
  refine wp_region_held_drew (S := fun w' => w'.cell? ⟨X, 0, none⟩ = some (.slice (some ⟨lb, 0, none⟩) L lc) ∧ w'.cell? ⟨O, 1, none⟩ = some (.int .i64 who) ∧ w'.cell? ⟨lb, i * 2, none⟩ = some (.pointer (some ⟨p.b, 0, none⟩)) ∧ w'.cell? ⟨lb, i * 2 + 1, none⟩ = some (.pointer (some ⟨p.rb, 0, none⟩))) Try.mixed hS0 (fun hHeld => ?_)
  simp only [List.size_toArray, List.length_cons, List.length_nil, Nat.reduceAdd, Array.replicate_succ, Array.replicate_zero, List.push_toArray, List.append_toArray, List.nil_append, List.cons_append]
  refine hk 0 (.pointer (some ⟨X, 0, none⟩)) hHeld ?_
  simp only [Act.put, List.setIfInBounds_toArray, List.set_cons_zero, List.set_cons_succ]
  refine hk 1 (.pointer (some ⟨X, 0, none⟩)) hHeld ?_
  simp only [Act.put, List.setIfInBounds_toArray, List.set_cons_zero, List.set_cons_succ]
  refine hk 2 (.pointer (some ⟨X, 0, none⟩)) hHeld ?_
  simp only [Act.put, List.setIfInBounds_toArray, List.set_cons_zero, List.set_cons_succ]
  refine hk 3 (.slice (some ⟨lb, 0, none⟩) L lc) hHeld ?_
  simp only [Act.put, List.setIfInBounds_toArray, List.set_cons_zero, List.set_cons_succ]
  refine hk 4 (.pointer (some ⟨O, 1, none⟩)) hHeld ?_
  simp only [Act.put, List.setIfInBounds_toArray, List.set_cons_zero, List.set_cons_succ]
  refine hk 5 (.int .i64 who) hHeld ?_
  simp only [Act.put, List.setIfInBounds_toArray, List.set_cons_zero, List.set_cons_succ]
  refine hk 6 (.pointer (some ⟨X, 0, none⟩)) hHeld ?_
  simp only [Act.put, List.setIfInBounds_toArray, List.set_cons_zero, List.set_cons_succ]
  refine hk 7 (.pointer (some ⟨X, 0, none⟩)) hHeld ?_
  simp only [Act.put, List.setIfInBounds_toArray, List.set_cons_zero, List.set_cons_succ]
  refine hk 8 (.pointer (some ⟨X, 0, none⟩)) hHeld ?_
  simp only [Act.put, List.setIfInBounds_toArray, List.set_cons_zero, List.set_cons_succ]
  refine hk 9 (.slice (some ⟨lb, 0, none⟩) L lc) hHeld ?_
  simp only [Act.put, List.setIfInBounds_toArray, List.set_cons_zero, List.set_cons_succ]
  refine hk 10 (.int .i64 (L : Int)) hHeld ?_
  simp only [Act.put, List.setIfInBounds_toArray, List.set_cons_zero, List.set_cons_succ]
  refine wpAnyH_ready (rs := [11, 14]) (by kernel_rfl) (by simp) ?_
  refine AllReadyH.cons rfl (fun Kq hK => ?_) (AllReadyH.cons rfl (fun Kq hK => ?_) AllReadyH.nil)
  focus
    go_simp
    refine (HP.out _).mono ?_
    rintro e w2 ⟨rfl, hw2⟩
    subst hw2
    refine hK.out _ _ hS0 (fun hHeld => ?_)
    simp only [Act.put, List.setIfInBounds_toArray, List.set_cons_zero, List.set_cons_succ]
    refine hk 12 (.pointer (some ⟨lb, i * 2, none⟩)) hHeld ?_
    simp only [Act.put, List.setIfInBounds_toArray, List.set_cons_zero, List.set_cons_succ]
    refine hk 13 (.agg #[.pointer (some ⟨p.b, 0, none⟩), .pointer (some ⟨p.rb, 0, none⟩)]) hHeld ?_
    simp only [Act.put, List.setIfInBounds_toArray, List.set_cons_zero, List.set_cons_succ]
    refine wpAnyH_ready (rs := [14]) (by kernel_rfl) (by simp) ?_
    refine AllReadyH.cons rfl (fun Kq hK => ?_) AllReadyH.nil
    go_simp
    refine hK.out _ _ hSz (fun hHeld => ?_)
    simp only [Act.put, List.setIfInBounds_toArray, List.set_cons_zero, List.set_cons_succ]
  rotate_left
  focus
    go_simp
    refine hK.out _ _ hSz (fun hHeld => ?_)
    simp only [Act.put, List.setIfInBounds_toArray, List.set_cons_zero, List.set_cons_succ]
    refine wpAnyH_ready (rs := [11]) (by kernel_rfl) (by simp) ?_
    refine AllReadyH.cons rfl (fun Kq hK => ?_) AllReadyH.nil
    go_simp
    refine (HP.out _).mono ?_
    rintro e w2 ⟨rfl, hw2⟩
    subst hw2
    refine hK.out _ _ hSz (fun hHeld => ?_)
    simp only [Act.put, List.setIfInBounds_toArray, List.set_cons_zero, List.set_cons_succ]
    refine hk 12 (.pointer (some ⟨lb, i * 2, none⟩)) hHeld ?_
    simp only [Act.put, List.setIfInBounds_toArray, List.set_cons_zero, List.set_cons_succ]
    refine hk 13 (.agg #[.pointer (some ⟨p.b, 0, none⟩), .pointer (some ⟨p.rb, 0, none⟩)]) hHeld ?_
    simp only [Act.put, List.setIfInBounds_toArray, List.set_cons_zero, List.set_cons_succ]
  all_goals
    refine wpAnyH_ready (rs := [15]) (by kernel_rfl) (by simp) ?_
    refine AllReadyH.cons rfl (fun Kq hK => ?_) AllReadyH.nil
    go_simp
    rw [← HQ.out, ← HQ1.out]
    refine hK.out _ _ HSf.out (fun hHeld => ?_)
    simp only [Act.put, List.setIfInBounds_toArray, List.set_cons_zero, List.set_cons_succ]
    refine wpAnyH_done (by kernel_rfl) ?_ _
    clear hHeld hK hS0 hSz
    go_wp2_with fail
    refine hch.out.mono ?_
    rintro e w3 ⟨B, rfl, q3, C1⟩
    have j0a := q3.cell (i := 0) rfl
    have j1a := q3.cell (i := 1) rfl
    clear hch q3 k0 k1 k3 k4 k5 k6 k7 j0 j1
    go_wp2_with fail
    refine (C1.out _ (Keeps.refl _ w3)).mono ?_
    rintro e w4 ⟨rB, rfl, C2⟩
    clear C1 j0a j1a
    go_wp2_with fail
    refine C2.out.mono ?_
    rintro e w5 ⟨rfl, hG⟩
    have HF : Hid (Game w0 w5 X T) := hG
    clear C2 hG
    go_wp2
    go_ret
    exact ⟨rfl, HF.out⟩

end Go.Proofs.Ytljhdijledclhaa
