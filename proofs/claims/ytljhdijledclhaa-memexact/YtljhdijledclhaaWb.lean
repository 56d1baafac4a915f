import Derived.Test.YtljhdijledclhaaWa
namespace Go.Proofs.Ytljhdijledclhaa
open Go.RowKit
set_option linter.unusedVariables false
set_option linter.unusedSimpArgs false

theorem Wk.step1 {w0 w w2 w3 : World} {X T : Nat} {oc : List Value} {s : Nat × Nat → Ob} {g : GS} {i : Nat} {p : Pr} {lb lc : Nat} {xs' : List UInt32} (h : Wk w0 w X T oc s g i p lb lc)
    (hK : Keeps (fun _ => False) ((w.alloc (.cells oc.toArray 29)).alloc (.cells #[ptr p.b, ptr p.rb] 85)) w2) (hm : Mm w3 p.b p.g xs') (hK3 : Keeps (· = p.g) w2 w3) :
    Blk w3 w.heap.size oc 29 ∧ Blk w3 (w.heap.size + 1) [ptr p.b, ptr p.rb] 85 ∧ Rm w3 p.rb p.rg p.xs ∧ ∀ w4, Rm w4 p.rb p.rg xs' → Keeps (· = p.rg) w3 w4 → xs'.length = p.xs.length → Game w0 w4 X (T + 2) := by
  have H2 := h.h2.quiet hK
  obtain ⟨-, nx⟩ := H2.mm h.m.1
  have H3 := nx w3 xs' hm hK3
  have h6 : upd (upd (upd s (21, 0) (.blk w.heap.size oc 29)) (22, 0) (.blk (w.heap.size + 1) [ptr p.b, ptr p.rb] 85)) (5, i) (.mm p.b p.g xs') (6, i) = .rm p.rb p.rg p.xs := by
    rw [upd_ne _ _ _ _ (by simp)]; exact h.m.2
  refine ⟨(H3.blk (o := (21, 0)) (by rw [upd_ne _ _ _ _ (by simp), upd_ne _ _ _ _ (by simp), upd_self])).1, (H3.blk (o := (22, 0)) (by rw [upd_ne _ _ _ _ (by simp), upd_self])).1, (H3.rm h6).1, fun w4 hr hK4 hl => ?_⟩
  exact ⟨_, _, (H3.rm h6).2 w4 xs' hr hK4, ((h.rel.other 21 0 (by omega) _).other 22 0 (by omega) _).setP h.hp xs', (h.sm.mono (by omega)).setP h.hp xs' hl, h.x⟩

set_option maxRecDepth 100000 in
set_option maxHeartbeats 4000000 in
theorem works_4 (who oth a b c : Int) (W : UInt32) (v : Value) (w0 w : World) (X T : Nat) (h : Game w0 w X T) (hwho : in64 who) (ha : in64 a) (hb : in64 b) (hc : in64 c) :
    Calls Try.prog 12 #[.pointer (some ⟨X, 0, none⟩), .agg #[.int .i64 4, .int .i64 who, .int .i64 oth, .int .i64 a, .int .i64 b, .int .i64 c, .int .u32 (W.toNat : Int), v]] w fun e w' => e = .returned (.bool true) ∧ Game w0 w' X (T + 2) := by
  obtain ⟨s, g, p, lb, lc, hk⟩ := h.wk (ocs 4 who oth a b c W.toNat v) who
  have HW : Hid (Wk w0 w X T (ocs 4 who oth a b c W.toNat v) s g (pk who g.P.length) p lb lc) := hk
  have c0 := hk.c0
  have c1 := hk.c1
  have c2 := hk.c2
  have m1 : (g.P.length : Int) ≤ 12 := by have := hk.sm.p12; omega
  have m2 : 0 < g.P.length := hk.sm.p1
  have hlt := pk_lt who g.P.length m2
  obtain ⟨L, hL⟩ : ∃ L, L = g.P.length := ⟨_, rfl⟩
  have HL : Hid (L = g.P.length) := hL
  rw [← hL] at c0 c1 c2 m1 m2 hlt
  obtain ⟨i, hi⟩ : ∃ i, i = pk who L := ⟨_, rfl⟩
  have HP : ∀ w, Calls _ _ _ w _ := fun w => pick_any who L w m2 (by omega) hwho.1 hwho.2
  rw [← hi] at c1 c2 hlt HP
  have HP : Hid (∀ w, _) := HP
  have HI : Hid (i = pk who L) := hi
  have hlt' : (i : Int) < L := by omega
  unfold ocs at c0 c1 c2
  unfold ptr at c1 c2
  clear h hk hwho hL hi
  -- PRE
  obtain ⟨O, hO⟩ : ∃ O, O = w.heap.size := ⟨_, rfl⟩
  have HO : Hid (O = w.heap.size) := hO
  have o1 : (w.alloc (.cells #[.int .i64 4, .int .i64 who, .int .i64 oth, .int .i64 a, .int .i64 b, .int .i64 c, .int .u32 (W.toNat : Int), v] 29)).cell? ⟨O, 1, none⟩ = some (.int .i64 who) := by rw [hO]; exact (Blk.new w _ 29).cell rfl
  go_enter Try.func12, Try.ntmps12
  go_wp2_with fail
  rw [← HO.out]
  obtain ⟨w1, hw1⟩ : ∃ w1, w1 = w.alloc (.cells #[.int .i64 4, .int .i64 who, .int .i64 oth, .int .i64 a, .int .i64 b, .int .i64 c, .int .u32 (W.toNat : Int), v] 29) := ⟨_, rfl⟩
  have HW1 : Hid (w1 = w.alloc (.cells #[.int .i64 4, .int .i64 who, .int .i64 oth, .int .i64 a, .int .i64 b, .int .i64 c, .int .u32 (W.toNat : Int), v] 29)) := hw1
  rw [← hw1]
  have hS0 : w1.drew.cell? ⟨X, 0, none⟩ = some (.slice (some ⟨lb, 0, none⟩) L lc) ∧ w1.drew.cell? ⟨O, 1, none⟩ = some (.int .i64 who) ∧ w1.drew.cell? ⟨lb, i * 2, none⟩ = some (.pointer (some ⟨p.b, 0, none⟩)) ∧ w1.drew.cell? ⟨lb, i * 2 + 1, none⟩ = some (.pointer (some ⟨p.rb, 0, none⟩)) := by
    rw [hw1]; exact ⟨c0, o1, c1, c2⟩
  have hSz : (w1.alloc (Obj.cells #[Value.pointer none, Value.pointer none] 85)).drew.cell? ⟨X, 0, none⟩ = some (.slice (some ⟨lb, 0, none⟩) L lc) ∧ (w1.alloc (Obj.cells #[Value.pointer none, Value.pointer none] 85)).drew.cell? ⟨O, 1, none⟩ = some (.int .i64 who) ∧ (w1.alloc (Obj.cells #[Value.pointer none, Value.pointer none] 85)).drew.cell? ⟨lb, i * 2, none⟩ = some (.pointer (some ⟨p.b, 0, none⟩)) ∧ (w1.alloc (Obj.cells #[Value.pointer none, Value.pointer none] 85)).drew.cell? ⟨lb, i * 2 + 1, none⟩ = some (.pointer (some ⟨p.rb, 0, none⟩)) := by
    have hKz : Keeps (fun _ => False) w1.drew (w1.alloc (Obj.cells #[Value.pointer none, Value.pointer none] 85)).drew := (((Keeps.refl (fun _ => False) w1.drew).alloc _))
    exact ⟨cell_kept hS0.1 hKz (fun e => e), cell_kept hS0.2.1 hKz (fun e => e), cell_kept hS0.2.2.1 hKz (fun e => e), cell_kept hS0.2.2.2 hKz (fun e => e)⟩
  obtain ⟨Q, hQ⟩ : ∃ Q, Q = w1.heap.size := ⟨_, rfl⟩
  obtain ⟨w2, hw2⟩ : ∃ w2, w2 = (w1.alloc (Obj.cells #[.pointer (some ⟨p.b, 0, none⟩), .pointer (some ⟨p.rb, 0, none⟩)] 85)).drew := ⟨_, rfl⟩
  have HQ : Hid (w2 = (w1.alloc (Obj.cells #[.pointer (some ⟨p.b, 0, none⟩), .pointer (some ⟨p.rb, 0, none⟩)] 85)).drew) := hw2
  have HSf : Hid (w2.cell? ⟨X, 0, none⟩ = some (.slice (some ⟨lb, 0, none⟩) L lc) ∧ w2.cell? ⟨O, 1, none⟩ = some (.int .i64 who) ∧ w2.cell? ⟨lb, i * 2, none⟩ = some (.pointer (some ⟨p.b, 0, none⟩)) ∧ w2.cell? ⟨lb, i * 2 + 1, none⟩ = some (.pointer (some ⟨p.rb, 0, none⟩))) := by
    have hKz : Keeps (fun _ => False) w1.drew w2 := by rw [hw2]; exact (Keeps.refl (fun _ => False) w1.drew).alloc _
    exact ⟨cell_kept hS0.1 hKz (fun e => e), cell_kept hS0.2.1 hKz (fun e => e), cell_kept hS0.2.2.1 hKz (fun e => e), cell_kept hS0.2.2.2 hKz (fun e => e)⟩
  have hHw := HW.out.h2
  have hKw : Keeps (fun _ => False) ((w.alloc (.cells (ocs 4 who oth a b c W.toNat v).toArray 29)).alloc (.cells #[ptr p.b, ptr p.rb] 85)) w2 := by
    rw [hw2, hw1]; exact (Keeps.refl _ _).drew
  have H2 := hHw.quiet hKw
  have o0 := (H2.blk (o := (21, 0)) (by rw [upd_ne _ _ _ _ (by simp), upd_self])).1
  have q0 := (H2.blk (o := (22, 0)) (upd_self _ _ _)).1
  have hz : w1.heap.size = w.heap.size + 1 := by rw [hw1, World.size_alloc]
  rw [← hO] at o0
  rw [← hz, ← hQ] at q0
  unfold ocs at o0
  unfold ptr at q0
  have k0 := o0.cell (i := 0) rfl
  have k1 := o0.cell (i := 1) rfl
  have k3 := o0.cell (i := 3) rfl
  have k4 := o0.cell (i := 4) rfl
  have k5 := o0.cell (i := 5) rfl
  have k6 := o0.cell (i := 6) rfl
  have k7 := o0.cell (i := 7) rfl
  have j0 := q0.cell (i := 0) rfl
  have j1 := q0.cell (i := 1) rfl
  have hm := (H2.mm HW.out.m.1).1
  have hr := (H2.rm HW.out.m.2).1
  have HR : Hid (∃ (E : Int) (xs' : List UInt32), xs'.length = p.xs.length ∧ Hid (Calls Try.prog 21 #[.pointer (some ⟨p.b, 0, none⟩), .int .i64 a, .int .u32 (W.toNat : Int)] w2 fun e w' => e = .returned (.int .i64 E) ∧ Mm w' p.b p.g xs' ∧ Keeps (· = p.g) w2 w') ∧ Hid (∀ w3, Rm w3 p.rb p.rg p.xs → Calls Try.prog 44 #[.pointer (some ⟨p.rb, 0, none⟩), .int .i64 a, .int .u32 (W.toNat : Int)] w3 fun e w' => e = .returned (.int .i64 E) ∧ Rm w' p.rb p.rg xs' ∧ Keeps (· = p.rg) w3 w')) := by
    by_cases hin : 0 ≤ a ∧ a < p.xs.length
    · obtain ⟨n, rfl⟩ : ∃ n : Nat, a = n := ⟨a.toNat, by omega⟩
      exact ⟨0, lay p.xs n [W], lay_length _ _ _ (by simp; omega), write_in p.b p.g p.xs n W w2 hm (by omega), fun w3 h3 => rwrite_in p.rb p.rg p.xs n W w3 h3 (by omega)⟩
    · exact ⟨51, p.xs, rfl, (write_out p.b p.g p.xs a W.toNat w2 hm hin ha.2).mono (fun e w' h => by obtain ⟨rfl, rfl⟩ := h; exact ⟨rfl, hm, Keeps.refl _ _⟩), fun w3 h3 => (rwrite_out p.rb p.rg p.xs a W.toNat w3 h3 ha.1 ha.2 hin).mono (fun e w' h => by obtain ⟨rfl, rfl⟩ := h; exact ⟨rfl, h3, Keeps.refl _ _⟩)⟩
  have HG : Hid (∀ w3 xs', Mm w3 p.b p.g xs' → Keeps (· = p.g) w2 w3 → Blk w3 O [.int .i64 4, .int .i64 who, .int .i64 oth, .int .i64 a, .int .i64 b, .int .i64 c, .int .u32 (W.toNat : Int), v] 29 ∧ Blk w3 Q [.pointer (some ⟨p.b, 0, none⟩), .pointer (some ⟨p.rb, 0, none⟩)] 85 ∧ Rm w3 p.rb p.rg p.xs ∧ ∀ w4, Rm w4 p.rb p.rg xs' → Keeps (· = p.rg) w3 w4 → xs'.length = p.xs.length → Game w0 w4 X (T + 2)) := by
    intro w3 xs' h1 h2
    have h := HW.out.step1 hKw h1 h2
    rw [hO, hQ, hz]
    exact h
  obtain ⟨wn, hwn⟩ : ∃ n : Nat, n = W.toNat := ⟨_, rfl⟩
  have HWN : Hid (wn = W.toNat) := hwn
  have HQ1 : Hid (Q = w1.heap.size) := hQ
  clear hQ hw1 c0 c1 c2 o1 hO hw2 hHw hKw H2 o0 q0 hz hm hr ha hb hc hwn
  refine wp_region_held_drew (S := fun w' => w'.cell? ⟨X, 0, none⟩ = some (.slice (some ⟨lb, 0, none⟩) L lc) ∧ w'.cell? ⟨O, 1, none⟩ = some (.int .i64 who) ∧ w'.cell? ⟨lb, i * 2, none⟩ = some (.pointer (some ⟨p.b, 0, none⟩)) ∧ w'.cell? ⟨lb, i * 2 + 1, none⟩ = some (.pointer (some ⟨p.rb, 0, none⟩))) Try.mixed hS0 (fun hHeld => ?_)
  simp only [List.size_toArray, List.length_cons, List.length_nil, Nat.reduceAdd, Array.replicate_succ, Array.replicate_zero, List.push_toArray, List.append_toArray, List.nil_append, List.cons_append]
  refine hk 0 (.pointer (some ⟨X, 0, none⟩)) hHeld ?_
  simp only [Act.put, List.setIfInBounds_toArray, List.set_cons_zero, List.set_cons_succ]
  refine hk 1 (.pointer (some ⟨X, 0, none⟩)) hHeld ?_
  simp only [Act.put, List.setIfInBounds_toArray, List.set_cons_zero, List.set_cons_succ]
  refine hk 2 (.pointer (some ⟨X, 0, none⟩)) hHeld ?_
  simp only [Act.put, List.setIfInBounds_toArray, List.set_cons_zero, List.set_cons_succ]
  refine hk 3 (.slice (some ⟨lb, 0, none⟩) L lc) hHeld ?_
  simp only [Act.put, List.setIfInBounds_toArray, List.set_cons_zero, List.set_cons_succ]
  refine hk 4 (.pointer (some ⟨O, 1, none⟩)) hHeld ?_
  simp only [Act.put, List.setIfInBounds_toArray, List.set_cons_zero, List.set_cons_succ]
  refine hk 5 (.int .i64 who) hHeld ?_
  simp only [Act.put, List.setIfInBounds_toArray, List.set_cons_zero, List.set_cons_succ]
  refine hk 6 (.pointer (some ⟨X, 0, none⟩)) hHeld ?_
  simp only [Act.put, List.setIfInBounds_toArray, List.set_cons_zero, List.set_cons_succ]
  refine hk 7 (.pointer (some ⟨X, 0, none⟩)) hHeld ?_
  simp only [Act.put, List.setIfInBounds_toArray, List.set_cons_zero, List.set_cons_succ]
  refine hk 8 (.pointer (some ⟨X, 0, none⟩)) hHeld ?_
  simp only [Act.put, List.setIfInBounds_toArray, List.set_cons_zero, List.set_cons_succ]
  refine hk 9 (.slice (some ⟨lb, 0, none⟩) L lc) hHeld ?_
  simp only [Act.put, List.setIfInBounds_toArray, List.set_cons_zero, List.set_cons_succ]
  refine hk 10 (.int .i64 (L : Int)) hHeld ?_
  simp only [Act.put, List.setIfInBounds_toArray, List.set_cons_zero, List.set_cons_succ]
  refine wpAnyH_ready (rs := [11, 14]) (by kernel_rfl) (by simp) ?_
  refine AllReadyH.cons rfl (fun Kq hK => ?_) (AllReadyH.cons rfl (fun Kq hK => ?_) AllReadyH.nil)
  focus
    go_simp
    refine (HP.out _).mono ?_
    rintro e w2 ⟨rfl, hw2⟩
    subst hw2
    refine hK.out _ _ hS0 (fun hHeld => ?_)
    simp only [Act.put, List.setIfInBounds_toArray, List.set_cons_zero, List.set_cons_succ]
    refine hk 12 (.pointer (some ⟨lb, i * 2, none⟩)) hHeld ?_
    simp only [Act.put, List.setIfInBounds_toArray, List.set_cons_zero, List.set_cons_succ]
    refine hk 13 (.agg #[.pointer (some ⟨p.b, 0, none⟩), .pointer (some ⟨p.rb, 0, none⟩)]) hHeld ?_
    simp only [Act.put, List.setIfInBounds_toArray, List.set_cons_zero, List.set_cons_succ]
    refine wpAnyH_ready (rs := [14]) (by kernel_rfl) (by simp) ?_
    refine AllReadyH.cons rfl (fun Kq hK => ?_) AllReadyH.nil
    go_simp
    refine hK.out _ _ hSz (fun hHeld => ?_)
    simp only [Act.put, List.setIfInBounds_toArray, List.set_cons_zero, List.set_cons_succ]
  rotate_left
  focus
    go_simp
    refine hK.out _ _ hSz (fun hHeld => ?_)
    simp only [Act.put, List.setIfInBounds_toArray, List.set_cons_zero, List.set_cons_succ]
    refine wpAnyH_ready (rs := [11]) (by kernel_rfl) (by simp) ?_
    refine AllReadyH.cons rfl (fun Kq hK => ?_) AllReadyH.nil
    go_simp
    refine (HP.out _).mono ?_
    rintro e w2 ⟨rfl, hw2⟩
    subst hw2
    refine hK.out _ _ hSz (fun hHeld => ?_)
    simp only [Act.put, List.setIfInBounds_toArray, List.set_cons_zero, List.set_cons_succ]
    refine hk 12 (.pointer (some ⟨lb, i * 2, none⟩)) hHeld ?_
    simp only [Act.put, List.setIfInBounds_toArray, List.set_cons_zero, List.set_cons_succ]
    refine hk 13 (.agg #[.pointer (some ⟨p.b, 0, none⟩), .pointer (some ⟨p.rb, 0, none⟩)]) hHeld ?_
    simp only [Act.put, List.setIfInBounds_toArray, List.set_cons_zero, List.set_cons_succ]
  all_goals
    refine wpAnyH_ready (rs := [15]) (by kernel_rfl) (by simp) ?_
    refine AllReadyH.cons rfl (fun Kq hK => ?_) AllReadyH.nil
    go_simp
    rw [← HQ.out, ← HQ1.out]
    refine hK.out _ _ HSf.out (fun hHeld => ?_)
    simp only [Act.put, List.setIfInBounds_toArray, List.set_cons_zero, List.set_cons_succ]
    refine wpAnyH_done (by kernel_rfl) ?_ _
    clear hHeld hK hS0 hSz
    obtain ⟨E, xs', hx, C1, C2⟩ := HR.out
    go_wp2_with fail
    refine C1.out.mono ?_
    rintro e w3 ⟨rfl, hm3, hK3⟩
    obtain ⟨o3, q3, hr3, nx⟩ := HG.out w3 xs' hm3 hK3
    have k0' := o3.cell (i := 0) rfl
    have k3' := o3.cell (i := 3) rfl
    have k4' := o3.cell (i := 4) rfl
    have k5' := o3.cell (i := 5) rfl
    have k6' := o3.cell (i := 6) rfl
    have j1' := q3.cell (i := 1) rfl
    have HX : Hid (∀ w4, Rm w4 p.rb p.rg xs' → Keeps (· = p.rg) w3 w4 → Game w0 w4 X (T + 2)) := fun w4 h1 h2 => nx w4 h1 h2 hx
    have C3 : Hid (Calls _ _ _ w3 _) := C2.out w3 hr3
    clear C1 C2 hm3 hK3 o3 q3 hr3 nx k0 k1 k3 k4 k5 k6 k7 j0 j1 hx
    go_wp2_with fail
    refine C3.out.mono ?_
    rintro e w4 ⟨rfl, hr4, hK4⟩
    have HF : Hid (Game w0 w4 X (T + 2)) := HX.out w4 hr4 hK4
    clear C3 HX hr4 hK4 k0' k3' k4' k5' k6' j1'
    go_wp2
    go_ret
    exact ⟨rfl, HF.out⟩

end Go.Proofs.Ytljhdijledclhaa
