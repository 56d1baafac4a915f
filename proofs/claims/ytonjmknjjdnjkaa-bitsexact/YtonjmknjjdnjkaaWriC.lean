import Derived.Test.YtonjmknjjdnjkaaWriA
namespace Go.Proofs.Ytonjmknjjdnjkaa
open Go.RowKit
set_option linter.unusedVariables false

set_option maxRecDepth 100000 in
set_option maxHeartbeats 2000000 in
theorem writes_u32 (who a b : Int) (W V N : Nat) (pb : Option Addr) (lb cb : Nat) (pw : Option Addr) (lw cw : Nat) (str : ByteArray) (w0 w : World) (X T : Nat) (h : Game w0 w X T) (hwho : in64 who) (hV : V < 4294967296) (hT : T ≤ 2147483700) :
    Calls Try.prog 14 #[.pointer (some ⟨X, 0, none⟩), .agg #[.int .i64 10, .int .i64 who, .int .i64 a, .int .i64 b, .int .u32 W, .int .u32 V, .int .u64 N, .slice pb lb cb, .slice pw lw cw, .string str]] w fun e w' => e = .returned (.bool true) ∧ Game w0 w' X (T + 8) := by
  obtain ⟨s, g, hH, hR, hS, rfl⟩ := h.out
  have H1 := has_box hH #[.int .i64 10, .int .i64 who, .int .i64 a, .int .i64 b, .int .u32 W, .int .u32 V, .int .u64 N, .slice pb lb cb, .slice pw lw cw, .string str]
  have R1 := hR.other 21 0 (by omega) (.blk w.heap.size (#[.int .i64 10, .int .i64 who, .int .i64 a, .int .i64 b, .int .u32 W, .int .u32 V, .int .u64 N, .slice pb lb cb, .slice pw lw cw, .string str] : Array Value).toList 41)
  obtain ⟨bo, hbo⟩ : ∃ bo, bo = w.heap.size := ⟨_, rfl⟩
  obtain ⟨w1, hw1⟩ : ∃ w1, w1 = w.alloc (.cells #[.int .i64 10, .int .i64 who, .int .i64 a, .int .i64 b, .int .u32 W, .int .u32 V, .int .u64 N, .slice pb lb cb, .slice pw lw cw, .string str] 41) := ⟨_, rfl⟩
  obtain ⟨s1, hs1⟩ : ∃ s1, s1 = upd s (21, 0) (.blk w.heap.size (#[.int .i64 10, .int .i64 who, .int .i64 a, .int .i64 b, .int .u32 W, .int .u32 V, .int .u64 N, .slice pb lb cb, .slice pw lw cw, .string str] : Array Value).toList 41) := ⟨_, rfl⟩
  have hO : s1 (21, 0) = .blk bo (#[.int .i64 10, .int .i64 who, .int .i64 a, .int .i64 b, .int .u32 W, .int .u32 V, .int .u64 N, .slice pb lb cb, .slice pw lw cw, .string str] : Array Value).toList 41 := by rw [hs1, hbo]; exact upd_self _ _ _
  rw [← hw1, ← hs1] at H1
  rw [← hs1] at R1
  clear hH hR hs1 h
  obtain ⟨X, sw, sv, sr, sq, sb, sk, gW, gV, gR, gQ, gB, gK⟩ := g
  have hn0 : 0 < gW.length := hS.w0
  have hnT : gW.length ≤ T + 8 := hS.w
  obtain ⟨i, hi⟩ : ∃ i : Nat, pickZ who gW.length = (i : Int) := ⟨(pickZ who gW.length).toNat, by have := (pickZ_bd who gW.length (by omega)).1; omega⟩
  have hiL : i < gW.length := by have := (pickZ_bd who gW.length (by omega)).2; omega
  have HPK : Hid (∀ w, Calls Try.prog 32 #[.int .i64 who, .int .i64 (gW.length : Int)] w fun e w' => e = .returned (.int .i64 (i : Int)) ∧ w' = w) := fun w => by
    have := pick_any who gW.length w (by omega) hwho.1 hwho.2 (by omega)
    rw [hi] at this
    exact this
  obtain ⟨bW, xs, bV, vV, eW, eV, kW, kV⟩ := wr_at R1 i hiL
  have hxT : xs.length ≤ T := hS.ws i bW xs eW
  have rw1 := R1.rw
  have rv1 := R1.rv
  have x1 := R1.x
  have hlV : gV.length = gW.length := R1.lenV
  dsimp only at rw1 rv1 x1 eW eV
  obtain ⟨aW, cW, rfl, q1, q2⟩ := row_some H1 rw1 hn0
  obtain ⟨aV, cV, rfl, q3, q4⟩ := row_some H1 rv1 (by omega)
  have HPKd : Hid (∀ k, Calls Try.prog 32 #[.int .i64 who, .int .i64 (gW.length : Int)] (w1.drewN k) fun e w' => e = .returned (.int .i64 (i : Int)) ∧ w' = w1.drewN k) := fun k => HPK.out _
  obtain ⟨L, hL⟩ : ∃ L, L = gW.length := ⟨_, rfl⟩
  rw [hlV] at rv1
  rw [hlV] at x1
  have HR : Hid (Rel s1 _ w0) := R1
  have HS : Hid (Small _ T) := hS
  have HXT : Hid (True ∧ xs.length ≤ T ∧ T ≤ 2147483700) := ⟨trivial, hxT, hT⟩
  have HE : Hid (gW[i]? = some (bW, xs) ∧ gV[i]? = some (bV, vV)) := ⟨eW, eV⟩
  rw [← hL] at rw1 rv1 x1 HPKd
  have hLb : (L : Int) ≤ 2147483708 := by omega
  have hiL' : (i : Int) < (L : Int) := by omega
  clear hL hlV hn0 hnT hi hiL q1 q2 q3 q4 R1 hS HPK hxT hT eW eV
  have HH : Hid (Has s1 w1) := H1
  have Hw : Hid (s1 (2, 0) = _) := rw1
  have Hv : Hid (s1 (3, 0) = _) := rv1
  have Hx : Hid (s1 (1, 0) = _) := x1
  have HO : Hid (s1 (21, 0) = _) := hO
  have HkW : Hid (s1 (8, i) = _) := kW
  have HkV : Hid (s1 (9, i) = _) := kV
  clear rw1 rv1 x1 hO kW kV
  obtain ⟨x0, -, -, -, -, -⟩ := cells_x H1 Hx.out
  have r0 := cell_row H1 _ _ Hw.out i _ HE.out.1
  have BO := (H1.blk HO.out).1
  have o0 := BO.cell (i := 0) rfl
  have o1 := BO.cell (i := 1) rfl
  have o5 := BO.cell (i := 5) rfl
  have o6 := BO.cell (i := 6) rfl
  have o9 := BO.cell (i := 9) rfl
  unfold ptr at r0
  dsimp only at r0
  clear BO H1
  go_enter Try.func14, Try.ntmps14
  go_wp2_with fail
  rw [← hbo, ← hw1]
  clear hbo hw1
  go_quiet ((go_at_call 32; exact (HPKd.out _).mono fun e w2 h2 => ⟨h2.1, _, h2.2⟩))
  go_wp2_with fail
  refine region_tail 9 (by kernel_rfl) ?_
  simp only [List.take_succ_cons, List.take_zero, List.drop_succ_cons, List.drop_zero]
  repeat still_step
  refine wpStill_nil ?_
  go_wp2_with fail
  have hV' : (V : Int) < 4294967296 := by omega
  have HD1 := HH.out.quiet ((Keeps.refl _ w1).drewN (nq + 1))
  obtain ⟨gw, hWr, nextW⟩ := HD1.wr HkW.out
  refine (wU32_any bW V gw xs _ hWr (by have := HXT.out; omega) hV).mono ?_
  rintro e w2 ⟨rfl, g', hw2, hg', hK2⟩
  have H2 := nextW _ _ _ hw2 hg' hK2
  obtain ⟨-, y1, -, -, -, -⟩ := cells_x H2 (by rw [upd_ne _ _ _ _ (by simp)]; exact Hx.out)
  have t0 := cell_row H2 (o := (3, 0)) _ _ (by rw [upd_ne _ _ _ _ (by simp)]; exact Hv.out) i _ HE.out.2
  have BO2 := (H2.blk (o := (21, 0)) (by rw [upd_ne _ _ _ _ (by simp)]; exact HO.out)).1
  have p0 := BO2.cell (i := 0) rfl
  have p5 := BO2.cell (i := 5) rfl
  have p6 := BO2.cell (i := 6) rfl
  have p9 := BO2.cell (i := 9) rfl
  unfold ptr at t0
  dsimp only at t0
  have HH2 : Hid (Has _ w2) := H2
  clear x0 r0 o0 o1 o5 o6 o9 BO2 H2 hw2 hg' hK2 hWr nextW HD1
  go_wp2_with fail
  refine region_tail 10 (by kernel_rfl) ?_
  simp only [List.take_succ_cons, List.take_zero, List.drop_succ_cons, List.drop_zero]
  repeat still_step
  refine wpStill_nil ?_
  go_wp2_with fail
  have HD2 := HH2.out.quiet ((Keeps.refl _ w2).drewN 1)
  obtain ⟨hRW, nextV⟩ := HD2.dw (o := (9, i)) (by rw [upd_ne _ _ _ _ (by simp)]; exact HkV.out)
  refine (refNumber_any bV 4 V vV xs _ hRW (by omega) (by omega) (by have := HXT.out; omega)).mono ?_
  rintro e w3 ⟨rfl, v', hw3, hD⟩
  have H3 := nextV _ _ _ hw3 hD
  have HH3 : Hid (Has _ w3) := H3
  clear H3 hw3 hD hRW nextV HD2 y1 t0 p5 p6 p9
  go_wp2
  go_ret
  exact ⟨rfl, ⟨_, _, HH3.out, HR.out.wrote HE.out.1 HE.out.2, HS.out.wrote (by omega) (by have := HXT.out; simp only [List.length_append, lowB_length]; omega), rfl⟩⟩

set_option maxRecDepth 100000 in
set_option maxHeartbeats 2000000 in
theorem writes_u64 (who a b : Int) (W V N : Nat) (pb : Option Addr) (lb cb : Nat) (pw : Option Addr) (lw cw : Nat) (str : ByteArray) (w0 w : World) (X T : Nat) (h : Game w0 w X T) (hwho : in64 who) (hN : N < 18446744073709551616) (hT : T ≤ 2147483700) :
    Calls Try.prog 14 #[.pointer (some ⟨X, 0, none⟩), .agg #[.int .i64 11, .int .i64 who, .int .i64 a, .int .i64 b, .int .u32 W, .int .u32 V, .int .u64 N, .slice pb lb cb, .slice pw lw cw, .string str]] w fun e w' => e = .returned (.bool true) ∧ Game w0 w' X (T + 8) := by
  obtain ⟨s, g, hH, hR, hS, rfl⟩ := h.out
  have H1 := has_box hH #[.int .i64 11, .int .i64 who, .int .i64 a, .int .i64 b, .int .u32 W, .int .u32 V, .int .u64 N, .slice pb lb cb, .slice pw lw cw, .string str]
  have R1 := hR.other 21 0 (by omega) (.blk w.heap.size (#[.int .i64 11, .int .i64 who, .int .i64 a, .int .i64 b, .int .u32 W, .int .u32 V, .int .u64 N, .slice pb lb cb, .slice pw lw cw, .string str] : Array Value).toList 41)
  obtain ⟨bo, hbo⟩ : ∃ bo, bo = w.heap.size := ⟨_, rfl⟩
  obtain ⟨w1, hw1⟩ : ∃ w1, w1 = w.alloc (.cells #[.int .i64 11, .int .i64 who, .int .i64 a, .int .i64 b, .int .u32 W, .int .u32 V, .int .u64 N, .slice pb lb cb, .slice pw lw cw, .string str] 41) := ⟨_, rfl⟩
  obtain ⟨s1, hs1⟩ : ∃ s1, s1 = upd s (21, 0) (.blk w.heap.size (#[.int .i64 11, .int .i64 who, .int .i64 a, .int .i64 b, .int .u32 W, .int .u32 V, .int .u64 N, .slice pb lb cb, .slice pw lw cw, .string str] : Array Value).toList 41) := ⟨_, rfl⟩
  have hO : s1 (21, 0) = .blk bo (#[.int .i64 11, .int .i64 who, .int .i64 a, .int .i64 b, .int .u32 W, .int .u32 V, .int .u64 N, .slice pb lb cb, .slice pw lw cw, .string str] : Array Value).toList 41 := by rw [hs1, hbo]; exact upd_self _ _ _
  rw [← hw1, ← hs1] at H1
  rw [← hs1] at R1
  clear hH hR hs1 h
  obtain ⟨X, sw, sv, sr, sq, sb, sk, gW, gV, gR, gQ, gB, gK⟩ := g
  have hn0 : 0 < gW.length := hS.w0
  have hnT : gW.length ≤ T + 8 := hS.w
  obtain ⟨i, hi⟩ : ∃ i : Nat, pickZ who gW.length = (i : Int) := ⟨(pickZ who gW.length).toNat, by have := (pickZ_bd who gW.length (by omega)).1; omega⟩
  have hiL : i < gW.length := by have := (pickZ_bd who gW.length (by omega)).2; omega
  have HPK : Hid (∀ w, Calls Try.prog 32 #[.int .i64 who, .int .i64 (gW.length : Int)] w fun e w' => e = .returned (.int .i64 (i : Int)) ∧ w' = w) := fun w => by
    have := pick_any who gW.length w (by omega) hwho.1 hwho.2 (by omega)
    rw [hi] at this
    exact this
  obtain ⟨bW, xs, bV, vV, eW, eV, kW, kV⟩ := wr_at R1 i hiL
  have hxT : xs.length ≤ T := hS.ws i bW xs eW
  have rw1 := R1.rw
  have rv1 := R1.rv
  have x1 := R1.x
  have hlV : gV.length = gW.length := R1.lenV
  dsimp only at rw1 rv1 x1 eW eV
  obtain ⟨aW, cW, rfl, q1, q2⟩ := row_some H1 rw1 hn0
  obtain ⟨aV, cV, rfl, q3, q4⟩ := row_some H1 rv1 (by omega)
  have HPKd : Hid (∀ k, Calls Try.prog 32 #[.int .i64 who, .int .i64 (gW.length : Int)] (w1.drewN k) fun e w' => e = .returned (.int .i64 (i : Int)) ∧ w' = w1.drewN k) := fun k => HPK.out _
  obtain ⟨L, hL⟩ : ∃ L, L = gW.length := ⟨_, rfl⟩
  rw [hlV] at rv1
  rw [hlV] at x1
  have HR : Hid (Rel s1 _ w0) := R1
  have HS : Hid (Small _ T) := hS
  have HXT : Hid (True ∧ xs.length ≤ T ∧ T ≤ 2147483700) := ⟨trivial, hxT, hT⟩
  have HE : Hid (gW[i]? = some (bW, xs) ∧ gV[i]? = some (bV, vV)) := ⟨eW, eV⟩
  rw [← hL] at rw1 rv1 x1 HPKd
  have hLb : (L : Int) ≤ 2147483708 := by omega
  have hiL' : (i : Int) < (L : Int) := by omega
  clear hL hlV hn0 hnT hi hiL q1 q2 q3 q4 R1 hS HPK hxT hT eW eV
  have HH : Hid (Has s1 w1) := H1
  have Hw : Hid (s1 (2, 0) = _) := rw1
  have Hv : Hid (s1 (3, 0) = _) := rv1
  have Hx : Hid (s1 (1, 0) = _) := x1
  have HO : Hid (s1 (21, 0) = _) := hO
  have HkW : Hid (s1 (8, i) = _) := kW
  have HkV : Hid (s1 (9, i) = _) := kV
  clear rw1 rv1 x1 hO kW kV
  obtain ⟨x0, -, -, -, -, -⟩ := cells_x H1 Hx.out
  have r0 := cell_row H1 _ _ Hw.out i _ HE.out.1
  have BO := (H1.blk HO.out).1
  have o0 := BO.cell (i := 0) rfl
  have o1 := BO.cell (i := 1) rfl
  have o5 := BO.cell (i := 5) rfl
  have o6 := BO.cell (i := 6) rfl
  have o9 := BO.cell (i := 9) rfl
  unfold ptr at r0
  dsimp only at r0
  clear BO H1
  go_enter Try.func14, Try.ntmps14
  go_wp2_with fail
  rw [← hbo, ← hw1]
  clear hbo hw1
  go_quiet ((go_at_call 32; exact (HPKd.out _).mono fun e w2 h2 => ⟨h2.1, _, h2.2⟩))
  go_wp2_with fail
  refine region_tail 9 (by kernel_rfl) ?_
  simp only [List.take_succ_cons, List.take_zero, List.drop_succ_cons, List.drop_zero]
  repeat still_step
  refine wpStill_nil ?_
  go_wp2_with fail
  have HD1 := HH.out.quiet ((Keeps.refl _ w1).drewN (nq + 1))
  obtain ⟨gw, hWr, nextW⟩ := HD1.wr HkW.out
  refine (wU64_any bW N gw xs _ hWr (by have := HXT.out; omega) hN).mono ?_
  rintro e w2 ⟨rfl, g', hw2, hg', hK2⟩
  have H2 := nextW _ _ _ hw2 hg' hK2
  obtain ⟨-, y1, -, -, -, -⟩ := cells_x H2 (by rw [upd_ne _ _ _ _ (by simp)]; exact Hx.out)
  have t0 := cell_row H2 (o := (3, 0)) _ _ (by rw [upd_ne _ _ _ _ (by simp)]; exact Hv.out) i _ HE.out.2
  have BO2 := (H2.blk (o := (21, 0)) (by rw [upd_ne _ _ _ _ (by simp)]; exact HO.out)).1
  have p0 := BO2.cell (i := 0) rfl
  have p5 := BO2.cell (i := 5) rfl
  have p6 := BO2.cell (i := 6) rfl
  have p9 := BO2.cell (i := 9) rfl
  unfold ptr at t0
  dsimp only at t0
  have HH2 : Hid (Has _ w2) := H2
  clear x0 r0 o0 o1 o5 o6 o9 BO2 H2 hw2 hg' hK2 hWr nextW HD1
  go_wp2_with fail
  refine region_tail 9 (by kernel_rfl) ?_
  simp only [List.take_succ_cons, List.take_zero, List.drop_succ_cons, List.drop_zero]
  repeat still_step
  refine wpStill_nil ?_
  go_wp2_with fail
  have HD2 := HH2.out.quiet ((Keeps.refl _ w2).drewN 1)
  obtain ⟨hRW, nextV⟩ := HD2.dw (o := (9, i)) (by rw [upd_ne _ _ _ _ (by simp)]; exact HkV.out)
  refine (refNumber_any bV 8 N vV xs _ hRW (by omega) hN (by have := HXT.out; omega)).mono ?_
  rintro e w3 ⟨rfl, v', hw3, hD⟩
  have H3 := nextV _ _ _ hw3 hD
  have HH3 : Hid (Has _ w3) := H3
  clear H3 hw3 hD hRW nextV HD2 y1 t0 p5 p6 p9
  go_wp2
  go_ret
  exact ⟨rfl, ⟨_, _, HH3.out, HR.out.wrote HE.out.1 HE.out.2, HS.out.wrote (by omega) (by have := HXT.out; simp only [List.length_append, lowB_length]; omega), rfl⟩⟩

set_option maxRecDepth 100000 in
set_option maxHeartbeats 2000000 in
theorem writes_text (who a b : Int) (W V N : Nat) (pb : Option Addr) (lb cb : Nat) (pw : Option Addr) (lw cw : Nat) (str : ByteArray) (w0 w : World) (X T : Nat) (h : Game w0 w X T) (hwho : in64 who) (hstr : str.size ≤ 2147483647) (hT : T ≤ 2147483700) :
    Calls Try.prog 14 #[.pointer (some ⟨X, 0, none⟩), .agg #[.int .i64 12, .int .i64 who, .int .i64 a, .int .i64 b, .int .u32 W, .int .u32 V, .int .u64 N, .slice pb lb cb, .slice pw lw cw, .string str]] w fun e w' => e = .returned (.bool true) ∧ Game w0 w' X (T + (8 + str.size)) := by
  obtain ⟨s, g, hH, hR, hS, rfl⟩ := h.out
  have H1 := has_box hH #[.int .i64 12, .int .i64 who, .int .i64 a, .int .i64 b, .int .u32 W, .int .u32 V, .int .u64 N, .slice pb lb cb, .slice pw lw cw, .string str]
  have R1 := hR.other 21 0 (by omega) (.blk w.heap.size (#[.int .i64 12, .int .i64 who, .int .i64 a, .int .i64 b, .int .u32 W, .int .u32 V, .int .u64 N, .slice pb lb cb, .slice pw lw cw, .string str] : Array Value).toList 41)
  obtain ⟨bo, hbo⟩ : ∃ bo, bo = w.heap.size := ⟨_, rfl⟩
  obtain ⟨w1, hw1⟩ : ∃ w1, w1 = w.alloc (.cells #[.int .i64 12, .int .i64 who, .int .i64 a, .int .i64 b, .int .u32 W, .int .u32 V, .int .u64 N, .slice pb lb cb, .slice pw lw cw, .string str] 41) := ⟨_, rfl⟩
  obtain ⟨s1, hs1⟩ : ∃ s1, s1 = upd s (21, 0) (.blk w.heap.size (#[.int .i64 12, .int .i64 who, .int .i64 a, .int .i64 b, .int .u32 W, .int .u32 V, .int .u64 N, .slice pb lb cb, .slice pw lw cw, .string str] : Array Value).toList 41) := ⟨_, rfl⟩
  have hO : s1 (21, 0) = .blk bo (#[.int .i64 12, .int .i64 who, .int .i64 a, .int .i64 b, .int .u32 W, .int .u32 V, .int .u64 N, .slice pb lb cb, .slice pw lw cw, .string str] : Array Value).toList 41 := by rw [hs1, hbo]; exact upd_self _ _ _
  rw [← hw1, ← hs1] at H1
  rw [← hs1] at R1
  clear hH hR hs1 h
  obtain ⟨X, sw, sv, sr, sq, sb, sk, gW, gV, gR, gQ, gB, gK⟩ := g
  have hn0 : 0 < gW.length := hS.w0
  have hnT : gW.length ≤ T + 8 := hS.w
  obtain ⟨i, hi⟩ : ∃ i : Nat, pickZ who gW.length = (i : Int) := ⟨(pickZ who gW.length).toNat, by have := (pickZ_bd who gW.length (by omega)).1; omega⟩
  have hiL : i < gW.length := by have := (pickZ_bd who gW.length (by omega)).2; omega
  have HPK : Hid (∀ w, Calls Try.prog 32 #[.int .i64 who, .int .i64 (gW.length : Int)] w fun e w' => e = .returned (.int .i64 (i : Int)) ∧ w' = w) := fun w => by
    have := pick_any who gW.length w (by omega) hwho.1 hwho.2 (by omega)
    rw [hi] at this
    exact this
  obtain ⟨bW, xs, bV, vV, eW, eV, kW, kV⟩ := wr_at R1 i hiL
  have hxT : xs.length ≤ T := hS.ws i bW xs eW
  have rw1 := R1.rw
  have rv1 := R1.rv
  have x1 := R1.x
  have hlV : gV.length = gW.length := R1.lenV
  dsimp only at rw1 rv1 x1 eW eV
  obtain ⟨aW, cW, rfl, q1, q2⟩ := row_some H1 rw1 hn0
  obtain ⟨aV, cV, rfl, q3, q4⟩ := row_some H1 rv1 (by omega)
  have HPKd : Hid (∀ k, Calls Try.prog 32 #[.int .i64 who, .int .i64 (gW.length : Int)] (w1.drewN k) fun e w' => e = .returned (.int .i64 (i : Int)) ∧ w' = w1.drewN k) := fun k => HPK.out _
  obtain ⟨L, hL⟩ : ∃ L, L = gW.length := ⟨_, rfl⟩
  rw [hlV] at rv1
  rw [hlV] at x1
  have HR : Hid (Rel s1 _ w0) := R1
  have HS : Hid (Small _ T) := hS
  have HXT : Hid (True ∧ xs.length ≤ T ∧ T ≤ 2147483700) := ⟨trivial, hxT, hT⟩
  have HE : Hid (gW[i]? = some (bW, xs) ∧ gV[i]? = some (bV, vV)) := ⟨eW, eV⟩
  rw [← hL] at rw1 rv1 x1 HPKd
  have hLb : (L : Int) ≤ 2147483708 := by omega
  have hiL' : (i : Int) < (L : Int) := by omega
  clear hL hlV hn0 hnT hi hiL q1 q2 q3 q4 R1 hS HPK hxT hT eW eV
  have HH : Hid (Has s1 w1) := H1
  have Hw : Hid (s1 (2, 0) = _) := rw1
  have Hv : Hid (s1 (3, 0) = _) := rv1
  have Hx : Hid (s1 (1, 0) = _) := x1
  have HO : Hid (s1 (21, 0) = _) := hO
  have HkW : Hid (s1 (8, i) = _) := kW
  have HkV : Hid (s1 (9, i) = _) := kV
  clear rw1 rv1 x1 hO kW kV
  obtain ⟨x0, -, -, -, -, -⟩ := cells_x H1 Hx.out
  have r0 := cell_row H1 _ _ Hw.out i _ HE.out.1
  have BO := (H1.blk HO.out).1
  have o0 := BO.cell (i := 0) rfl
  have o1 := BO.cell (i := 1) rfl
  have o5 := BO.cell (i := 5) rfl
  have o6 := BO.cell (i := 6) rfl
  have o9 := BO.cell (i := 9) rfl
  unfold ptr at r0
  dsimp only at r0
  clear BO H1
  go_enter Try.func14, Try.ntmps14
  go_wp2_with fail
  rw [← hbo, ← hw1]
  clear hbo hw1
  go_quiet ((go_at_call 32; exact (HPKd.out _).mono fun e w2 h2 => ⟨h2.1, _, h2.2⟩))
  go_wp2_with fail
  have HST : Hid (True ∧ str.size ≤ 2147483647) := ⟨trivial, hstr⟩
  clear hstr
  refine region_tail 9 (by kernel_rfl) ?_
  simp only [List.take_succ_cons, List.take_zero, List.drop_succ_cons, List.drop_zero]
  repeat still_step
  refine wpStill_nil ?_
  go_wp2_with fail
  have HD1 := HH.out.quiet ((Keeps.refl _ w1).drewN (nq + 1))
  obtain ⟨gw, hWr, nextW⟩ := HD1.wr HkW.out
  refine (wText_any bW str gw xs _ hWr (by have := HST.out; omega) (by have := HXT.out; have := HST.out; omega)).mono ?_
  rintro e w2 ⟨rfl, g', hw2, hg', hK2⟩
  have H2 := nextW _ _ _ hw2 hg' hK2
  obtain ⟨-, y1, -, -, -, -⟩ := cells_x H2 (by rw [upd_ne _ _ _ _ (by simp)]; exact Hx.out)
  have t0 := cell_row H2 (o := (3, 0)) _ _ (by rw [upd_ne _ _ _ _ (by simp)]; exact Hv.out) i _ HE.out.2
  have BO2 := (H2.blk (o := (21, 0)) (by rw [upd_ne _ _ _ _ (by simp)]; exact HO.out)).1
  have p0 := BO2.cell (i := 0) rfl
  have p5 := BO2.cell (i := 5) rfl
  have p6 := BO2.cell (i := 6) rfl
  have p9 := BO2.cell (i := 9) rfl
  unfold ptr at t0
  dsimp only at t0
  have HH2 : Hid (Has _ w2) := H2
  clear x0 r0 o0 o1 o5 o6 o9 BO2 H2 hw2 hg' hK2 hWr nextW HD1
  go_wp2_with fail
  refine region_tail 9 (by kernel_rfl) ?_
  simp only [List.take_succ_cons, List.take_zero, List.drop_succ_cons, List.drop_zero]
  repeat still_step
  refine wpStill_nil ?_
  go_wp2_with fail
  have HD2 := HH2.out.quiet ((Keeps.refl _ w2).drewN 1)
  obtain ⟨hRW, nextV⟩ := HD2.dw (o := (9, i)) (by rw [upd_ne _ _ _ _ (by simp)]; exact HkV.out)
  refine (refText_any bV str vV xs _ hRW (by have := HST.out; omega) (by have := HXT.out; omega)).mono ?_
  rintro e w3 ⟨rfl, v', hw3, hD⟩
  have H3 := nextV _ _ _ hw3 hD
  have HH3 : Hid (Has _ w3) := H3
  clear H3 hw3 hD hRW nextV HD2 y1 t0 p5 p6 p9
  go_wp2
  go_ret
  exact ⟨rfl, ⟨_, _, HH3.out, HR.out.wrote HE.out.1 HE.out.2, HS.out.wrote (by omega) (by have := HXT.out; simp only [List.length_append, lowB_length]; have hq : str.data.toList.length = str.size := rfl; omega), rfl⟩⟩

end Go.Proofs.Ytonjmknjjdnjkaa
