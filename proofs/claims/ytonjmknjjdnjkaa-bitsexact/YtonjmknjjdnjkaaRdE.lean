import Derived.Test.YtonjmknjjdnjkaaRdA
namespace Go.Proofs.Ytonjmknjjdnjkaa
open Go.RowKit
set_option linter.unusedVariables false

set_option maxRecDepth 100000 in
set_option maxHeartbeats 4000000 in
theorem reads_other (kd who a b : Int) (W V N : Nat) (pb : Option Addr) (lb cb : Nat) (pw : Option Addr) (lw cw : Nat) (str : ByteArray) (w0 w : World) (X T : Nat) (h : Game w0 w X T) (hwho : in64 who) (hT : T ≤ 2147483700) (hkd : 20 < kd) :
    Calls Try.prog 15 #[.pointer (some ⟨X, 0, none⟩), .agg #[.int .i64 kd, .int .i64 who, .int .i64 a, .int .i64 b, .int .u32 W, .int .u32 V, .int .u64 N, .slice pb lb cb, .slice pw lw cw, .string str]] w fun e w' => e = .returned (.bool true) ∧ Game w0 w' X (T + 8) := by
  obtain ⟨s, g, hH, hR, hS, rfl⟩ := h.out
  have H1 := has_box hH #[.int .i64 kd, .int .i64 who, .int .i64 a, .int .i64 b, .int .u32 W, .int .u32 V, .int .u64 N, .slice pb lb cb, .slice pw lw cw, .string str]
  have R1 := hR.other 21 0 (by omega) (.blk w.heap.size (#[.int .i64 kd, .int .i64 who, .int .i64 a, .int .i64 b, .int .u32 W, .int .u32 V, .int .u64 N, .slice pb lb cb, .slice pw lw cw, .string str] : Array Value).toList 41)
  obtain ⟨bo, hbo⟩ : ∃ bo, bo = w.heap.size := ⟨_, rfl⟩
  obtain ⟨w1, hw1⟩ : ∃ w1, w1 = w.alloc (.cells #[.int .i64 kd, .int .i64 who, .int .i64 a, .int .i64 b, .int .u32 W, .int .u32 V, .int .u64 N, .slice pb lb cb, .slice pw lw cw, .string str] 41) := ⟨_, rfl⟩
  obtain ⟨s1, hs1⟩ : ∃ s1, s1 = upd s (21, 0) (.blk w.heap.size (#[.int .i64 kd, .int .i64 who, .int .i64 a, .int .i64 b, .int .u32 W, .int .u32 V, .int .u64 N, .slice pb lb cb, .slice pw lw cw, .string str] : Array Value).toList 41) := ⟨_, rfl⟩
  have hO : s1 (21, 0) = .blk bo (#[.int .i64 kd, .int .i64 who, .int .i64 a, .int .i64 b, .int .u32 W, .int .u32 V, .int .u64 N, .slice pb lb cb, .slice pw lw cw, .string str] : Array Value).toList 41 := by rw [hs1, hbo]; exact upd_self _ _ _
  rw [← hw1, ← hs1] at H1
  rw [← hs1] at R1
  clear hH hR hs1 h
  obtain ⟨X, sw, sv, sr, sq, sb, sk, gW, gV, gR, gQ, gB, gK⟩ := g
  have hn0 : 0 < gR.length := hS.r0
  have hnT : gR.length ≤ T + 8 := hS.r
  obtain ⟨i, hi⟩ : ∃ i : Nat, pickZ who gR.length = (i : Int) := ⟨(pickZ who gR.length).toNat, by have := (pickZ_bd who gR.length (by omega)).1; omega⟩
  have hiL : i < gR.length := by have := (pickZ_bd who gR.length (by omega)).2; omega
  have HPK : Hid (∀ w, Calls Try.prog 32 #[.int .i64 who, .int .i64 (gR.length : Int)] w fun e w' => e = .returned (.int .i64 (i : Int)) ∧ w' = w) := fun w => by
    have := pick_any who gR.length w (by omega) hwho.1 hwho.2 (by omega)
    rw [hi] at this
    exact this
  obtain ⟨bR, xs, p, er, bQ, vQ, eR, eQ, kR, kQ⟩ := rd_at R1 i hiL
  have hxT : xs.length ≤ T + 8 := hS.rs i bR xs p er eR
  have rr1 := R1.rr
  have rq1 := R1.rq
  have x1 := R1.x
  have hlQ : gQ.length = gR.length := R1.lenQ
  dsimp only at rr1 rq1 x1 eR eQ
  obtain ⟨aR, cR, rfl, q1, q2⟩ := row_some H1 rr1 hn0
  obtain ⟨aQ, cQ, rfl, q3, q4⟩ := row_some H1 rq1 (by omega)
  have HPKd : Hid (∀ k, Calls Try.prog 32 #[.int .i64 who, .int .i64 (gR.length : Int)] (w1.drewN k) fun e w' => e = .returned (.int .i64 (i : Int)) ∧ w' = w1.drewN k) := fun k => HPK.out _
  obtain ⟨L, hL⟩ : ∃ L, L = gR.length := ⟨_, rfl⟩
  rw [hlQ] at rq1
  rw [hlQ] at x1
  have HR : Hid (Rel s1 _ w0) := R1
  have HS : Hid (Small _ T) := hS
  have HXT : Hid (True ∧ xs.length ≤ T + 8 ∧ T ≤ 2147483700) := ⟨trivial, hxT, hT⟩
  have HE : Hid (gR[i]? = some (bR, xs, p, er) ∧ gQ[i]? = some (bQ, vQ)) := ⟨eR, eQ⟩
  rw [← hL] at rr1 rq1 x1 HPKd
  have hLb : (L : Int) ≤ 2147483708 := by omega
  have hiL' : (i : Int) < (L : Int) := by omega
  clear hL hlQ hn0 hnT hi hiL q1 q2 q3 q4 R1 hS HPK hxT hT eR eQ
  have HH : Hid (Has s1 w1) := H1
  have Hr : Hid (s1 (4, 0) = _) := rr1
  have Hq : Hid (s1 (5, 0) = _) := rq1
  have Hx : Hid (s1 (1, 0) = _) := x1
  have HO : Hid (s1 (21, 0) = _) := hO
  have HkR : Hid (s1 (10, i) = _) := kR
  have HkQ : Hid (s1 (11, i) = _) := kQ
  clear rr1 rq1 x1 hO kR kQ
  obtain ⟨-, -, x2, -, -, -⟩ := cells_x H1 Hx.out
  have r0 := cell_row H1 _ _ Hr.out i _ HE.out.1
  have BO := (H1.blk HO.out).1
  have o0 := BO.cell (i := 0) rfl
  have o1 := BO.cell (i := 1) rfl
  have o2 := BO.cell (i := 2) rfl
  unfold ptr at r0
  dsimp only at r0
  clear BO H1
  go_enter Try.func15, Try.ntmps15
  go_wp2_with fail
  rw [← hbo, ← hw1]
  clear hbo hw1
  go_quiet ((go_at_call 32; exact (HPKd.out _).mono fun e w2 h2 => ⟨h2.1, _, h2.2⟩))
  go_wp2_with fail
  have HD1 := HH.out.quiet ((Keeps.refl _ w1).drewN nq)
  go_ret
  exact ⟨rfl, ⟨_, _, HD1, HR.out, HS.out.more (by omega), rfl⟩⟩

end Go.Proofs.Ytonjmknjjdnjkaa
namespace Go.Proofs.Ytonjmknjjdnjkaa
open Go.RowKit
set_option linter.unusedVariables false

set_option maxRecDepth 100000 in
set_option maxHeartbeats 4000000 in
theorem reads_20 (who a b : Int) (W V N : Nat) (pb : Option Addr) (lb cb : Nat) (pw : Option Addr) (lw cw : Nat) (str : ByteArray) (w0 w : World) (X T : Nat) (h : Game w0 w X T) (hwho : in64 who) (hT : T ≤ 2147483700) :
    Calls Try.prog 15 #[.pointer (some ⟨X, 0, none⟩), .agg #[.int .i64 20, .int .i64 who, .int .i64 a, .int .i64 b, .int .u32 W, .int .u32 V, .int .u64 N, .slice pb lb cb, .slice pw lw cw, .string str]] w fun e w' => e = .returned (.bool true) ∧ Game w0 w' X (T + 8) := by
  obtain ⟨s, g, hH, hR, hS, rfl⟩ := h.out
  have H1 := has_box hH #[.int .i64 20, .int .i64 who, .int .i64 a, .int .i64 b, .int .u32 W, .int .u32 V, .int .u64 N, .slice pb lb cb, .slice pw lw cw, .string str]
  have R1 := hR.other 21 0 (by omega) (.blk w.heap.size (#[.int .i64 20, .int .i64 who, .int .i64 a, .int .i64 b, .int .u32 W, .int .u32 V, .int .u64 N, .slice pb lb cb, .slice pw lw cw, .string str] : Array Value).toList 41)
  obtain ⟨bo, hbo⟩ : ∃ bo, bo = w.heap.size := ⟨_, rfl⟩
  obtain ⟨w1, hw1⟩ : ∃ w1, w1 = w.alloc (.cells #[.int .i64 20, .int .i64 who, .int .i64 a, .int .i64 b, .int .u32 W, .int .u32 V, .int .u64 N, .slice pb lb cb, .slice pw lw cw, .string str] 41) := ⟨_, rfl⟩
  obtain ⟨s1, hs1⟩ : ∃ s1, s1 = upd s (21, 0) (.blk w.heap.size (#[.int .i64 20, .int .i64 who, .int .i64 a, .int .i64 b, .int .u32 W, .int .u32 V, .int .u64 N, .slice pb lb cb, .slice pw lw cw, .string str] : Array Value).toList 41) := ⟨_, rfl⟩
  have hO : s1 (21, 0) = .blk bo (#[.int .i64 20, .int .i64 who, .int .i64 a, .int .i64 b, .int .u32 W, .int .u32 V, .int .u64 N, .slice pb lb cb, .slice pw lw cw, .string str] : Array Value).toList 41 := by rw [hs1, hbo]; exact upd_self _ _ _
  rw [← hw1, ← hs1] at H1
  rw [← hs1] at R1
  clear hH hR hs1 h
  obtain ⟨X, sw, sv, sr, sq, sb, sk, gW, gV, gR, gQ, gB, gK⟩ := g
  have hn0 : 0 < gR.length := hS.r0
  have hnT : gR.length ≤ T + 8 := hS.r
  obtain ⟨i, hi⟩ : ∃ i : Nat, pickZ who gR.length = (i : Int) := ⟨(pickZ who gR.length).toNat, by have := (pickZ_bd who gR.length (by omega)).1; omega⟩
  have hiL : i < gR.length := by have := (pickZ_bd who gR.length (by omega)).2; omega
  have HPK : Hid (∀ w, Calls Try.prog 32 #[.int .i64 who, .int .i64 (gR.length : Int)] w fun e w' => e = .returned (.int .i64 (i : Int)) ∧ w' = w) := fun w => by
    have := pick_any who gR.length w (by omega) hwho.1 hwho.2 (by omega)
    rw [hi] at this
    exact this
  obtain ⟨bR, xs, p, er, bQ, vQ, eR, eQ, kR, kQ⟩ := rd_at R1 i hiL
  have hxT : xs.length ≤ T + 8 := hS.rs i bR xs p er eR
  have rr1 := R1.rr
  have rq1 := R1.rq
  have x1 := R1.x
  have hlQ : gQ.length = gR.length := R1.lenQ
  dsimp only at rr1 rq1 x1 eR eQ
  obtain ⟨aR, cR, rfl, q1, q2⟩ := row_some H1 rr1 hn0
  obtain ⟨aQ, cQ, rfl, q3, q4⟩ := row_some H1 rq1 (by omega)
  have HPKd : Hid (∀ k, Calls Try.prog 32 #[.int .i64 who, .int .i64 (gR.length : Int)] (w1.drewN k) fun e w' => e = .returned (.int .i64 (i : Int)) ∧ w' = w1.drewN k) := fun k => HPK.out _
  obtain ⟨L, hL⟩ : ∃ L, L = gR.length := ⟨_, rfl⟩
  rw [hlQ] at rq1
  rw [hlQ] at x1
  have HR : Hid (Rel s1 _ w0) := R1
  have HS : Hid (Small _ T) := hS
  have HXT : Hid (True ∧ xs.length ≤ T + 8 ∧ T ≤ 2147483700) := ⟨trivial, hxT, hT⟩
  have HE : Hid (gR[i]? = some (bR, xs, p, er) ∧ gQ[i]? = some (bQ, vQ)) := ⟨eR, eQ⟩
  rw [← hL] at rr1 rq1 x1 HPKd
  have hLb : (L : Int) ≤ 2147483708 := by omega
  have hiL' : (i : Int) < (L : Int) := by omega
  clear hL hlQ hn0 hnT hi hiL q1 q2 q3 q4 R1 hS HPK hxT hT eR eQ
  have HH : Hid (Has s1 w1) := H1
  have Hr : Hid (s1 (4, 0) = _) := rr1
  have Hq : Hid (s1 (5, 0) = _) := rq1
  have Hx : Hid (s1 (1, 0) = _) := x1
  have HO : Hid (s1 (21, 0) = _) := hO
  have HkR : Hid (s1 (10, i) = _) := kR
  have HkQ : Hid (s1 (11, i) = _) := kQ
  clear rr1 rq1 x1 hO kR kQ
  obtain ⟨-, -, x2, -, -, -⟩ := cells_x H1 Hx.out
  have r0 := cell_row H1 _ _ Hr.out i _ HE.out.1
  have BO := (H1.blk HO.out).1
  have o0 := BO.cell (i := 0) rfl
  have o1 := BO.cell (i := 1) rfl
  have o2 := BO.cell (i := 2) rfl
  unfold ptr at r0
  dsimp only at r0
  clear BO H1
  go_enter Try.func15, Try.ntmps15
  go_wp2_with fail
  rw [← hbo, ← hw1]
  clear hbo hw1
  go_quiet ((go_at_call 32; exact (HPKd.out _).mono fun e w2 h2 => ⟨h2.1, _, h2.2⟩))
  have HD1 := HH.out.quiet ((Keeps.refl _ w1).drewN nq)
  obtain ⟨gw, hRd, nextR⟩ := HD1.rd HkR.out
  obtain ⟨hRR, nextQ⟩ := HD1.dr HkQ.out
  have HRd : Hid (Rd (w1.drewN nq) bR gw xs p er ∧ ∀ k, RR (w1.drewN k) bQ vQ xs p er) := ⟨hRd, fun k => (HH.out.dr HkQ.out).1.kept (S := fun _ => False) ((Keeps.refl _ w1).drewN k) (fun e => e) (fun _ _ e => e)⟩
  obtain ⟨-, -, -, y3, -, -⟩ := cells_x HH.out Hx.out
  have t0 := cell_row HH.out (o := (5, 0)) _ _ Hq.out i _ HE.out.2
  unfold ptr at t0
  dsimp only at t0
  have z1 : w1.cell? ⟨bQ, 1, none⟩ = some (.int .i64 p) := hRR.blk.cell (i := 1) rfl
  have z2 : w1.cell? ⟨bQ, 2, none⟩ = some (.int .i64 er) := hRR.blk.cell (i := 2) rfl
  obtain ⟨E, hE⟩ : ∃ E, endE xs p er = E := ⟨_, rfl⟩
  obtain ⟨D, hD⟩ : ∃ D, (xs.length : Int) - p = D := ⟨_, rfl⟩
  have HED : Hid (endE xs p er = E ∧ (xs.length : Int) - p = D) := ⟨hE, hD⟩
  clear HD1 hRd hRR nextR nextQ hE hD
  go_wp2_with fail
  refine (rLeft_any bR gw p er xs _ HRd.out.1).mono ?_
  rintro e w2 ⟨rfl, rfl⟩
  rw [HED.out.2]
  go_wp2_with fail
  refine (rAt_any bR gw p er xs _ HRd.out.1).mono ?_
  rintro e w2 ⟨rfl, rfl⟩
  go_wp2_with fail
  refine (rFault_any bR gw p er xs _ HRd.out.1).mono ?_
  rintro e w2 ⟨rfl, rfl⟩
  go_wp2_with fail
  refine (rEnd_any bR gw p er xs _ HRd.out.1).mono ?_
  rintro e w2 ⟨rfl, rfl⟩
  rw [HED.out.1]
  clear x2 r0
  go_wp2_with fail
  refine (refRLeft_any bQ p er vQ xs _ (HRd.out.2 nq)).mono ?_
  rintro e w2 ⟨rfl, k2, rfl⟩
  rw [HED.out.2]
  go_wp2_with fail
  refine (refREnd_any bQ p er vQ xs _ (HRd.out.2 _)).mono ?_
  rintro e w2 ⟨rfl, k3, rfl⟩
  rw [HED.out.1]
  go_wp2
  go_ret
  exact ⟨rfl, ⟨_, _, HH.out.quiet ((Keeps.refl _ w1).drewN _), HR.out, HS.out.more (by omega), rfl⟩⟩

end Go.Proofs.Ytonjmknjjdnjkaa
namespace Go.Proofs.Ytonjmknjjdnjkaa
open Go.RowKit
set_option linter.unusedVariables false

set_option maxRecDepth 100000 in
set_option maxHeartbeats 4000000 in
theorem reads_16 (who a b : Int) (W V N : Nat) (pb : Option Addr) (lb cb : Nat) (pw : Option Addr) (lw cw : Nat) (str : ByteArray) (w0 w : World) (X T : Nat) (h : Game w0 w X T) (hwho : in64 who) (hT : T ≤ 2147483700) :
    Calls Try.prog 15 #[.pointer (some ⟨X, 0, none⟩), .agg #[.int .i64 16, .int .i64 who, .int .i64 a, .int .i64 b, .int .u32 W, .int .u32 V, .int .u64 N, .slice pb lb cb, .slice pw lw cw, .string str]] w fun e w' => e = .returned (.bool true) ∧ Game w0 w' X (T + 8) := by
  obtain ⟨s, g, hH, hR, hS, rfl⟩ := h.out
  have H1 := has_box hH #[.int .i64 16, .int .i64 who, .int .i64 a, .int .i64 b, .int .u32 W, .int .u32 V, .int .u64 N, .slice pb lb cb, .slice pw lw cw, .string str]
  have R1 := hR.other 21 0 (by omega) (.blk w.heap.size (#[.int .i64 16, .int .i64 who, .int .i64 a, .int .i64 b, .int .u32 W, .int .u32 V, .int .u64 N, .slice pb lb cb, .slice pw lw cw, .string str] : Array Value).toList 41)
  obtain ⟨bo, hbo⟩ : ∃ bo, bo = w.heap.size := ⟨_, rfl⟩
  obtain ⟨w1, hw1⟩ : ∃ w1, w1 = w.alloc (.cells #[.int .i64 16, .int .i64 who, .int .i64 a, .int .i64 b, .int .u32 W, .int .u32 V, .int .u64 N, .slice pb lb cb, .slice pw lw cw, .string str] 41) := ⟨_, rfl⟩
  obtain ⟨s1, hs1⟩ : ∃ s1, s1 = upd s (21, 0) (.blk w.heap.size (#[.int .i64 16, .int .i64 who, .int .i64 a, .int .i64 b, .int .u32 W, .int .u32 V, .int .u64 N, .slice pb lb cb, .slice pw lw cw, .string str] : Array Value).toList 41) := ⟨_, rfl⟩
  have hO : s1 (21, 0) = .blk bo (#[.int .i64 16, .int .i64 who, .int .i64 a, .int .i64 b, .int .u32 W, .int .u32 V, .int .u64 N, .slice pb lb cb, .slice pw lw cw, .string str] : Array Value).toList 41 := by rw [hs1, hbo]; exact upd_self _ _ _
  rw [← hw1, ← hs1] at H1
  rw [← hs1] at R1
  clear hH hR hs1 h
  obtain ⟨X, sw, sv, sr, sq, sb, sk, gW, gV, gR, gQ, gB, gK⟩ := g
  have hn0 : 0 < gR.length := hS.r0
  have hnT : gR.length ≤ T + 8 := hS.r
  obtain ⟨i, hi⟩ : ∃ i : Nat, pickZ who gR.length = (i : Int) := ⟨(pickZ who gR.length).toNat, by have := (pickZ_bd who gR.length (by omega)).1; omega⟩
  have hiL : i < gR.length := by have := (pickZ_bd who gR.length (by omega)).2; omega
  have HPK : Hid (∀ w, Calls Try.prog 32 #[.int .i64 who, .int .i64 (gR.length : Int)] w fun e w' => e = .returned (.int .i64 (i : Int)) ∧ w' = w) := fun w => by
    have := pick_any who gR.length w (by omega) hwho.1 hwho.2 (by omega)
    rw [hi] at this
    exact this
  obtain ⟨bR, xs, p, er, bQ, vQ, eR, eQ, kR, kQ⟩ := rd_at R1 i hiL
  have hxT : xs.length ≤ T + 8 := hS.rs i bR xs p er eR
  have rr1 := R1.rr
  have rq1 := R1.rq
  have x1 := R1.x
  have hlQ : gQ.length = gR.length := R1.lenQ
  dsimp only at rr1 rq1 x1 eR eQ
  obtain ⟨aR, cR, rfl, q1, q2⟩ := row_some H1 rr1 hn0
  obtain ⟨aQ, cQ, rfl, q3, q4⟩ := row_some H1 rq1 (by omega)
  have HPKd : Hid (∀ k, Calls Try.prog 32 #[.int .i64 who, .int .i64 (gR.length : Int)] (w1.drewN k) fun e w' => e = .returned (.int .i64 (i : Int)) ∧ w' = w1.drewN k) := fun k => HPK.out _
  obtain ⟨L, hL⟩ : ∃ L, L = gR.length := ⟨_, rfl⟩
  rw [hlQ] at rq1
  rw [hlQ] at x1
  have HR : Hid (Rel s1 _ w0) := R1
  have HS : Hid (Small _ T) := hS
  have HXT : Hid (True ∧ xs.length ≤ T + 8 ∧ T ≤ 2147483700) := ⟨trivial, hxT, hT⟩
  have HE : Hid (gR[i]? = some (bR, xs, p, er) ∧ gQ[i]? = some (bQ, vQ)) := ⟨eR, eQ⟩
  rw [← hL] at rr1 rq1 x1 HPKd
  have hLb : (L : Int) ≤ 2147483708 := by omega
  have hiL' : (i : Int) < (L : Int) := by omega
  clear hL hlQ hn0 hnT hi hiL q1 q2 q3 q4 R1 hS HPK hxT hT eR eQ
  have HH : Hid (Has s1 w1) := H1
  have Hr : Hid (s1 (4, 0) = _) := rr1
  have Hq : Hid (s1 (5, 0) = _) := rq1
  have Hx : Hid (s1 (1, 0) = _) := x1
  have HO : Hid (s1 (21, 0) = _) := hO
  have HkR : Hid (s1 (10, i) = _) := kR
  have HkQ : Hid (s1 (11, i) = _) := kQ
  clear rr1 rq1 x1 hO kR kQ
  obtain ⟨-, -, x2, -, -, -⟩ := cells_x H1 Hx.out
  have r0 := cell_row H1 _ _ Hr.out i _ HE.out.1
  have BO := (H1.blk HO.out).1
  have o0 := BO.cell (i := 0) rfl
  have o1 := BO.cell (i := 1) rfl
  have o2 := BO.cell (i := 2) rfl
  unfold ptr at r0
  dsimp only at r0
  clear BO H1
  go_enter Try.func15, Try.ntmps15
  go_wp2_with fail
  rw [← hbo, ← hw1]
  clear hbo hw1
  go_quiet ((go_at_call 32; exact (HPKd.out _).mono fun e w2 h2 => ⟨h2.1, _, h2.2⟩))
  go_wp2_with fail
  have HD1 := HH.out.quiet ((Keeps.refl _ w1).drewN nq)
  obtain ⟨gw, hRd, nextR⟩ := HD1.rd HkR.out
  refine (rU8_any bR gw p er xs _ hRd).mono ?_
  rintro e w2 ⟨rfl, hw2, hK2⟩
  have H2 := nextR _ _ _ hw2 hK2
  obtain ⟨-, -, -, y3, -, -⟩ := cells_x H2 (by rw [upd_ne _ _ _ _ (by simp)]; exact Hx.out)
  have t0 := cell_row H2 (o := (5, 0)) _ _ (by rw [upd_ne _ _ _ _ (by simp)]; exact Hq.out) i _ HE.out.2
  unfold ptr at t0
  dsimp only at t0
  have HH2 : Hid (Has _ w2) := H2
  have hlt := numV_lt xs p er 1
  obtain ⟨V0, hV0⟩ : ∃ V0, numV xs p er 1 = V0 := ⟨_, rfl⟩
  rw [hV0] at hlt ⊢
  have HV0 : Hid (numV xs p er 1 = V0) := hV0
  have hc1 : (V0 : Int) < 256 := by omega
  clear x2 r0 o0 o1 o2 H2 hw2 hK2 hRd nextR HD1 hV0 hlt
  go_wp2_with fail
  obtain ⟨hRR, nextQ⟩ := HH2.out.dr (o := (11, i)) (by rw [upd_ne _ _ _ _ (by simp)]; exact HkQ.out)
  refine (refRNumber_any bQ p 1 er vQ xs _ hRR (by omega) (by omega)).mono ?_
  rintro e w3 ⟨rfl, hw3, hK3⟩
  have H3 := nextQ _ _ _ hw3 hK3
  have HH3 : Hid (Has _ w3) := H3
  rw [HV0.out]
  clear H3 hw3 hK3 hRR nextQ y3 t0
  go_wp2
  go_ret
  exact ⟨rfl, ⟨_, _, HH3.out, HR.out.readd HE.out.1 HE.out.2, HS.out.readd (by omega) HE.out.1, rfl⟩⟩

set_option maxRecDepth 100000 in
set_option maxHeartbeats 4000000 in
theorem reads_17 (who a b : Int) (W V N : Nat) (pb : Option Addr) (lb cb : Nat) (pw : Option Addr) (lw cw : Nat) (str : ByteArray) (w0 w : World) (X T : Nat) (h : Game w0 w X T) (hwho : in64 who) (hT : T ≤ 2147483700) :
    Calls Try.prog 15 #[.pointer (some ⟨X, 0, none⟩), .agg #[.int .i64 17, .int .i64 who, .int .i64 a, .int .i64 b, .int .u32 W, .int .u32 V, .int .u64 N, .slice pb lb cb, .slice pw lw cw, .string str]] w fun e w' => e = .returned (.bool true) ∧ Game w0 w' X (T + 8) := by
  obtain ⟨s, g, hH, hR, hS, rfl⟩ := h.out
  have H1 := has_box hH #[.int .i64 17, .int .i64 who, .int .i64 a, .int .i64 b, .int .u32 W, .int .u32 V, .int .u64 N, .slice pb lb cb, .slice pw lw cw, .string str]
  have R1 := hR.other 21 0 (by omega) (.blk w.heap.size (#[.int .i64 17, .int .i64 who, .int .i64 a, .int .i64 b, .int .u32 W, .int .u32 V, .int .u64 N, .slice pb lb cb, .slice pw lw cw, .string str] : Array Value).toList 41)
  obtain ⟨bo, hbo⟩ : ∃ bo, bo = w.heap.size := ⟨_, rfl⟩
  obtain ⟨w1, hw1⟩ : ∃ w1, w1 = w.alloc (.cells #[.int .i64 17, .int .i64 who, .int .i64 a, .int .i64 b, .int .u32 W, .int .u32 V, .int .u64 N, .slice pb lb cb, .slice pw lw cw, .string str] 41) := ⟨_, rfl⟩
  obtain ⟨s1, hs1⟩ : ∃ s1, s1 = upd s (21, 0) (.blk w.heap.size (#[.int .i64 17, .int .i64 who, .int .i64 a, .int .i64 b, .int .u32 W, .int .u32 V, .int .u64 N, .slice pb lb cb, .slice pw lw cw, .string str] : Array Value).toList 41) := ⟨_, rfl⟩
  have hO : s1 (21, 0) = .blk bo (#[.int .i64 17, .int .i64 who, .int .i64 a, .int .i64 b, .int .u32 W, .int .u32 V, .int .u64 N, .slice pb lb cb, .slice pw lw cw, .string str] : Array Value).toList 41 := by rw [hs1, hbo]; exact upd_self _ _ _
  rw [← hw1, ← hs1] at H1
  rw [← hs1] at R1
  clear hH hR hs1 h
  obtain ⟨X, sw, sv, sr, sq, sb, sk, gW, gV, gR, gQ, gB, gK⟩ := g
  have hn0 : 0 < gR.length := hS.r0
  have hnT : gR.length ≤ T + 8 := hS.r
  obtain ⟨i, hi⟩ : ∃ i : Nat, pickZ who gR.length = (i : Int) := ⟨(pickZ who gR.length).toNat, by have := (pickZ_bd who gR.length (by omega)).1; omega⟩
  have hiL : i < gR.length := by have := (pickZ_bd who gR.length (by omega)).2; omega
  have HPK : Hid (∀ w, Calls Try.prog 32 #[.int .i64 who, .int .i64 (gR.length : Int)] w fun e w' => e = .returned (.int .i64 (i : Int)) ∧ w' = w) := fun w => by
    have := pick_any who gR.length w (by omega) hwho.1 hwho.2 (by omega)
    rw [hi] at this
    exact this
  obtain ⟨bR, xs, p, er, bQ, vQ, eR, eQ, kR, kQ⟩ := rd_at R1 i hiL
  have hxT : xs.length ≤ T + 8 := hS.rs i bR xs p er eR
  have rr1 := R1.rr
  have rq1 := R1.rq
  have x1 := R1.x
  have hlQ : gQ.length = gR.length := R1.lenQ
  dsimp only at rr1 rq1 x1 eR eQ
  obtain ⟨aR, cR, rfl, q1, q2⟩ := row_some H1 rr1 hn0
  obtain ⟨aQ, cQ, rfl, q3, q4⟩ := row_some H1 rq1 (by omega)
  have HPKd : Hid (∀ k, Calls Try.prog 32 #[.int .i64 who, .int .i64 (gR.length : Int)] (w1.drewN k) fun e w' => e = .returned (.int .i64 (i : Int)) ∧ w' = w1.drewN k) := fun k => HPK.out _
  obtain ⟨L, hL⟩ : ∃ L, L = gR.length := ⟨_, rfl⟩
  rw [hlQ] at rq1
  rw [hlQ] at x1
  have HR : Hid (Rel s1 _ w0) := R1
  have HS : Hid (Small _ T) := hS
  have HXT : Hid (True ∧ xs.length ≤ T + 8 ∧ T ≤ 2147483700) := ⟨trivial, hxT, hT⟩
  have HE : Hid (gR[i]? = some (bR, xs, p, er) ∧ gQ[i]? = some (bQ, vQ)) := ⟨eR, eQ⟩
  rw [← hL] at rr1 rq1 x1 HPKd
  have hLb : (L : Int) ≤ 2147483708 := by omega
  have hiL' : (i : Int) < (L : Int) := by omega
  clear hL hlQ hn0 hnT hi hiL q1 q2 q3 q4 R1 hS HPK hxT hT eR eQ
  have HH : Hid (Has s1 w1) := H1
  have Hr : Hid (s1 (4, 0) = _) := rr1
  have Hq : Hid (s1 (5, 0) = _) := rq1
  have Hx : Hid (s1 (1, 0) = _) := x1
  have HO : Hid (s1 (21, 0) = _) := hO
  have HkR : Hid (s1 (10, i) = _) := kR
  have HkQ : Hid (s1 (11, i) = _) := kQ
  clear rr1 rq1 x1 hO kR kQ
  obtain ⟨-, -, x2, -, -, -⟩ := cells_x H1 Hx.out
  have r0 := cell_row H1 _ _ Hr.out i _ HE.out.1
  have BO := (H1.blk HO.out).1
  have o0 := BO.cell (i := 0) rfl
  have o1 := BO.cell (i := 1) rfl
  have o2 := BO.cell (i := 2) rfl
  unfold ptr at r0
  dsimp only at r0
  clear BO H1
  go_enter Try.func15, Try.ntmps15
  go_wp2_with fail
  rw [← hbo, ← hw1]
  clear hbo hw1
  go_quiet ((go_at_call 32; exact (HPKd.out _).mono fun e w2 h2 => ⟨h2.1, _, h2.2⟩))
  go_wp2_with fail
  have HD1 := HH.out.quiet ((Keeps.refl _ w1).drewN nq)
  obtain ⟨gw, hRd, nextR⟩ := HD1.rd HkR.out
  refine (rU32_any bR gw p er xs _ hRd).mono ?_
  rintro e w2 ⟨rfl, hw2, hK2⟩
  have H2 := nextR _ _ _ hw2 hK2
  obtain ⟨-, -, -, y3, -, -⟩ := cells_x H2 (by rw [upd_ne _ _ _ _ (by simp)]; exact Hx.out)
  have t0 := cell_row H2 (o := (5, 0)) _ _ (by rw [upd_ne _ _ _ _ (by simp)]; exact Hq.out) i _ HE.out.2
  unfold ptr at t0
  dsimp only at t0
  have HH2 : Hid (Has _ w2) := H2
  have hlt := numV_lt xs p er 4
  obtain ⟨V0, hV0⟩ : ∃ V0, numV xs p er 4 = V0 := ⟨_, rfl⟩
  rw [hV0] at hlt ⊢
  have HV0 : Hid (numV xs p er 4 = V0) := hV0
  have hc1 : (V0 : Int) < 4294967296 := by omega
  clear x2 r0 o0 o1 o2 H2 hw2 hK2 hRd nextR HD1 hV0 hlt
  go_wp2_with fail
  obtain ⟨hRR, nextQ⟩ := HH2.out.dr (o := (11, i)) (by rw [upd_ne _ _ _ _ (by simp)]; exact HkQ.out)
  refine (refRNumber_any bQ p 4 er vQ xs _ hRR (by omega) (by omega)).mono ?_
  rintro e w3 ⟨rfl, hw3, hK3⟩
  have H3 := nextQ _ _ _ hw3 hK3
  have HH3 : Hid (Has _ w3) := H3
  rw [HV0.out]
  clear H3 hw3 hK3 hRR nextQ y3 t0
  go_wp2
  go_ret
  exact ⟨rfl, ⟨_, _, HH3.out, HR.out.readd HE.out.1 HE.out.2, HS.out.readd (by omega) HE.out.1, rfl⟩⟩

set_option maxRecDepth 100000 in
set_option maxHeartbeats 4000000 in
theorem reads_18 (who a b : Int) (W V N : Nat) (pb : Option Addr) (lb cb : Nat) (pw : Option Addr) (lw cw : Nat) (str : ByteArray) (w0 w : World) (X T : Nat) (h : Game w0 w X T) (hwho : in64 who) (hT : T ≤ 2147483700) :
    Calls Try.prog 15 #[.pointer (some ⟨X, 0, none⟩), .agg #[.int .i64 18, .int .i64 who, .int .i64 a, .int .i64 b, .int .u32 W, .int .u32 V, .int .u64 N, .slice pb lb cb, .slice pw lw cw, .string str]] w fun e w' => e = .returned (.bool true) ∧ Game w0 w' X (T + 8) := by
  obtain ⟨s, g, hH, hR, hS, rfl⟩ := h.out
  have H1 := has_box hH #[.int .i64 18, .int .i64 who, .int .i64 a, .int .i64 b, .int .u32 W, .int .u32 V, .int .u64 N, .slice pb lb cb, .slice pw lw cw, .string str]
  have R1 := hR.other 21 0 (by omega) (.blk w.heap.size (#[.int .i64 18, .int .i64 who, .int .i64 a, .int .i64 b, .int .u32 W, .int .u32 V, .int .u64 N, .slice pb lb cb, .slice pw lw cw, .string str] : Array Value).toList 41)
  obtain ⟨bo, hbo⟩ : ∃ bo, bo = w.heap.size := ⟨_, rfl⟩
  obtain ⟨w1, hw1⟩ : ∃ w1, w1 = w.alloc (.cells #[.int .i64 18, .int .i64 who, .int .i64 a, .int .i64 b, .int .u32 W, .int .u32 V, .int .u64 N, .slice pb lb cb, .slice pw lw cw, .string str] 41) := ⟨_, rfl⟩
  obtain ⟨s1, hs1⟩ : ∃ s1, s1 = upd s (21, 0) (.blk w.heap.size (#[.int .i64 18, .int .i64 who, .int .i64 a, .int .i64 b, .int .u32 W, .int .u32 V, .int .u64 N, .slice pb lb cb, .slice pw lw cw, .string str] : Array Value).toList 41) := ⟨_, rfl⟩
  have hO : s1 (21, 0) = .blk bo (#[.int .i64 18, .int .i64 who, .int .i64 a, .int .i64 b, .int .u32 W, .int .u32 V, .int .u64 N, .slice pb lb cb, .slice pw lw cw, .string str] : Array Value).toList 41 := by rw [hs1, hbo]; exact upd_self _ _ _
  rw [← hw1, ← hs1] at H1
  rw [← hs1] at R1
  clear hH hR hs1 h
  obtain ⟨X, sw, sv, sr, sq, sb, sk, gW, gV, gR, gQ, gB, gK⟩ := g
  have hn0 : 0 < gR.length := hS.r0
  have hnT : gR.length ≤ T + 8 := hS.r
  obtain ⟨i, hi⟩ : ∃ i : Nat, pickZ who gR.length = (i : Int) := ⟨(pickZ who gR.length).toNat, by have := (pickZ_bd who gR.length (by omega)).1; omega⟩
  have hiL : i < gR.length := by have := (pickZ_bd who gR.length (by omega)).2; omega
  have HPK : Hid (∀ w, Calls Try.prog 32 #[.int .i64 who, .int .i64 (gR.length : Int)] w fun e w' => e = .returned (.int .i64 (i : Int)) ∧ w' = w) := fun w => by
    have := pick_any who gR.length w (by omega) hwho.1 hwho.2 (by omega)
    rw [hi] at this
    exact this
  obtain ⟨bR, xs, p, er, bQ, vQ, eR, eQ, kR, kQ⟩ := rd_at R1 i hiL
  have hxT : xs.length ≤ T + 8 := hS.rs i bR xs p er eR
  have rr1 := R1.rr
  have rq1 := R1.rq
  have x1 := R1.x
  have hlQ : gQ.length = gR.length := R1.lenQ
  dsimp only at rr1 rq1 x1 eR eQ
  obtain ⟨aR, cR, rfl, q1, q2⟩ := row_some H1 rr1 hn0
  obtain ⟨aQ, cQ, rfl, q3, q4⟩ := row_some H1 rq1 (by omega)
  have HPKd : Hid (∀ k, Calls Try.prog 32 #[.int .i64 who, .int .i64 (gR.length : Int)] (w1.drewN k) fun e w' => e = .returned (.int .i64 (i : Int)) ∧ w' = w1.drewN k) := fun k => HPK.out _
  obtain ⟨L, hL⟩ : ∃ L, L = gR.length := ⟨_, rfl⟩
  rw [hlQ] at rq1
  rw [hlQ] at x1
  have HR : Hid (Rel s1 _ w0) := R1
  have HS : Hid (Small _ T) := hS
  have HXT : Hid (True ∧ xs.length ≤ T + 8 ∧ T ≤ 2147483700) := ⟨trivial, hxT, hT⟩
  have HE : Hid (gR[i]? = some (bR, xs, p, er) ∧ gQ[i]? = some (bQ, vQ)) := ⟨eR, eQ⟩
  rw [← hL] at rr1 rq1 x1 HPKd
  have hLb : (L : Int) ≤ 2147483708 := by omega
  have hiL' : (i : Int) < (L : Int) := by omega
  clear hL hlQ hn0 hnT hi hiL q1 q2 q3 q4 R1 hS HPK hxT hT eR eQ
  have HH : Hid (Has s1 w1) := H1
  have Hr : Hid (s1 (4, 0) = _) := rr1
  have Hq : Hid (s1 (5, 0) = _) := rq1
  have Hx : Hid (s1 (1, 0) = _) := x1
  have HO : Hid (s1 (21, 0) = _) := hO
  have HkR : Hid (s1 (10, i) = _) := kR
  have HkQ : Hid (s1 (11, i) = _) := kQ
  clear rr1 rq1 x1 hO kR kQ
  obtain ⟨-, -, x2, -, -, -⟩ := cells_x H1 Hx.out
  have r0 := cell_row H1 _ _ Hr.out i _ HE.out.1
  have BO := (H1.blk HO.out).1
  have o0 := BO.cell (i := 0) rfl
  have o1 := BO.cell (i := 1) rfl
  have o2 := BO.cell (i := 2) rfl
  unfold ptr at r0
  dsimp only at r0
  clear BO H1
  go_enter Try.func15, Try.ntmps15
  go_wp2_with fail
  rw [← hbo, ← hw1]
  clear hbo hw1
  go_quiet ((go_at_call 32; exact (HPKd.out _).mono fun e w2 h2 => ⟨h2.1, _, h2.2⟩))
  go_wp2_with fail
  have HD1 := HH.out.quiet ((Keeps.refl _ w1).drewN nq)
  obtain ⟨gw, hRd, nextR⟩ := HD1.rd HkR.out
  refine (rU64_any bR gw p er xs _ hRd).mono ?_
  rintro e w2 ⟨rfl, hw2, hK2⟩
  have H2 := nextR _ _ _ hw2 hK2
  obtain ⟨-, -, -, y3, -, -⟩ := cells_x H2 (by rw [upd_ne _ _ _ _ (by simp)]; exact Hx.out)
  have t0 := cell_row H2 (o := (5, 0)) _ _ (by rw [upd_ne _ _ _ _ (by simp)]; exact Hq.out) i _ HE.out.2
  unfold ptr at t0
  dsimp only at t0
  have HH2 : Hid (Has _ w2) := H2
  have hlt := numV_lt xs p er 8
  obtain ⟨V0, hV0⟩ : ∃ V0, numV xs p er 8 = V0 := ⟨_, rfl⟩
  rw [hV0] at hlt ⊢
  have HV0 : Hid (numV xs p er 8 = V0) := hV0
  have hc1 : (V0 : Int) < 18446744073709551616 := by omega
  clear x2 r0 o0 o1 o2 H2 hw2 hK2 hRd nextR HD1 hV0 hlt
  go_wp2_with fail
  obtain ⟨hRR, nextQ⟩ := HH2.out.dr (o := (11, i)) (by rw [upd_ne _ _ _ _ (by simp)]; exact HkQ.out)
  refine (refRNumber_any bQ p 8 er vQ xs _ hRR (by omega) (by omega)).mono ?_
  rintro e w3 ⟨rfl, hw3, hK3⟩
  have H3 := nextQ _ _ _ hw3 hK3
  have HH3 : Hid (Has _ w3) := H3
  rw [HV0.out]
  clear H3 hw3 hK3 hRR nextQ y3 t0
  go_wp2
  go_ret
  exact ⟨rfl, ⟨_, _, HH3.out, HR.out.readd HE.out.1 HE.out.2, HS.out.readd (by omega) HE.out.1, rfl⟩⟩

end Go.Proofs.Ytonjmknjjdnjkaa
