import Derived.Test.YtonjmknjjdnjkaaRdA
import Derived.Deep.RegionHeld2
namespace Go.Proofs.Ytonjmknjjdnjkaa
open Go.RowKit
set_option linter.unusedVariables false
set_option linter.unusedSimpArgs false

theorem hk {P : Program} {md : Region.Mode} {ops : Array Oper} {Q : Exit → Act → World → Prop} {S : World → Prop} {oi : Oper} {fuel : Nat} {listed : Array Bool} {a : Act} {w : World} (i : Nat) (v : Value) (hS : S w) (h : wpAnyH P md ops Q S fuel (listed.setIfInBounds i true) (a.put oi.dst v) w)
    (hi : ops[i]? = some oi := by (simp only [List.getElem?_toArray, List.getElem?_cons_succ, List.getElem?_cons_zero]; exact rfl))
    (hs : Region.noSelect ops = true := by kernel_rfl) (hf : Region.free md ops listed i = true := by kernel_rfl) (hc : (Region.ready md ops listed).contains i = true := by kernel_rfl)
    (hQ : ∀ c a w, Q (.panic c) (a.put oi.dst v) w → Q (.panic c) a w := by exact fun _ _ _ h => h) (hg : Region.wanted oi (yielded ops a.tmps) = true := by kernel_rfl)
    (hr : ∀ w, S w → (execOp a.eval oi).run P w = .ok (.value v) w := by (intro w hSw; (try dsimp only at hSw); go_simp; try omega)) : wpAnyH P md ops Q S (fuel + 1) listed a w :=
  wpAnyH_take hi hs hf hc hQ (Or.inl ⟨hg, hr⟩) hS h
theorem hn {P : Program} {md : Region.Mode} {ops : Array Oper} {Q : Exit → Act → World → Prop} {S : World → Prop} {oi : Oper} {fuel : Nat} {listed : Array Bool} {a : Act} {w : World} (i : Nat) (hS : S w) (h : wpAnyH P md ops Q S fuel (listed.setIfInBounds i true) (a.put oi.dst undef) w)
    (hi : ops[i]? = some oi := by (simp only [List.getElem?_toArray, List.getElem?_cons_succ, List.getElem?_cons_zero]; exact rfl))
    (hs : Region.noSelect ops = true := by kernel_rfl) (hf : Region.free md ops listed i = true := by kernel_rfl) (hc : (Region.ready md ops listed).contains i = true := by kernel_rfl)
    (hQ : ∀ c a w, Q (.panic c) (a.put oi.dst undef) w → Q (.panic c) a w := by exact fun _ _ _ h => h) (hg : Region.wanted oi (yielded ops a.tmps) = false := by kernel_rfl) : wpAnyH P md ops Q S (fuel + 1) listed a w :=
  wpAnyH_take hi hs hf hc hQ (Or.inr ⟨hg, rfl⟩) hS h
set_option maxRecDepth 100000 in
set_option maxHeartbeats 4000000 in
theorem reads_19 (who a b : Int) (W V N : Nat) (pb : Option Addr) (lb cb : Nat) (pw : Option Addr) (lw cw : Nat) (str : ByteArray) (w0 w : World) (X T : Nat) (h : Game w0 w X T) (hwho : in64 who) (hT : T ≤ 2147483700) :
    Calls Try.prog 15 #[.pointer (some ⟨X, 0, none⟩), .agg #[.int .i64 19, .int .i64 who, .int .i64 a, .int .i64 b, .int .u32 W, .int .u32 V, .int .u64 N, .slice pb lb cb, .slice pw lw cw, .string str]] w fun e w' => e = .returned (.bool true) ∧ Game w0 w' X (T + 8) := by
  obtain ⟨s, g, hH, hR, hS, rfl⟩ := h.out
  have H1 := has_box hH #[.int .i64 19, .int .i64 who, .int .i64 a, .int .i64 b, .int .u32 W, .int .u32 V, .int .u64 N, .slice pb lb cb, .slice pw lw cw, .string str]
  have R1 := hR.other 21 0 (by omega) (.blk w.heap.size (#[.int .i64 19, .int .i64 who, .int .i64 a, .int .i64 b, .int .u32 W, .int .u32 V, .int .u64 N, .slice pb lb cb, .slice pw lw cw, .string str] : Array Value).toList 41)
  obtain ⟨bo, hbo⟩ : ∃ bo, bo = w.heap.size := ⟨_, rfl⟩
  obtain ⟨w1, hw1⟩ : ∃ w1, w1 = w.alloc (.cells #[.int .i64 19, .int .i64 who, .int .i64 a, .int .i64 b, .int .u32 W, .int .u32 V, .int .u64 N, .slice pb lb cb, .slice pw lw cw, .string str] 41) := ⟨_, rfl⟩
  obtain ⟨s1, hs1⟩ : ∃ s1, s1 = upd s (21, 0) (.blk w.heap.size (#[.int .i64 19, .int .i64 who, .int .i64 a, .int .i64 b, .int .u32 W, .int .u32 V, .int .u64 N, .slice pb lb cb, .slice pw lw cw, .string str] : Array Value).toList 41) := ⟨_, rfl⟩
  have hO : s1 (21, 0) = .blk bo (#[.int .i64 19, .int .i64 who, .int .i64 a, .int .i64 b, .int .u32 W, .int .u32 V, .int .u64 N, .slice pb lb cb, .slice pw lw cw, .string str] : Array Value).toList 41 := by rw [hs1, hbo]; exact upd_self _ _ _
  rw [← hw1, ← hs1] at H1
  rw [← hs1] at R1
  clear hH hR hs1 h
  obtain ⟨X, sw, sv, sr, sq, sb, sk, gW, gV, gR, gQ, gB, gK⟩ := g
  have hn0 : 0 < gR.length := hS.r0
  have hnT : gR.length ≤ T + 8 := hS.r
  obtain ⟨i, hi⟩ : ∃ i : Nat, pickZ who gR.length = (i : Int) := ⟨(pickZ who gR.length).toNat, by have := (pickZ_bd who gR.length (by omega)).1; omega⟩
  have hiL : i < gR.length := by have := (pickZ_bd who gR.length (by omega)).2; omega
  have HPK : Hid (∀ w, Calls Try.prog 32 #[.int .i64 who, .int .i64 (gR.length : Int)] w fun e w' => e = .returned (.int .i64 (i : Int)) ∧ w' = w) := fun w => by
    have := pick_any who gR.length w (by omega) hwho.1 hwho.2 (by omega)
    rw [hi] at this
    exact this
  obtain ⟨bR, xs, p, er, bQ, vQ, eR, eQ, kR, kQ⟩ := rd_at R1 i hiL
  have hxT : xs.length ≤ T + 8 := hS.rs i bR xs p er eR
  have rr1 := R1.rr
  have rq1 := R1.rq
  have x1 := R1.x
  have hlQ : gQ.length = gR.length := R1.lenQ
  dsimp only at rr1 rq1 x1 eR eQ
  obtain ⟨aR, cR, rfl, q1, q2⟩ := row_some H1 rr1 hn0
  obtain ⟨aQ, cQ, rfl, q3, q4⟩ := row_some H1 rq1 (by omega)
  have HPKd : Hid (∀ k, Calls Try.prog 32 #[.int .i64 who, .int .i64 (gR.length : Int)] (w1.drewN k) fun e w' => e = .returned (.int .i64 (i : Int)) ∧ w' = w1.drewN k) := fun k => HPK.out _
  obtain ⟨L, hL⟩ : ∃ L, L = gR.length := ⟨_, rfl⟩
  rw [hlQ] at rq1
  rw [hlQ] at x1
  have HR : Hid (Rel s1 _ w0) := R1
  have HS : Hid (Small _ T) := hS
  have HXT : Hid (True ∧ xs.length ≤ T + 8 ∧ T ≤ 2147483700) := ⟨trivial, hxT, hT⟩
  have HE : Hid (gR[i]? = some (bR, xs, p, er) ∧ gQ[i]? = some (bQ, vQ)) := ⟨eR, eQ⟩
  rw [← hL] at rr1 rq1 x1 HPKd
  have hLb : (L : Int) ≤ 2147483708 := by omega
  have hiL' : (i : Int) < (L : Int) := by omega
  clear hL hlQ hn0 hnT hi hiL q1 q2 q3 q4 R1 hS HPK hxT hT eR eQ
  have HH : Hid (Has s1 w1) := H1
  have Hr : Hid (s1 (4, 0) = _) := rr1
  have Hq : Hid (s1 (5, 0) = _) := rq1
  have Hx : Hid (s1 (1, 0) = _) := x1
  have HO : Hid (s1 (21, 0) = _) := hO
  have HkR : Hid (s1 (10, i) = _) := kR
  have HkQ : Hid (s1 (11, i) = _) := kQ
  clear rr1 rq1 x1 hO kR kQ
  obtain ⟨-, -, x2, -, -, -⟩ := cells_x H1 Hx.out
  have r0 := cell_row H1 _ _ Hr.out i _ HE.out.1
  have BO := (H1.blk HO.out).1
  have o0 := BO.cell (i := 0) rfl
  have o1 := BO.cell (i := 1) rfl
  have o2 := BO.cell (i := 2) rfl
  unfold ptr at r0
  dsimp only at r0
  clear BO H1
  go_enter Try.func15, Try.ntmps15
  go_wp2_with fail
  rw [← hbo, ← hw1]
  clear hbo hw1
  go_quiet ((go_at_call 32; exact (HPKd.out _).mono fun e w2 h2 => ⟨h2.1, _, h2.2⟩))
  go_wp2_with fail
  refine region_tail 9 (by kernel_rfl) ?_
  simp only [List.take_succ_cons, List.take_zero, List.drop_succ_cons, List.drop_zero]
  repeat still_step
  refine wpStill_nil ?_
  go_wp2_with fail
  have HD1 := HH.out.quiet ((Keeps.refl _ w1).drewN (nq + 1))
  obtain ⟨gw, hRd, nextR⟩ := HD1.rd HkR.out
  refine (rText_any bR gw p er a xs _ hRd).mono ?_
  rintro e w2 ⟨rfl, hw2, hK2⟩
  have H2 := nextR _ _ _ hw2 hK2
  obtain ⟨-, -, -, y3, -, -⟩ := cells_x H2 (by rw [upd_ne _ _ _ _ (by simp)]; exact Hx.out)
  have t0 := cell_row H2 (o := (5, 0)) _ _ (by rw [upd_ne _ _ _ _ (by simp)]; exact Hq.out) i _ HE.out.2
  have BO2 := (H2.blk (o := (21, 0)) (by rw [upd_ne _ _ _ _ (by simp)]; exact HO.out)).1
  have p2 := BO2.cell (i := 2) rfl
  unfold ptr at t0
  dsimp only at t0
  have HH2 : Hid (Has _ w2) := H2
  obtain ⟨tx, htx⟩ : ∃ tx : ByteArray, (⟨(txtV xs p er a).toArray⟩ : ByteArray) = tx := ⟨_, rfl⟩
  rw [htx]
  have HTX : Hid ((⟨(txtV xs p er a).toArray⟩ : ByteArray) = tx) := htx
  clear x2 r0 o0 o1 o2 H2 hw2 hK2 hRd nextR HD1 htx BO2
  go_wp2_with fail
  refine wp_region_held_drew (S := fun w' => w'.cell? ⟨X, 3, none⟩ = some (.slice (some ⟨aQ, 0, none⟩) L cQ) ∧ w'.cell? ⟨aQ, i, none⟩ = some (.pointer (some ⟨bQ, 0, none⟩)) ∧ w'.cell? ⟨bo, 2, none⟩ = some (.int .i64 a)) Try.mixed ⟨y3, t0, p2⟩ (fun hHeld => ?_)
  simp only [List.size_toArray, List.length_cons, List.length_nil, Nat.reduceAdd, Array.replicate_succ, Array.replicate_zero, List.push_toArray, List.append_toArray, List.nil_append, List.cons_append]
  refine hk 0 (.string tx) hHeld ?_
  simp only [Act.put, List.setIfInBounds_toArray, List.set_cons_zero, List.set_cons_succ]
  refine hk 1 (.pointer (some ⟨X, 0, none⟩)) hHeld ?_
  simp only [Act.put, List.setIfInBounds_toArray, List.set_cons_zero, List.set_cons_succ]
  refine hk 2 (.pointer (some ⟨X, 0, none⟩)) hHeld ?_
  simp only [Act.put, List.setIfInBounds_toArray, List.set_cons_zero, List.set_cons_succ]
  refine hk 3 (.pointer (some ⟨X, 3, none⟩)) hHeld ?_
  simp only [Act.put, List.setIfInBounds_toArray, List.set_cons_zero, List.set_cons_succ]
  refine hk 4 (.slice (some ⟨aQ, 0, none⟩) L cQ) hHeld ?_
  simp only [Act.put, List.setIfInBounds_toArray, List.set_cons_zero, List.set_cons_succ]
  refine hk 5 (.int .i64 (i : Int)) hHeld ?_
  simp only [Act.put, List.setIfInBounds_toArray, List.set_cons_zero, List.set_cons_succ]
  refine hk 6 (.pointer (some ⟨aQ, i, none⟩)) hHeld ?_
  simp only [Act.put, List.setIfInBounds_toArray, List.set_cons_zero, List.set_cons_succ]
  refine hk 7 (.pointer (some ⟨bQ, 0, none⟩)) hHeld ?_
  simp only [Act.put, List.setIfInBounds_toArray, List.set_cons_zero, List.set_cons_succ]
  refine hk 8 (.pointer (some ⟨bo, 2, none⟩)) hHeld ?_
  simp only [Act.put, List.setIfInBounds_toArray, List.set_cons_zero, List.set_cons_succ]
  refine hk 9 (.int .i64 a) hHeld ?_
  simp only [Act.put, List.setIfInBounds_toArray, List.set_cons_zero, List.set_cons_succ]
  refine wpAnyH_ready (rs := [10]) (by kernel_rfl) (by simp) ?_
  refine AllReadyH.cons rfl (fun Kq hK => ?_) AllReadyH.nil
  go_simp
  have HD2 := HH2.out.quiet ((Keeps.refl _ w2).drew)
  obtain ⟨hRR, nextQ⟩ := HD2.dr (o := (11, i)) (by rw [upd_ne _ _ _ _ (by simp)]; exact HkQ.out)
  refine (refRText_any bQ p er a vQ xs _ hRR).mono ?_
  rintro e w3 ⟨rfl, hw3, hK3⟩
  have H3 := nextQ _ _ _ hw3 hK3
  obtain ⟨-, -, -, y3', -, -⟩ := cells_x H3 (by rw [upd_ne _ _ _ _ (by simp), upd_ne _ _ _ _ (by simp)]; exact Hx.out)
  have t0' := cell_row H3 (o := (5, 0)) _ _ (by rw [upd_ne _ _ _ _ (by simp), upd_ne _ _ _ _ (by simp)]; exact Hq.out) i _ HE.out.2
  have BO3 := (H3.blk (o := (21, 0)) (by rw [upd_ne _ _ _ _ (by simp), upd_ne _ _ _ _ (by simp)]; exact HO.out)).1
  have p2' := BO3.cell (i := 2) rfl
  have HH3 : Hid (Has _ w3) := H3
  refine hK.out _ _ ⟨y3', t0', p2'⟩ (fun hHeld => ?_)
  simp only [Act.put, List.setIfInBounds_toArray, List.set_cons_zero, List.set_cons_succ]
  rw [HTX.out]
  refine hk 11 (.bool true) hHeld ?_
  simp only [Act.put, List.setIfInBounds_toArray, List.set_cons_zero, List.set_cons_succ]
  refine hk 12 (.bool true) hHeld ?_
  simp only [Act.put, List.setIfInBounds_toArray, List.set_cons_zero, List.set_cons_succ]
  refine wpAnyH_done (by kernel_rfl) ?_ _
  clear H3 hw3 hK3 hRR nextQ HD2 y3 t0 p2 y3' t0' p2' BO3 hHeld hK
  go_wp2
  go_ret
  exact ⟨rfl, ⟨_, _, HH3.out, HR.out.readd HE.out.1 HE.out.2, HS.out.readd (by omega) HE.out.1, rfl⟩⟩

end Go.Proofs.Ytonjmknjjdnjkaa
