import Derived.Test.YtlnmlbkeemahcaaGreatYe
namespace Go.Proofs.YtlnmlbkeemahcaaGreat
open Go.RowKit
set_option linter.unusedVariables false
set_option maxRecDepth 6000
set_option linter.unusedSimpArgs false
theorem firstF_cons_no {f : Flt} {fs : List Flt} (h : f.n = 0) : firstF (f :: fs) = firstF fs := by simp [firstF, h]
theorem firstF_cons_yes {f : Flt} {fs : List Flt} (h : f.n ≠ 0) : firstF (f :: fs) = f := by simp [firstF, h]
theorem firstF_unl_true {f : Flt} {fs : List Flt} : firstF (unl true f :: fs) = firstF fs := firstF_cons_no rfl
theorem firstF_unl_false {f : Flt} {fs : List Flt} (h : f.n ≠ 0) : firstF (unl false f :: fs) = f := firstF_cons_yes h
theorem rgnF_at {x : Cfg} {p : Nat} {P : Par} {i : Nat} {r : Rgn} (h : rgN x p P i r ≠ 0) : firstF (rgnF x p P i r) = ⟨rgN x p P i r, p, i⟩ := by
 revert h
 unfold rgN rgnF
 cases r.okB x.frames
 ·
  simp [firstF, unl]
 ·
  cases ((P.rs.take i).any fun s => s.pg.meets r.pg)
  ·
   cases ((P.rs.take i).any fun s => s.fr.meets r.fr)
   ·
    cases ((x.ps.take p).any fun Q => Q.rs.any fun s => s.fr.meets r.fr)
    ·
     intro h; exact absurd rfl h
    ·
     simp [firstF, unl, Flt.no]
   ·
    simp [firstF, unl, Flt.no]
  ·
   simp [firstF, unl, Flt.no]
theorem rgnsF_hit {x : Cfg} {p : Nat} {P : Par} {j : Nat} {r : Rgn} (hr : P.rs[j]? = some r) (h0 : ∀ i s, i < j → P.rs[i]? = some s → rgN x p P i s = 0) (h : rgN x p P j r ≠ 0) : rgnsF x p P = ⟨rgN x p P j r, p, j⟩ := by
 have hj := (List.getElem?_eq_some_iff.1 hr).1
 have e : firstF (rgnF' x p P j) = ⟨rgN x p P j r, p, j⟩ := by unfold rgnF'; rw [hr]; exact rgnF_at h
 unfold rgnsF
 refine (firstF_take (j := j) (f := firstF (rgnF' x p P j)) (by simp [hj]) (fun i hi f hf => ?_) (by rw [e]; exact h)).trans e
 rw [List.getElem?_map, List.getElem?_range (by omega)] at hf
 simp only [Option.map_some, Option.some.injEq] at hf
 rw [← hf]
 have hs : P.rs[i]? = some (P.rs[i]'(by omega)) := List.getElem?_eq_getElem (by omega)
 unfold rgnF'
 rw [hs]
 exact h0 i _ hi hs
theorem rgnsF_no {x : Cfg} {p : Nat} {P : Par} (h0 : ∀ i s, P.rs[i]? = some s → rgN x p P i s = 0) : (rgnsF x p P).n = 0 := by
 unfold rgnsF
 rw [firstF_range]
 intro i hi
 have hs : P.rs[i]? = some (P.rs[i]'hi) := List.getElem?_eq_getElem hi
 unfold rgnF'
 rw [hs]
 exact h0 i _ hs
theorem rgN_okB {x : Cfg} {p : Nat} {P : Par} {i : Nat} {r : Rgn} (h : rgN x p P i r = 0) : r.okB x.frames = true := by
 cases hb : r.okB x.frames with
 | true => rfl
 | false => rw [rgN_bad hb] at h; cases h
theorem prtsF_hit {x : Cfg} {p : Nat} {P : Par} {j : Nat} {t : Prt} (ht : P.ps[j]? = some t) (h0 : ∀ (i : Nat) (s : Prt), i < j → P.ps[i]? = some s → inR s.ch 0 ((x.hs.length : Int) - 1) = true) (h : inR t.ch 0 ((x.hs.length : Int) - 1) = false) : prtsF x p P = ⟨414, p, j⟩ := by
 have hj := (List.getElem?_eq_some_iff.1 ht).1
 have e : firstF (prtF' x p P j) = ⟨414, p, j⟩ := by unfold prtF' prtF; rw [ht]; dsimp only; rw [h]; rfl
 unfold prtsF
 refine (firstF_take (j := j) (f := firstF (prtF' x p P j)) (by simp [hj]) (fun i hi f hf => ?_) (by rw [e]; simp)).trans e
 rw [List.getElem?_map, List.getElem?_range (by omega)] at hf
 simp only [Option.map_some, Option.some.injEq] at hf
 rw [← hf]
 have hs : P.ps[i]? = some (P.ps[i]'(by omega)) := List.getElem?_eq_getElem (by omega)
 unfold prtF' prtF
 rw [hs]
 dsimp only
 rw [h0 i _ hi hs]
 rfl
theorem prtsF_no {x : Cfg} {p : Nat} {P : Par} (h0 : ∀ (i : Nat) (s : Prt), P.ps[i]? = some s → inR s.ch 0 ((x.hs.length : Int) - 1) = true) : (prtsF x p P).n = 0 := by
 unfold prtsF
 rw [firstF_range]
 intro i hi
 have hs : P.ps[i]? = some (P.ps[i]'hi) := List.getElem?_eq_getElem hi
 unfold prtF' prtF
 rw [hs]
 dsimp only
 rw [h0 i _ hs]
 rfl
def FlP (F : Flt) (w : World) (e : Ending) (w' : World) : Prop := e = .returned (.tuple #[.int .i64 F.n, .agg #[.int .i64 F.a, .int .i64 F.b]]) ∧ KF w w'
structure PaI (w : World) (x : Cfg) (C N R B : Nat) (P : Par) (wr : World) : Prop where
 one : One w x C N wr
 res : Blk wr R [.int .i64 0, .int .i64 0] 34
 par : Blk wr B P.vs 41
 lo : w.heap.size ≤ R
theorem PaI.kept {w : World} {x : Cfg} {C N R B : Nat} {P : Par} {wr w' : World} (h : PaI w x C N R B P wr) (hK : KF wr w') : PaI w x C N R B P w' := ⟨h.one.kept hK, h.res.kept hK fun h => h, h.par.kept hK fun h => h, h.lo⟩
theorem PaI.set {w : World} {x : Cfg} {C N R B : Nat} {P : Par} {wr : World} (h : PaI w x C N R B P wr) (a b : Int) :
  Blk ((wr.setCell ⟨R, 0, none⟩ (.int .i64 a)).setCell ⟨R, 1, none⟩ (.int .i64 b)) R [.int .i64 a, .int .i64 b] 34 ∧ KF w ((wr.setCell ⟨R, 0, none⟩ (.int .i64 a)).setCell ⟨R, 1, none⟩ (.int .i64 b)) := by
 obtain ⟨h1, h2⟩ := set2 h.res (.int .i64 a) (.int .i64 b)
 exact ⟨h1, h.one.keeps.trans h2 fun k hk e => by have := h.lo; omega⟩
set_option maxHeartbeats 8000000 in
theorem dpartition_any (x : Cfg) (p : Nat) (P : Par) (hP : x.ps[p]? = some P) (w : World) (N : Nat) (hi : x.In w N) (hN : N ≤ w.heap.size) (hf : 1 ≤ x.frames ∧ x.frames ≤ 1024) (hh : x.hs.length ≤ 16) (hoth : ∀ Q ∈ x.ps.take p, ∀ s ∈ Q.rs, s.okB x.frames = true) :
  Calls Tryz.prog 17 #[x.v, .int .i64 (p : Int)] w (FlP (firstF (parF x p P)) w) := by
 obtain ⟨F, hF⟩ : ∃ F, firstF (parF x p P) = F := ⟨_, rfl⟩
 rw [hF]
 obtain ⟨W, hW⟩ : ∃ W, W = (x.laid w).alloc (.cells #[.int .i64 0, .int .i64 0] 34) := ⟨_, rfl⟩
 obtain ⟨C, hC⟩ : ∃ C, C = w.heap.size := ⟨_, rfl⟩
 obtain ⟨R, hR⟩ : ∃ R, R = w.heap.size + 1 := ⟨_, rfl⟩
 have hO : One w x C N W := by rw [hW, hC]; exact (One.mk' hi hN).kept ((Keeps.refl _ _).alloc _)
 have hRb : Blk W R [.int .i64 0, .int .i64 0] 34 := by
  have := Blk.new (x.laid w) #[.int .i64 0, .int .i64 0] 34
  rw [hW, hR]
  simpa [Cfg.laid] using this
 obtain ⟨L, hL⟩ : ∃ L, x.ps.length = L := ⟨_, rfl⟩
 obtain ⟨H, hH⟩ : ∃ H, x.hs.length = H := ⟨_, rfl⟩
 have hpl : p < L := by rw [← hL]; exact (List.getElem?_eq_some_iff.1 hP).1
 have hpl' : (p : Int) < L := by omega
 have hpc1 : (L : Int) ≤ x.pc := by have := hi.plen; omega
 have hpc2 : (x.pc : Int) ≤ 9223372036854775807 := by have := hi.plen; unfold maxLen at this; omega
 obtain ⟨gp, op, hpa, hcp⟩ := hO.cin.par hP
 have q5 := hO.cells.2.2.2.2.2.1
 rw [hL, hpa] at q5
 have hPi0 := hi.pin P (List.mem_of_getElem? hP)
 obtain ⟨nm, en, ac, re, ip, ou, ra, rc, rs, pa, pc, qs⟩ := P
 obtain ⟨M, hM⟩ : ∃ M, rs.length = M := ⟨_, rfl⟩
 obtain ⟨K, hK⟩ : ∃ K, qs.length = K := ⟨_, rfl⟩
 have y0 := hcp 0 _ rfl
 rw [Nat.add_zero] at y0
 have y1 := hcp 1 _ rfl
 have y2 := hcp 2 _ rfl
 have y3 := hcp 3 _ rfl
 have y4 := hcp 4 _ rfl
 have y5 := hcp 5 _ rfl
 have y6 := hcp 6 _ rfl
 have y7 := hcp 7 _ rfl
 dsimp only at y0 y1 y2 y3 y4 y5 y6 y7
 rw [hM] at y6
 rw [hK] at y7
 have hpk1 : (K : Int) ≤ pc := by have := hPi0.plen; dsimp only at this; omega
 have hpk2 : (pc : Int) ≤ 9223372036854775807 := by have := hPi0.plen; dsimp only at this; unfold maxLen at this; omega
 obtain ⟨B, hB⟩ : ∃ B, B = W.heap.size := ⟨_, rfl⟩
 obtain ⟨W1, hW1⟩ : ∃ W1, W1 = W.alloc (.cells #[.string nm, .int .i64 en, .int .i64 ac, .int .i64 re, .int .i64 ip, .int .i64 ou, .slice ra M rc, .slice pa K pc] 41) := ⟨_, rfl⟩
 have HI : Hid (PaI w x C N R B ⟨nm, en, ac, re, ip, ou, ra, rc, rs, pa, pc, qs⟩ W1) := by
  rw [hW1, hB]
  refine ⟨hO.kept ((Keeps.refl _ _).alloc _), hRb.alloc _, ?_, by omega⟩
  have := Blk.new W #[.string nm, .int .i64 en, .int .i64 ac, .int .i64 re, .int .i64 ip, .int .i64 ou, .slice ra M rc, .slice pa K pc] 41
  rw [← hM, ← hK] at this ⊢
  exact this
 have HX : Hid (firstF (parF x p ⟨nm, en, ac, re, ip, ou, ra, rc, rs, pa, pc, qs⟩) = F ∧ x.ps[p]? = some ⟨nm, en, ac, re, ip, ou, ra, rc, rs, pa, pc, qs⟩ ∧ (1 ≤ x.frames ∧ x.frames ≤ 1024) ∧ H ≤ 16 ∧ x.hs.length = H ∧ (∀ Q ∈ x.ps.take p, ∀ s ∈ Q.rs, s.okB x.frames = true) ∧ rs.length = M ∧ qs.length = K) := ⟨hF, hP, hf, by omega, hH, hoth, hM, hK⟩
 have HIn : Hid (∀ n a b w, Calls Tryz.prog 26 #[.int .i64 n, .int .i64 a, .int .i64 b] w fun e w' => e = .returned (.bool (inR n a b)) ∧ w' = w) := rin_any
 have HOf : Hid (∀ w, Calls Tryz.prog 19 #[.int .i64 (p : Int)] w fun e w' => e = .returned (.agg #[.int .i64 (p : Int), .int .i64 (-1)]) ∧ KF w w') := rof_any p
 clear hF hi hN hf hh hoth hO hRb hL hH hP hcp hpa hPi0 hM hK
 unfold Cfg.laid at hW
 go_enter Tryz.func17, Tryz.ntmps17
 go_upto_region 1 with fail
 rw [← hW, ← hR, ← hC]
 clear hW hC hR
 go_upto_region 2 with fail
 rw [← hW1, ← hB]
 clear hW1 hB q5 y0 y1 y2 y3 y4 y5 y6 y7
 obtain ⟨q0, q1, q2, q3, q4, q5, q6⟩ := HI.out.one.cells
 have HC : Hid (Calls Tryz.prog 27 #[x.v, .int .i64 (p : Int)] W1 (BoP (nmB x p ⟨nm, en, ac, re, ip, ou, ra, rc, rs, pa, pc, qs⟩) W1)) := dnamed_any x p ⟨nm, en, ac, re, ip, ou, ra, rc, rs, pa, pc, qs⟩ HX.out.2.1 W1 N HI.out.one.cin HI.out.one.nn
 go_wp2_with fail
 refine HC.out.mono ?_
 rintro e w2 ⟨rfl, hK2⟩
 have HI2 : Hid (PaI w x C N R B ⟨nm, en, ac, re, ip, ou, ra, rc, rs, pa, pc, qs⟩ w2) := HI.out.kept hK2
 clear HC hK2 HI q0 q1 q2 q3 q4 q5 q6
 have HI := HI2
 clear HI2
 cases b1 : nmB x p ⟨nm, en, ac, re, ip, ou, ra, rc, rs, pa, pc, qs⟩ with
 | false =>
  have HB1 : Hid (nmB x p ⟨nm, en, ac, re, ip, ou, ra, rc, rs, pa, pc, qs⟩ = false) := b1
  clear b1
  have HF : Hid (F = ⟨405, p, -1⟩) := by
   show F = _
   rw [← HX.out.1]
   unfold parF; dsimp only; rw [show (nameB nm && !((x.ps.take p).any fun Q => Q.name.toList == nm.toList)) = false from HB1.out]; simp [firstF, unl, Flt.no]
  go_wp2_with fail
  refine (HOf.out w2).mono ?_
  rintro e w9 ⟨rfl, hK9⟩
  have HI9 : Hid (PaI w x C N R B ⟨nm, en, ac, re, ip, ou, ra, rc, rs, pa, pc, qs⟩ w9) := HI.out.kept hK9
  clear hK9
  have t0 := HI9.out.res.cell (i := 0) rfl
  have t1 := HI9.out.res.cell (i := 1) rfl
  have u0 := HI9.out.res.frozen 0
  have u1 := HI9.out.res.frozen 1
  go_wp2
  obtain ⟨W9, hW9⟩ : ∃ W9, W9 = (w9.setCell ⟨R, 0, none⟩ (.int .i64 (p : Int))).setCell ⟨R, 1, none⟩ (.int .i64 (-1)) := ⟨_, rfl⟩
  rw [← hW9]
  obtain ⟨hb9, hk9⟩ := HI9.out.set (p : Int) (-1)
  rw [← hW9] at hb9 hk9
  (try simp only [Exit.inBlock, Exit.then])
  refine bodyPost_ret (results_two_cell rfl _ _ R 34 _ (0, 0) _ rfl hb9 Tryz.underlying34 rfl (by kernel_rfl)) rfl ?_
  exact ⟨by rw [HF.out]; rfl, hk9⟩
 | true =>
 have H1 : Hid (nmB x p ⟨nm, en, ac, re, ip, ou, ra, rc, rs, pa, pc, qs⟩ = true) := b1
 clear b1
 have p2 := HI.out.par.cell (i := 2) rfl
 have p3 := HI.out.par.cell (i := 3) rfl
 have p4 := HI.out.par.cell (i := 4) rfl
 have p5 := HI.out.par.cell (i := 5) rfl
 have p6 := HI.out.par.cell (i := 6) rfl
 dsimp only at p2 p3 p4 p5 p6
 rw [HX.out.2.2.2.2.2.2.1] at p6
 go_wp2_with fail
 refine (HIn.out ac 0 2 w2).mono ?_
 rintro e w3 ⟨rfl, rfl⟩
 cases b2 : inR ac 0 2 with
 | false =>
  have HB2 : Hid (inR ac 0 2 = false) := b2
  clear b2
  have HF : Hid (F = ⟨406, p, -1⟩) := by
   show F = _
   rw [← HX.out.1]
   unfold parF; dsimp only; rw [show (nameB nm && !((x.ps.take p).any fun Q => Q.name.toList == nm.toList)) = true from H1.out, HB2.out]; simp [firstF, unl, Flt.no]
  go_wp2_with fail
  refine (HOf.out w3).mono ?_
  rintro e w9 ⟨rfl, hK9⟩
  have HI9 : Hid (PaI w x C N R B ⟨nm, en, ac, re, ip, ou, ra, rc, rs, pa, pc, qs⟩ w9) := HI.out.kept hK9
  clear hK9
  have t0 := HI9.out.res.cell (i := 0) rfl
  have t1 := HI9.out.res.cell (i := 1) rfl
  have u0 := HI9.out.res.frozen 0
  have u1 := HI9.out.res.frozen 1
  go_wp2
  obtain ⟨W9, hW9⟩ : ∃ W9, W9 = (w9.setCell ⟨R, 0, none⟩ (.int .i64 (p : Int))).setCell ⟨R, 1, none⟩ (.int .i64 (-1)) := ⟨_, rfl⟩
  rw [← hW9]
  obtain ⟨hb9, hk9⟩ := HI9.out.set (p : Int) (-1)
  rw [← hW9] at hb9 hk9
  (try simp only [Exit.inBlock, Exit.then])
  refine bodyPost_ret (results_two_cell rfl _ _ R 34 _ (0, 0) _ rfl hb9 Tryz.underlying34 rfl (by kernel_rfl)) rfl ?_
  exact ⟨by rw [HF.out]; rfl, hk9⟩
 | true =>
 have H2 : Hid (inR ac 0 2 = true) := b2
 clear b2
 go_wp2_with fail
 refine (HIn.out re 0 15 w3).mono ?_
 rintro e w4 ⟨rfl, rfl⟩
 cases b3 : inR re 0 15 with
 | false =>
  have HB3 : Hid (inR re 0 15 = false) := b3
  clear b3
  have HF : Hid (F = ⟨406, p, -1⟩) := by
   show F = _
   rw [← HX.out.1]
   unfold parF; dsimp only; rw [show (nameB nm && !((x.ps.take p).any fun Q => Q.name.toList == nm.toList)) = true from H1.out, H2.out, HB3.out]; simp [firstF, unl, Flt.no]
  go_wp2_with fail
  refine (HOf.out w4).mono ?_
  rintro e w9 ⟨rfl, hK9⟩
  have HI9 : Hid (PaI w x C N R B ⟨nm, en, ac, re, ip, ou, ra, rc, rs, pa, pc, qs⟩ w9) := HI.out.kept hK9
  clear hK9
  have t0 := HI9.out.res.cell (i := 0) rfl
  have t1 := HI9.out.res.cell (i := 1) rfl
  have u0 := HI9.out.res.frozen 0
  have u1 := HI9.out.res.frozen 1
  go_wp2
  obtain ⟨W9, hW9⟩ : ∃ W9, W9 = (w9.setCell ⟨R, 0, none⟩ (.int .i64 (p : Int))).setCell ⟨R, 1, none⟩ (.int .i64 (-1)) := ⟨_, rfl⟩
  rw [← hW9]
  obtain ⟨hb9, hk9⟩ := HI9.out.set (p : Int) (-1)
  rw [← hW9] at hb9 hk9
  (try simp only [Exit.inBlock, Exit.then])
  refine bodyPost_ret (results_two_cell rfl _ _ R 34 _ (0, 0) _ rfl hb9 Tryz.underlying34 rfl (by kernel_rfl)) rfl ?_
  exact ⟨by rw [HF.out]; rfl, hk9⟩
 | true =>
 have H3 : Hid (inR re 0 15 = true) := b3
 clear b3
 go_wp2_with fail
 refine (HIn.out ip 0 16 w4).mono ?_
 rintro e w5 ⟨rfl, rfl⟩
 cases b4 : inR ip 0 16 with
 | false =>
  have HB4 : Hid (inR ip 0 16 = false) := b4
  clear b4
  have HF : Hid (F = ⟨407, p, -1⟩) := by
   show F = _
   rw [← HX.out.1]
   unfold parF; dsimp only; rw [show (nameB nm && !((x.ps.take p).any fun Q => Q.name.toList == nm.toList)) = true from H1.out, H2.out, H3.out, HB4.out]; simp [firstF, unl, Flt.no]
  go_wp2_with fail
  refine (HOf.out w5).mono ?_
  rintro e w9 ⟨rfl, hK9⟩
  have HI9 : Hid (PaI w x C N R B ⟨nm, en, ac, re, ip, ou, ra, rc, rs, pa, pc, qs⟩ w9) := HI.out.kept hK9
  clear hK9
  have t0 := HI9.out.res.cell (i := 0) rfl
  have t1 := HI9.out.res.cell (i := 1) rfl
  have u0 := HI9.out.res.frozen 0
  have u1 := HI9.out.res.frozen 1
  go_wp2
  obtain ⟨W9, hW9⟩ : ∃ W9, W9 = (w9.setCell ⟨R, 0, none⟩ (.int .i64 (p : Int))).setCell ⟨R, 1, none⟩ (.int .i64 (-1)) := ⟨_, rfl⟩
  rw [← hW9]
  obtain ⟨hb9, hk9⟩ := HI9.out.set (p : Int) (-1)
  rw [← hW9] at hb9 hk9
  (try simp only [Exit.inBlock, Exit.then])
  refine bodyPost_ret (results_two_cell rfl _ _ R 34 _ (0, 0) _ rfl hb9 Tryz.underlying34 rfl (by kernel_rfl)) rfl ?_
  exact ⟨by rw [HF.out]; rfl, hk9⟩
 | true =>
 have H4 : Hid (inR ip 0 16 = true) := b4
 clear b4
 go_wp2_with fail
 refine (HIn.out ou 0 16 w5).mono ?_
 rintro e w6 ⟨rfl, rfl⟩
 cases b5 : inR ou 0 16 with
 | false =>
  have HB5 : Hid (inR ou 0 16 = false) := b5
  clear b5
  have HF : Hid (F = ⟨407, p, -1⟩) := by
   show F = _
   rw [← HX.out.1]
   unfold parF; dsimp only; rw [show (nameB nm && !((x.ps.take p).any fun Q => Q.name.toList == nm.toList)) = true from H1.out, H2.out, H3.out, H4.out, HB5.out]; simp [firstF, unl, Flt.no]
  go_wp2_with fail
  refine (HOf.out w6).mono ?_
  rintro e w9 ⟨rfl, hK9⟩
  have HI9 : Hid (PaI w x C N R B ⟨nm, en, ac, re, ip, ou, ra, rc, rs, pa, pc, qs⟩ w9) := HI.out.kept hK9
  clear hK9
  have t0 := HI9.out.res.cell (i := 0) rfl
  have t1 := HI9.out.res.cell (i := 1) rfl
  have u0 := HI9.out.res.frozen 0
  have u1 := HI9.out.res.frozen 1
  go_wp2
  obtain ⟨W9, hW9⟩ : ∃ W9, W9 = (w9.setCell ⟨R, 0, none⟩ (.int .i64 (p : Int))).setCell ⟨R, 1, none⟩ (.int .i64 (-1)) := ⟨_, rfl⟩
  rw [← hW9]
  obtain ⟨hb9, hk9⟩ := HI9.out.set (p : Int) (-1)
  rw [← hW9] at hb9 hk9
  (try simp only [Exit.inBlock, Exit.then])
  refine bodyPost_ret (results_two_cell rfl _ _ R 34 _ (0, 0) _ rfl hb9 Tryz.underlying34 rfl (by kernel_rfl)) rfl ?_
  exact ⟨by rw [HF.out]; rfl, hk9⟩
 | true =>
 have H5 : Hid (inR ou 0 16 = true) := b5
 clear b5
 go_wp2_with fail
 refine (HIn.out (M : Int) 1 8 w6).mono ?_
 rintro e w7 ⟨rfl, rfl⟩
 cases b6 : inR (M : Int) 1 8 with
 | false =>
  have HB6 : Hid (inR (M : Int) 1 8 = false) := b6
  clear b6
  have HF : Hid (F = ⟨408, p, -1⟩) := by
   show F = _
   rw [← HX.out.1]
   unfold parF; dsimp only; rw [show (nameB nm && !((x.ps.take p).any fun Q => Q.name.toList == nm.toList)) = true from H1.out, H2.out, H3.out, H4.out, H5.out, HX.out.2.2.2.2.2.2.1, HB6.out]; simp [firstF, unl, Flt.no]
  go_wp2_with fail
  refine (HOf.out w7).mono ?_
  rintro e w9 ⟨rfl, hK9⟩
  have HI9 : Hid (PaI w x C N R B ⟨nm, en, ac, re, ip, ou, ra, rc, rs, pa, pc, qs⟩ w9) := HI.out.kept hK9
  clear hK9
  have t0 := HI9.out.res.cell (i := 0) rfl
  have t1 := HI9.out.res.cell (i := 1) rfl
  have u0 := HI9.out.res.frozen 0
  have u1 := HI9.out.res.frozen 1
  go_wp2
  obtain ⟨W9, hW9⟩ : ∃ W9, W9 = (w9.setCell ⟨R, 0, none⟩ (.int .i64 (p : Int))).setCell ⟨R, 1, none⟩ (.int .i64 (-1)) := ⟨_, rfl⟩
  rw [← hW9]
  obtain ⟨hb9, hk9⟩ := HI9.out.set (p : Int) (-1)
  rw [← hW9] at hb9 hk9
  (try simp only [Exit.inBlock, Exit.then])
  refine bodyPost_ret (results_two_cell rfl _ _ R 34 _ (0, 0) _ rfl hb9 Tryz.underlying34 rfl (by kernel_rfl)) rfl ?_
  exact ⟨by rw [HF.out]; rfl, hk9⟩
 | true =>
 have H6 : Hid (inR (M : Int) 1 8 = true) := b6
 have hM9 : (M : Int) ≤ 8 := (inR_iff.1 b6).2
 clear b6 p2 p3 p4 p5 p6
 have HF6 : Hid (F = firstF [rgnsF x p ⟨nm, en, ac, re, ip, ou, ra, rc, rs, pa, pc, qs⟩, unl (Par.begB ⟨nm, en, ac, re, ip, ou, ra, rc, rs, pa, pc, qs⟩) ⟨412, p, -1⟩, unl (decide ((qs.length : Int) ≤ 8)) ⟨413, p, -1⟩, prtsF x p ⟨nm, en, ac, re, ip, ou, ra, rc, rs, pa, pc, qs⟩]) := by
  show F = _
  rw [← HX.out.1]
  unfold parF
  dsimp only
  rw [show (nameB nm && !((x.ps.take p).any fun Q => Q.name.toList == nm.toList)) = true from H1.out, H2.out, H3.out, H4.out, H5.out, HX.out.2.2.2.2.2.2.1, H6.out]
  simp [firstF, unl, Flt.no]
 go_wp2
 go_loopw [7] (fun i wr => ∃ j : Nat, j ≤ M ∧ i = .int .i64 j ∧ (∀ i s, i < j → rs[i]? = some s → rgN x p ⟨nm, en, ac, re, ip, ou, ra, rc, rs, pa, pc, qs⟩ i s = 0) ∧ PaI w x C N R B ⟨nm, en, ac, re, ip, ou, ra, rc, rs, pa, pc, qs⟩ wr) (fun i _ => M - (intOf i).toNat)
 case atStart => exact ⟨0, by omega, rfl, fun i s h => absurd h (by omega), HI.out⟩
 case round =>
  obtain ⟨j, hj, rfl, hno, hI⟩ := hrel
  clear HI
  have HN : Hid (∀ i s, i < j → rs[i]? = some s → rgN x p ⟨nm, en, ac, re, ip, ou, ra, rc, rs, pa, pc, qs⟩ i s = 0) := hno
  have HI : Hid (PaI w x C N R B ⟨nm, en, ac, re, ip, ou, ra, rc, rs, pa, pc, qs⟩ wr) := hI
  clear hno hI
  have p6 := HI.out.par.cell (i := 6) rfl
  dsimp only at p6
  rw [HX.out.2.2.2.2.2.2.1] at p6
  by_cases hlt : j < M
  ·
   have hjm : (j : Int) < M := by omega
   obtain ⟨r, hr⟩ : ∃ r, rs[j]? = some r := ⟨_, List.getElem?_eq_getElem (by have := HX.out.2.2.2.2.2.2.1; omega)⟩
   have HR : Hid (rs[j]? = some r) := hr
   have HJ : Hid (j < M) := hlt
   have HC : Hid (Calls Tryz.prog 28 #[x.v, .int .i64 (p : Int), .int .i64 (j : Int)] wr (NuP (rgN x p ⟨nm, en, ac, re, ip, ou, ra, rc, rs, pa, pc, qs⟩ j r) wr)) :=
    dregion_any x p ⟨nm, en, ac, re, ip, ou, ra, rc, rs, pa, pc, qs⟩ j r HX.out.2.1 hr wr N HI.out.one.cin HI.out.one.nn HX.out.2.2.1 (fun s hs => by
     obtain ⟨i, hi⟩ := List.getElem?_of_mem hs
     rw [List.getElem?_take] at hi
     split at hi
     ·
      exact rgN_okB (HN.out i s (by omega) hi)
     ·
      cases hi) HX.out.2.2.2.2.2.1
   obtain ⟨q0, q1, q2, q3, q4, q5, q6⟩ := HI.out.one.cells
   obtain ⟨V, hV⟩ : ∃ V, rgN x p ⟨nm, en, ac, re, ip, ou, ra, rc, rs, pa, pc, qs⟩ j r = V := ⟨_, rfl⟩
   rw [hV] at HC
   have HV : Hid (rgN x p ⟨nm, en, ac, re, ip, ou, ra, rc, rs, pa, pc, qs⟩ j r = V) := hV
   clear hr hV
   go_wp2_with fail
   refine HC.out.mono ?_
   rintro e w8 ⟨rfl, hK8⟩
   have HI8 : Hid (PaI w x C N R B ⟨nm, en, ac, re, ip, ou, ra, rc, rs, pa, pc, qs⟩ w8) := HI.out.kept hK8
   clear hK8 HC q0 q1 q2 q3 q4 q5 q6 p6 HI
   by_cases hv0 : V = 0
   ·
    have HV0 : Hid (V = 0) := hv0
    go_wp2
    go_roundw
    case rel =>
     refine ⟨j + 1, by have := HJ.out; omega, by go_num, fun i s h1 h2 => ?_, HI8.out⟩
     by_cases e : i = j
     ·
      subst e
      rw [HR.out] at h2
      cases h2
      rw [HV.out, HV0.out]
     ·
      exact HN.out i s (by omega) h2
    case measure => have := HJ.out; simp [intOf]; omega
   ·
    have HF : Hid (F = ⟨V, p, j⟩) := by
     show F = _
     rw [HF6.out, firstF_cons_yes (by rw [rgnsF_hit HR.out HN.out (by rw [HV.out]; exact hv0)]; dsimp only; rw [HV.out]; exact hv0), rgnsF_hit HR.out HN.out (by rw [HV.out]; exact hv0), HV.out]
    have HI9 := HI8
    have t0 := HI9.out.res.cell (i := 0) rfl
    have t1 := HI9.out.res.cell (i := 1) rfl
    have u0 := HI9.out.res.frozen 0
    have u1 := HI9.out.res.frozen 1
    go_wp2
    obtain ⟨W9, hW9⟩ : ∃ W9, W9 = (w8.setCell ⟨R, 0, none⟩ (.int .i64 (p : Int))).setCell ⟨R, 1, none⟩ (.int .i64 (j : Int)) := ⟨_, rfl⟩
    rw [← hW9]
    obtain ⟨hb9, hk9⟩ := HI9.out.set (p : Int) (j : Int)
    rw [← hW9] at hb9 hk9
    (try simp only [Exit.inBlock, Exit.then])
    refine bodyPost_ret (results_two_cell rfl _ _ R 34 _ (0, 0) _ rfl hb9 Tryz.underlying34 rfl (by kernel_rfl)) rfl ?_
    exact ⟨by rw [HF.out]; rfl, hk9⟩
  ·
   obtain rfl : j = M := by omega
   have HG : Hid ((rgnsF x p ⟨nm, en, ac, re, ip, ou, ra, rc, rs, pa, pc, qs⟩).n = 0 ∧ ∀ r ∈ rs, r.okB x.frames = true) := by
    have h1 : ∀ i s, rs[i]? = some s → rgN x p ⟨nm, en, ac, re, ip, ou, ra, rc, rs, pa, pc, qs⟩ i s = 0 := fun i s h => HN.out i s (by have := (List.getElem?_eq_some_iff.1 h).1; have := HX.out.2.2.2.2.2.2.1; omega) h
    refine ⟨rgnsF_no h1, fun r hr => ?_⟩
    obtain ⟨i, hi⟩ := List.getElem?_of_mem hr
    exact rgN_okB (h1 i r hi)
   have HF7 : Hid (F = firstF [unl (Par.begB ⟨nm, en, ac, re, ip, ou, ra, rc, rs, pa, pc, qs⟩) ⟨412, p, -1⟩, unl (decide ((qs.length : Int) ≤ 8)) ⟨413, p, -1⟩, prtsF x p ⟨nm, en, ac, re, ip, ou, ra, rc, rs, pa, pc, qs⟩]) := by
    show F = _
    rw [HF6.out, firstF_cons_no HG.out.1]
   clear HN hj hlt
   have p0 := HI.out.par.cell (i := 0) rfl
   have p1 := HI.out.par.cell (i := 1) rfl
   have p2 := HI.out.par.cell (i := 2) rfl
   have p3 := HI.out.par.cell (i := 3) rfl
   have p4 := HI.out.par.cell (i := 4) rfl
   have p5 := HI.out.par.cell (i := 5) rfl
   have p7 := HI.out.par.cell (i := 7) rfl
   dsimp only at p0 p1 p2 p3 p4 p5 p7
   rw [HX.out.2.2.2.2.2.2.2] at p7
   have HC : Hid (Calls Tryz.prog 29 #[.agg #[.string nm, .int .i64 en, .int .i64 ac, .int .i64 re, .int .i64 ip, .int .i64 ou, .slice ra j rc, .slice pa K pc]] wr (BoP (Par.begB ⟨nm, en, ac, re, ip, ou, ra, rc, rs, pa, pc, qs⟩) wr)) := by
    have := dentry_any ⟨nm, en, ac, re, ip, ou, ra, rc, rs, pa, pc, qs⟩ wr N (HI.out.one.cin.pin _ (List.mem_of_getElem? HX.out.2.1)) HI.out.one.nn x.frames HX.out.2.2.1.2 HG.out.2
    simp only [Par.v, HX.out.2.2.2.2.2.2.1, HX.out.2.2.2.2.2.2.2] at this
    exact this
   go_wp2_with fail
   refine HC.out.mono ?_
   rintro e w8 ⟨rfl, hK8⟩
   have HI8 : Hid (PaI w x C N R B ⟨nm, en, ac, re, ip, ou, ra, rc, rs, pa, pc, qs⟩ w8) := HI.out.kept hK8
   clear hK8 HC p0 p1 p2 p3 p4 p5 p6 p7 HI
   have HI := HI8
   clear HI8
   cases b7 : Par.begB ⟨nm, en, ac, re, ip, ou, ra, rc, rs, pa, pc, qs⟩ with
   | false =>
    have HB7 : Hid (Par.begB ⟨nm, en, ac, re, ip, ou, ra, rc, rs, pa, pc, qs⟩ = false) := b7
    clear b7
    have HF : Hid (F = ⟨412, p, -1⟩) := by
     show F = _
     rw [HF7.out, HB7.out, firstF_unl_false (by simp)]
    go_wp2_with fail
    refine (HOf.out w8).mono ?_
    rintro e w9 ⟨rfl, hK9⟩
    have HI9 : Hid (PaI w x C N R B ⟨nm, en, ac, re, ip, ou, ra, rc, rs, pa, pc, qs⟩ w9) := HI.out.kept hK9
    clear hK9
    have t0 := HI9.out.res.cell (i := 0) rfl
    have t1 := HI9.out.res.cell (i := 1) rfl
    have u0 := HI9.out.res.frozen 0
    have u1 := HI9.out.res.frozen 1
    go_wp2
    obtain ⟨W9, hW9⟩ : ∃ W9, W9 = (w9.setCell ⟨R, 0, none⟩ (.int .i64 (p : Int))).setCell ⟨R, 1, none⟩ (.int .i64 (-1)) := ⟨_, rfl⟩
    rw [← hW9]
    obtain ⟨hb9, hk9⟩ := HI9.out.set (p : Int) (-1)
    rw [← hW9] at hb9 hk9
    (try simp only [Exit.inBlock, Exit.then])
    refine bodyPost_ret (results_two_cell rfl _ _ R 34 _ (0, 0) _ rfl hb9 Tryz.underlying34 rfl (by kernel_rfl)) rfl ?_
    exact ⟨by rw [HF.out]; rfl, hk9⟩
   | true =>
   have H7 : Hid (Par.begB ⟨nm, en, ac, re, ip, ou, ra, rc, rs, pa, pc, qs⟩ = true) := b7
   clear b7
   have p7 := HI.out.par.cell (i := 7) rfl
   dsimp only at p7
   rw [HX.out.2.2.2.2.2.2.2] at p7
   by_cases h8 : (8 : Int) < K
   ·
    have HB8 : Hid (decide ((qs.length : Int) ≤ 8) = false) := by show _ = _; rw [HX.out.2.2.2.2.2.2.2]; simp; omega
    have HF : Hid (F = ⟨413, p, -1⟩) := by
     show F = _
     rw [HF7.out, H7.out, HB8.out, firstF_unl_true, firstF_unl_false (by simp)]
    go_wp2_with fail
    refine (HOf.out w8).mono ?_
    rintro e w9 ⟨rfl, hK9⟩
    have HI9 : Hid (PaI w x C N R B ⟨nm, en, ac, re, ip, ou, ra, rc, rs, pa, pc, qs⟩ w9) := HI.out.kept hK9
    clear hK9
    have t0 := HI9.out.res.cell (i := 0) rfl
    have t1 := HI9.out.res.cell (i := 1) rfl
    have u0 := HI9.out.res.frozen 0
    have u1 := HI9.out.res.frozen 1
    go_wp2
    obtain ⟨W9, hW9⟩ : ∃ W9, W9 = (w9.setCell ⟨R, 0, none⟩ (.int .i64 (p : Int))).setCell ⟨R, 1, none⟩ (.int .i64 (-1)) := ⟨_, rfl⟩
    rw [← hW9]
    obtain ⟨hb9, hk9⟩ := HI9.out.set (p : Int) (-1)
    rw [← hW9] at hb9 hk9
    (try simp only [Exit.inBlock, Exit.then])
    refine bodyPost_ret (results_two_cell rfl _ _ R 34 _ (0, 0) _ rfl hb9 Tryz.underlying34 rfl (by kernel_rfl)) rfl ?_
    exact ⟨by rw [HF.out]; rfl, hk9⟩
   have HF8 : Hid (F = prtsF x p ⟨nm, en, ac, re, ip, ou, ra, rc, rs, pa, pc, qs⟩) := by
    show F = _
    rw [HF7.out, H7.out, HX.out.2.2.2.2.2.2.2, show decide ((K : Int) ≤ 8) = true by simp; omega, firstF_unl_true, firstF_unl_true]
    by_cases e : (prtsF x p ⟨nm, en, ac, re, ip, ou, ra, rc, rs, pa, pc, qs⟩).n = 0
    ·
     rw [firstF_cons_no e]
     symm
     unfold prtsF at e ⊢
     refine firstF_no fun i r hr => ?_
     exact firstF_eq0.1 e r (List.mem_of_getElem? hr)
    ·
     rw [firstF_cons_yes e]
   go_wp2
   clear p7
   go_loopw [9] (fun i wr => ∃ k : Nat, k ≤ K ∧ i = .int .i64 k ∧ (∀ (i : Nat) (s : Prt), i < k → qs[i]? = some s → inR s.ch 0 ((x.hs.length : Int) - 1) = true) ∧ PaI w x C N R B ⟨nm, en, ac, re, ip, ou, ra, rc, rs, pa, pc, qs⟩ wr) (fun i _ => K - (intOf i).toNat)
   case atStart => exact ⟨0, by omega, rfl, fun i s h => absurd h (by omega), HI.out⟩
   case round =>
    obtain ⟨k, hk, rfl, hno, hI⟩ := hrel
    clear HI
    have HN : Hid (∀ (i : Nat) (s : Prt), i < k → qs[i]? = some s → inR s.ch 0 ((x.hs.length : Int) - 1) = true) := hno
    have HI : Hid (PaI w x C N R B ⟨nm, en, ac, re, ip, ou, ra, rc, rs, pa, pc, qs⟩ wr) := hI
    clear hno hI
    have p7 := HI.out.par.cell (i := 7) rfl
    dsimp only at p7
    rw [HX.out.2.2.2.2.2.2.2] at p7
    by_cases hlt : k < K
    ·
     have hkk : (k : Int) < K := by omega
     obtain ⟨t, ht⟩ : ∃ t, qs[k]? = some t := ⟨_, List.getElem?_eq_getElem (by have := HX.out.2.2.2.2.2.2.2; omega)⟩
     obtain ⟨g', o', ha', hc'⟩ := (HI.out.one.cin.pin _ (List.mem_of_getElem? HX.out.2.1)).pseg.at ht
     dsimp only at ha'
     subst ha'
     have HT : Hid (qs[k]? = some t) := ht
     have z0 := hc' 0 _ rfl
     rw [Nat.add_zero] at z0
     obtain ⟨ch, sr⟩ := t
     dsimp only at z0
     have q6 := HI.out.one.cells.2.2.2.2.2.2
     rw [HX.out.2.2.2.2.1] at q6
     have qh : IntKind.i64.wrap ((H : Int) - 1) = H - 1 := by have := HX.out.2.2.2.1; rw [IntKind.wrap_i64]; omega
     have HSw : Hid (∀ w', KF wr w' → w'.cell? ⟨B, 7, none⟩ = some (.slice (some ⟨g', o', none⟩) K pc) ∧ w'.cell? ⟨g', o' + k * 2, none⟩ = some (.int .i64 ch) ∧ w'.cell? ⟨C, 6, none⟩ = some (.slice x.ha H x.hc)) := fun w' hK => by
      have h1 := (HI.out.kept hK).par.cell (i := 7) rfl
      have h2 := (HI.out.kept hK).one.cells.2.2.2.2.2.2
      dsimp only at h1
      rw [HX.out.2.2.2.2.2.2.2] at h1
      rw [HX.out.2.2.2.2.1] at h2
      have hg : g' < wr.heap.size := World.block_lt_of_cell? wr ⟨g', o' + k * 2, none⟩ z0
      exact ⟨h1, by rw [World.cell?_of_block (w := wr) (hK.block g' hg fun h => h)]; exact z0, h2⟩
     clear ht hc'
     go_upto_region 23 with fail
     refine wp_region_held_drew (S := (fun w' => w'.cell? ⟨B, 7, none⟩ = some (.slice (some ⟨g', o', none⟩) K pc) ∧ w'.cell? ⟨g', o' + k * 2, none⟩ = some (.int .i64 ch) ∧ w'.cell? ⟨C, 6, none⟩ = some (.slice x.ha H x.hc))) Tryz.mixd (HSw.out _ (Keeps.refl _ wr).drew) (fun hHeld => ?_)
     simp only [t1, t2, List.length_nil, Nat.reduceAdd, t4, Array.replicate_zero, t6, List.nil_append, t8]
     refine tk 0 (.pointer (some ⟨B, 7, none⟩)) hHeld ?_
     refine tk 1 (.slice (some ⟨g', o', none⟩) K pc) hHeld ?_
     refine tk 2 (.int .i64 (k : Int)) hHeld ?_
     refine tk 3 (.pointer (some ⟨g', o' + k * 2, none⟩)) hHeld ?_
     refine tk 4 (.pointer (some ⟨g', o' + k * 2, none⟩)) hHeld ?_
     refine tk 5 (.int .i64 ch) hHeld ?_
     refine tk 6 (.pointer (some ⟨C, 6, none⟩)) hHeld ?_
     refine tk 7 (.slice x.ha H x.hc) hHeld ?_
     refine tk 8 (.int .i64 (H : Int)) hHeld ?_
     refine tk 9 (.int .i64 ((H : Int) - 1)) hHeld ?_
     simp only [Act.put, s1, s2, s3]
     refine rd 10 fun Kq hK => ?_
     go_simp
     refine (HIn.out ch 0 ((H : Int) - 1) wr.drew).mono ?_
     rintro e w7 ⟨rfl, rfl⟩
     refine hK _ _ (HSw.out _ (Keeps.refl _ wr).drew) (fun hHeld => ?_)
     simp only [Act.put, s1, s2, s3]
     refine tk 11 (.bool (!(inR ch 0 ((H : Int) - 1)))) hHeld ?_
     simp only [Act.put, s1, s2, s3]
     refine wpAnyH_done (by kernel_rfl) ?_ _
     clear hHeld
     obtain ⟨Wd, hWd⟩ : ∃ Wd, Wd = wr.drew := ⟨_, rfl⟩
     rw [← hWd]
     have HId : Hid (PaI w x C N R B ⟨nm, en, ac, re, ip, ou, ra, rc, rs, some ⟨g', o', none⟩, pc, qs⟩ Wd) := by rw [hWd]; exact HI.out.kept (Keeps.refl _ wr).drew
     clear hWd hK Kq p7 z0 q6
     cases b9 : inR ch 0 ((H : Int) - 1) with
     | false =>
      have HF : Hid (F = ⟨414, p, k⟩) := by
       show F = _
       rw [HF8.out]
       exact prtsF_hit HT.out HN.out (by rw [HX.out.2.2.2.2.1]; exact b9)
      clear b9
      have HI9 := HId
      have t0 := HI9.out.res.cell (i := 0) rfl
      have t1 := HI9.out.res.cell (i := 1) rfl
      have u0 := HI9.out.res.frozen 0
      have u1 := HI9.out.res.frozen 1
      go_wp2
      obtain ⟨W9, hW9⟩ : ∃ W9, W9 = (Wd.setCell ⟨R, 0, none⟩ (.int .i64 (p : Int))).setCell ⟨R, 1, none⟩ (.int .i64 (k : Int)) := ⟨_, rfl⟩
      rw [← hW9]
      obtain ⟨hb9, hk9⟩ := HI9.out.set (p : Int) (k : Int)
      rw [← hW9] at hb9 hk9
      (try simp only [Exit.inBlock, Exit.then])
      refine bodyPost_ret (results_two_cell rfl _ _ R 34 _ (0, 0) _ rfl hb9 Tryz.underlying34 rfl (by kernel_rfl)) rfl ?_
      exact ⟨by rw [HF.out]; rfl, hk9⟩
     | true =>
      have HB9 : Hid (inR ch 0 ((H : Int) - 1) = true) := b9
      clear b9
      go_wp2
      go_roundw
      case rel =>
       refine ⟨k + 1, by omega, by go_num, fun i s h1 h2 => ?_, HId.out⟩
       by_cases e : i = k
       ·
        subst e
        rw [HT.out] at h2
        cases h2
        rw [HX.out.2.2.2.2.1]
        exact HB9.out
       ·
        exact HN.out i s (by omega) h2
      case measure => simp [intOf]; omega
    ·
     obtain rfl : k = K := by omega
     have HF : Hid (F = Flt.no) := by
      show F = _
      rw [HF8.out]
      have h1 : ∀ (i : Nat) (s : Prt), qs[i]? = some s → inR s.ch 0 ((x.hs.length : Int) - 1) = true := fun i s h => HN.out i s (by have := (List.getElem?_eq_some_iff.1 h).1; have := HX.out.2.2.2.2.2.2.2; omega) h
      have h2 := prtsF_no (x := x) (p := p) (P := ⟨nm, en, ac, re, ip, ou, ra, rc, rs, pa, pc, qs⟩) h1
      unfold prtsF at h2 ⊢
      exact firstF_no fun i r hr => firstF_eq0.1 h2 r (List.mem_of_getElem? hr)
     have HI9 := HI
     have t0 := HI9.out.res.cell (i := 0) rfl
     have t1 := HI9.out.res.cell (i := 1) rfl
     have u0 := HI9.out.res.frozen 0
     have u1 := HI9.out.res.frozen 1
     go_wp2
     obtain ⟨W9, hW9⟩ : ∃ W9, W9 = (wr.setCell ⟨R, 0, none⟩ (.int .i64 0)).setCell ⟨R, 1, none⟩ (.int .i64 0) := ⟨_, rfl⟩
     rw [← hW9]
     obtain ⟨hb9, hk9⟩ := HI9.out.set 0 0
     rw [← hW9] at hb9 hk9
     (try simp only [Exit.inBlock, Exit.then])
     refine bodyPost_ret (results_two_cell rfl _ _ R 34 _ (0, 0) _ rfl hb9 Tryz.underlying34 rfl (by kernel_rfl)) rfl ?_
     exact ⟨by rw [HF.out]; rfl, hk9⟩
end Go.Proofs.YtlnmlbkeemahcaaGreat
