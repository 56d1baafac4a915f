import Derived.Test.YtipejahmjdamjaaGreatDoorCf
namespace Go.Proofs.YtipejahmjdamjaaGreatDoor
open Go.RowKit Go.Shelf
set_option linter.unusedVariables false
set_option maxRecDepth 6000

/-- How far a piece has come from world W, in short. -/
structure Far (W w : World) (s tb cb g n : Nat) (cs : List Value) (t : Sp) (xs : List UInt32) (ls : List Tl.Lf) (st : Nat → List Int) (FT FC F1 F2 : Nat → Prop) : Prop where
  env : Env w s tb cb g n cs t xs ls st F1 F2
  a1 : ∀ k, F1 k → FT k ∨ W.heap.size ≤ k
  a2 : ∀ k, F2 k → FC k ∨ W.heap.size ≤ k
  kp : Keeps (fun k => k = s ∨ k = g ∨ FT k ∨ FC k) W w

theorem Moved.far {W w : World} {s tb cb g n : Nat} {cs : List Value} {t : Sp} {xs : List UInt32} {ls : List Tl.Lf} {st : Nat → List Int} {FT FC : Nat → Prop} (h : Moved W w s tb cb g n cs FT FC t xs ls st) :
    ∃ F1 F2, Far W w s tb cb g n cs t xs ls st FT FC F1 F2 := by
  obtain ⟨F1, F2, e, a1, a2, a3⟩ := h
  exact ⟨F1, F2, e, a1, a2, a3⟩
theorem Far.on {W w w2 : World} {s tb cb g n : Nat} {cs : List Value} {t t2 : Sp} {xs xs2 : List UInt32} {ls ls2 : List Tl.Lf} {st st2 : Nat → List Int} {FT FC F1 F2 : Nat → Prop} (h : Far W w s tb cb g n cs t xs ls st FT FC F1 F2)
    (h2 : Moved w w2 s tb cb g n cs F1 F2 t2 xs2 ls2 st2) : Moved W w2 s tb cb g n cs FT FC t2 xs2 ls2 st2 := Moved.trans ⟨h.a1, h.a2, h.kp⟩ h2
theorem Far.moved {W w : World} {s tb cb g n : Nat} {cs : List Value} {t : Sp} {xs : List UInt32} {ls : List Tl.Lf} {st : Nat → List Int} {FT FC F1 F2 : Nat → Prop} (h : Far W w s tb cb g n cs t xs ls st FT FC F1 F2) :
    Moved W w s tb cb g n cs FT FC t xs ls st := ⟨F1, F2, h.env, h.a1, h.a2, h.kp⟩

/-- The cost goes on. -/
theorem Env.paid {w : World} {s tb cb g n : Nat} {cs : List Value} {t : Sp} {xs : List UInt32} {ls : List Tl.Lf} {st : Nat → List Int} {FT FC : Nat → Prop} (h : Env w s tb cb g n cs t xs ls st FT FC) (k : Int) :
    Moved w (w.setCell ⟨s, 26, none⟩ (.int .i64 k)) s tb cb g n cs FT FC { t with cost := k } xs ls st :=
  h.turned (h.sp.set 10 _ _ rfl rfl h.sp.la h.sp.lb h.sp.ld) ((Keeps.refl _ w).setCell _ _ fun _ => rfl) rfl rfl

/-- Up to the walk through the tables. -/
theorem paid_far {W w1 : World} {s tb cb g n : Nat} {cs : List Value} {t : Sp} {xs : List UInt32} {ls : List Tl.Lf} {st : Nat → List Int} {FT FC F1 F2 : Nat → Prop} (h : Far W w1 s tb cb g n cs t xs ls st FT FC F1 F2) (o : Obj) (k : Int) :
    ∃ G1 G2, Far W (((w1.alloc o).setCell ⟨s, 26, none⟩ (.int .i64 k)).drewN 1) s tb cb g n cs { t with cost := k } xs ls st FT FC G1 G2 := by
  obtain ⟨A1, A2, hA⟩ := (h.on (h.env.grow ((Keeps.refl _ w1).alloc o))).far
  obtain ⟨B1, B2, hB⟩ := (hA.on (hA.env.paid k)).far
  exact (hB.on (hB.env.grow ((Keeps.refl _ _).drewN 1))).far

theorem Far.grown {W w w2 : World} {s tb cb g n : Nat} {cs : List Value} {t : Sp} {xs : List UInt32} {ls : List Tl.Lf} {st : Nat → List Int} {FT FC F1 F2 : Nat → Prop} (h : Far W w s tb cb g n cs t xs ls st FT FC F1 F2) (hK : Keeps (fun _ => False) w w2) :
    Far W w2 s tb cb g n cs t xs ls st FT FC F1 F2 := ⟨h.env.grown hK, h.a1, h.a2, h.kp.trans hK fun _ _ h => h.elim⟩

set_option maxHeartbeats 4000000 in
theorem leaf_none (s tb cb g n p : Nat) (cs : List Value) (t : Sp) (xs : List UInt32) (ls : List Tl.Lf) (st : Nat → List Int) (FT FC : Nat → Prop) (w : World) (h : Env w s tb cb g n cs t xs ls st FT FC) (hp : p < 256) (hx : Tl.findT p ls = none)
    (hq : 0 ≤ t.cost ∧ t.cost ≤ 1000) (hw : walkE n xs t.root p ≠ 0) :
    Calls Tryz.prog 126 #[ptr s, .int .i64 p] w fun e w' => e = .returned (.tuple #[Tl.Lf.none.v, .bool false]) ∧ Moved w w' s tb cb g n cs FT FC { t with cost := t.cost + 6 } xs ls st := by
  obtain ⟨W, hW⟩ : ∃ W, W = w.alloc (.cells #[.int .i64 0, .int .i64 0, .int .i64 0] 64) := ⟨_, rfl⟩
  have hB : Blk W w.heap.size lf0.vs 64 := by rw [hW]; exact Blk.new w _ 64
  have hK : Keeps (fun _ => False) w W := by rw [hW]; exact (Keeps.refl _ w).alloc _
  have hE := h.grown hK
  have c1 : W.cell? ⟨s, 17, none⟩ = some (ptr t.c) := hE.sp.get 1 rfl
  have c2 : W.cell? ⟨t.c, 17, none⟩ = some (ptr tb) := hE.core.cell h.h17
  have H1 := Tl.findT_any tb ls FT p W hE.tl ⟨by omega, by omega⟩
  rw [show Tl.touchT p ls = ls by unfold Tl.touchT; rw [hx], hx] at H1
  replace H1 : Hid (Calls Tryz.prog 174 #[ptr tb, .int .i64 p] W fun r w' => r = .returned (.tuple #[Tl.Lf.none.v, .bool false]) ∧ Tl.NowT W w' tb ls FT) := H1
  have HE : Hid (W = w.alloc (.cells #[.int .i64 0, .int .i64 0, .int .i64 0] 64)) := hW
  have HH : Hid (Env w s tb cb g n cs t xs ls st FT FC ∧ Env W s tb cb g n cs t xs ls st FT FC ∧ Blk W w.heap.size lf0.vs 64 ∧ Keeps (fun _ => False) w W) := ⟨h, hE, hB, hK⟩
  have HWk := fun (b : Nat) (W' : World) (hM : Mn W' b g n xs) => walk_any b g n xs t.root p W' hM
  rw [show walkL n xs t.root p = lf0 by unfold walkL; rw [if_neg hw]] at HWk
  have g1 : ((walkE n xs t.root p : Int) != 0) = true := by simpa using hw
  obtain ⟨E, eE⟩ : ∃ E, E = walkE n xs t.root p := ⟨_, rfl⟩
  rw [← eE] at g1 HWk
  replace HWk : Hid (∀ (b : Nat) (W' : World), Mn W' b g n xs → Calls Tryz.prog 31 #[ptr b, .int .i64 t.root, .int .i64 p] W' fun e w' => e = .returned (.tuple #[Tl.Lf.none.v, .int .i64 E]) ∧ Keeps (fun _ => False) W' w') := HWk
  obtain ⟨c, ec⟩ : ∃ c, c = t.c := ⟨_, rfl⟩
  obtain ⟨q, eq⟩ : ∃ q, q = t.cost := ⟨_, rfl⟩
  obtain ⟨m, em⟩ : ∃ m, m = t.m := ⟨_, rfl⟩
  obtain ⟨r, er⟩ : ∃ r, r = t.root := ⟨_, rfl⟩
  have HT : Hid (q = t.cost ∧ m = t.m ∧ r = t.root ∧ c = t.c) := ⟨eq, em, er, ec⟩
  rw [← ec, hW] at c1 c2
  rw [← eq] at hq
  rw [← er] at HWk
  have b1 : 0 ≤ q := hq.1
  have b2 : q ≤ 1000 := hq.2
  clear h hE hB hK hW hx ec hw hq eq em er eE
  go_enter Tryz.func126, Tryz.ntmps126
  go_wp2_with fail
  rw [← HE.out]
  refine H1.out.mono ?_
  rintro e w1 ⟨rfl, hN⟩
  clear c1 c2 H1
  obtain ⟨F1, C1, hF1⟩ := (HH.out.2.1.known hN HH.out.1.good).far
  obtain ⟨F4, C4, hF4⟩ := paid_far hF1 (.cells #[.int .i64 0, .int .i64 0, .int .i64 0] 64) (q + 6)
  have hE2 := hF1.env.grown ((Keeps.refl _ w1).alloc (.cells #[.int .i64 0, .int .i64 0, .int .i64 0] 64))
  have c1 : (w1.alloc (.cells #[.int .i64 0, .int .i64 0, .int .i64 0] 64)).cell? ⟨s, 26, none⟩ = some (.int .i64 q) := by rw [HT.out.1]; exact hE2.sp.get 10 rfl
  have f1 := hE2.sp.frozen 26
  have c2 : ((w1.alloc (.cells #[.int .i64 0, .int .i64 0, .int .i64 0] 64)).setCell ⟨s, 26, none⟩ (.int .i64 (q + 6))).cell? ⟨s, 18, none⟩ = some (ptr m) := by rw [HT.out.2.1]; exact hF4.env.sp.get 2 rfl
  have c3 : ((w1.alloc (.cells #[.int .i64 0, .int .i64 0, .int .i64 0] 64)).setCell ⟨s, 26, none⟩ (.int .i64 (q + 6))).cell? ⟨s, 19, none⟩ = some (.int .i64 r) := by rw [HT.out.2.2.1]; exact hF4.env.sp.get 3 rfl
  have HC : Hid (∀ W', Keeps (fun _ => False) (((w1.alloc (.cells #[.int .i64 0, .int .i64 0, .int .i64 0] 64)).setCell ⟨s, 26, none⟩ (.int .i64 (q + 6))).drewN 1) W' → Calls Tryz.prog 31 #[ptr m, .int .i64 r, .int .i64 p] W' _) := fun W' hK' => HWk.out m W' (by rw [HT.out.2.1]; exact hF4.env.mn.grown hK')
  have HF : Hid (Far W (((w1.alloc (.cells #[.int .i64 0, .int .i64 0, .int .i64 0] 64)).setCell ⟨s, 26, none⟩ (.int .i64 (q + 6))).drewN 1) s tb cb g n cs { t with cost := q + 6 } xs ls st FT FC F4 C4) := hF4
  have HB : Hid (Blk (((w1.alloc (.cells #[.int .i64 0, .int .i64 0, .int .i64 0] 64)).setCell ⟨s, 26, none⟩ (.int .i64 (q + 6))).drewN 1) w.heap.size lf0.vs 64) :=
    HH.out.2.2.1.kept hF4.kp fun e => by
      obtain ⟨l1, l2, l3, l4⟩ := HH.out.1.lt
      rcases e with e | e | e | e
      · omega
      · omega
      · exact absurd (HH.out.1.tl.lt _ e) (Nat.lt_irrefl _)
      · exact absurd (HH.out.1.ca.lt _ e) (Nat.lt_irrefl _)
  have HkA : Hid (Keeps (fun _ => False) (((w1.alloc (.cells #[.int .i64 0, .int .i64 0, .int .i64 0] 64)).setCell ⟨s, 26, none⟩ (.int .i64 (q + 6))).drewN 1) (((w1.alloc (.cells #[.int .i64 0, .int .i64 0, .int .i64 0] 64)).setCell ⟨s, 26, none⟩ (.int .i64 (q + 6))).alloc (.cells #[.int .i64 0, .int .i64 0, .int .i64 0] 64)).drew) := ((Keeps.refl (fun _ => False) (((w1.alloc (.cells #[.int .i64 0, .int .i64 0, .int .i64 0] 64)).setCell ⟨s, 26, none⟩ (.int .i64 (q + 6))).drewN 1)).alloc (.cells #[.int .i64 0, .int .i64 0, .int .i64 0] 64))
  have HkB : Hid (Keeps (fun _ => False) (((w1.alloc (.cells #[.int .i64 0, .int .i64 0, .int .i64 0] 64)).setCell ⟨s, 26, none⟩ (.int .i64 (q + 6))).drewN 1) ((w1.alloc (.cells #[.int .i64 0, .int .i64 0, .int .i64 0] 64)).setCell ⟨s, 26, none⟩ (.int .i64 (q + 6))).drew) := Keeps.refl (fun _ => False) (((w1.alloc (.cells #[.int .i64 0, .int .i64 0, .int .i64 0] 64)).setCell ⟨s, 26, none⟩ (.int .i64 (q + 6))).drewN 1)
  have HsA : Hid (((w1.alloc (.cells #[.int .i64 0, .int .i64 0, .int .i64 0] 64)).setCell ⟨s, 26, none⟩ (.int .i64 (q + 6))).heap.size = w1.heap.size + 1) := by show _ = _; simp
  have HbA : Hid (Blk (((w1.alloc (.cells #[.int .i64 0, .int .i64 0, .int .i64 0] 64)).setCell ⟨s, 26, none⟩ (.int .i64 (q + 6))).alloc (.cells #[.int .i64 0, .int .i64 0, .int .i64 0] 64)).drew (w1.heap.size + 1) Tl.Lf.none.vs 64) := by
    have := Blk.new ((w1.alloc (.cells #[.int .i64 0, .int .i64 0, .int .i64 0] 64)).setCell ⟨s, 26, none⟩ (.int .i64 (q + 6))) #[.int .i64 0, .int .i64 0, .int .i64 0] 64
    rw [HsA.out] at this
    exact this
  have HLt : Hid (∀ k, F4 k → k < (((w1.alloc (.cells #[.int .i64 0, .int .i64 0, .int .i64 0] 64)).setCell ⟨s, 26, none⟩ (.int .i64 (q + 6))).drewN 1).heap.size) := hF4.env.tl.lt
  have HsN : Hid (¬ s = w1.heap.size + 1) := by have := hF1.env.lt.1; show ¬ s = w1.heap.size + 1; omega
  have HL1 : Hid (w.heap.size < w1.heap.size) := by have := hF1.kp.size; have := HH.out.2.2.1.lt; show w.heap.size < w1.heap.size; omega
  clear hN hF1 hF4 hE2
  go_wp2_with fail
  have hS : ((w1.alloc (.cells #[.int .i64 0, .int .i64 0, .int .i64 0] 64)).setCell ⟨s, 26, none⟩ (.int .i64 (q + 6))).cell? ⟨s, 18, none⟩ = some (ptr m) ∧ ((w1.alloc (.cells #[.int .i64 0, .int .i64 0, .int .i64 0] 64)).setCell ⟨s, 26, none⟩ (.int .i64 (q + 6))).cell? ⟨s, 19, none⟩ = some (.int .i64 r) := ⟨c2, c3⟩
  clear c1 f1
  go_region_held3 (fun w' => w'.cell? ⟨s, 18, none⟩ = some (ptr m) ∧ w'.cell? ⟨s, 19, none⟩ = some (.int .i64 r)) (first | exact hS | exact hS3 | go_keep)
    (first
      | (go_at_call 31; refine (HC.out _ HkB.out).mono ?_; rintro e w5 ⟨rfl, hK5⟩; have hS2 : w5.cell? ⟨s, 18, none⟩ = some (ptr m) ∧ w5.cell? ⟨s, 19, none⟩ = some (.int .i64 r) := ⟨Ch.cell_kept c2 (HkB.out.fromDrewN.trans hK5 fun _ _ h => h) fun h => h, Ch.cell_kept c3 (HkB.out.fromDrewN.trans hK5 fun _ _ h => h) fun h => h⟩; have H5 : Hid (Keeps (fun _ => False) (((w1.alloc (.cells #[.int .i64 0, .int .i64 0, .int .i64 0] 64)).setCell ⟨s, 26, none⟩ (.int .i64 (q + 6))).drewN 1) w5) := HkB.out.trans hK5 fun _ _ h => h; clear hK5 hS c2 c3)
      | (go_at_call 31; refine (HC.out _ HkA.out).mono ?_; rintro e w5 ⟨rfl, hK5⟩; have hS2 : w5.cell? ⟨s, 18, none⟩ = some (ptr m) ∧ w5.cell? ⟨s, 19, none⟩ = some (.int .i64 r) := ⟨Ch.cell_kept c2 (HkA.out.fromDrewN.trans hK5 fun _ _ h => h) fun h => h, Ch.cell_kept c3 (HkA.out.fromDrewN.trans hK5 fun _ _ h => h) fun h => h⟩; have hb5 : Blk w5 (w1.heap.size + 1) Tl.Lf.none.vs 64 := HbA.out.kept hK5 fun h => h; have kz : Keeps (fun k => k = w1.heap.size + 1) w5 (((w5.setCell ⟨w1.heap.size + 1, 0, none⟩ (.int .i64 Tl.Lf.none.p)).setCell ⟨w1.heap.size + 1, 1, none⟩ (.int .i64 Tl.Lf.none.f)).setCell ⟨w1.heap.size + 1, 2, none⟩ (.int .i64 Tl.Lf.none.r)) := (Keeps.refl (fun k => k = w1.heap.size + 1) w5).setLeaf _ Tl.Lf.none (fun _ => rfl); have hS3 : (((w5.setCell ⟨w1.heap.size + 1, 0, none⟩ (.int .i64 Tl.Lf.none.p)).setCell ⟨w1.heap.size + 1, 1, none⟩ (.int .i64 Tl.Lf.none.f)).setCell ⟨w1.heap.size + 1, 2, none⟩ (.int .i64 Tl.Lf.none.r)).cell? ⟨s, 18, none⟩ = some (ptr m) ∧ (((w5.setCell ⟨w1.heap.size + 1, 0, none⟩ (.int .i64 Tl.Lf.none.p)).setCell ⟨w1.heap.size + 1, 1, none⟩ (.int .i64 Tl.Lf.none.f)).setCell ⟨w1.heap.size + 1, 2, none⟩ (.int .i64 Tl.Lf.none.r)).cell? ⟨s, 19, none⟩ = some (.int .i64 r) := ⟨Ch.cell_kept hS2.1 kz HsN.out, Ch.cell_kept hS2.2 kz HsN.out⟩; have z0 := hb5.cell (i := 0) rfl; have z1 := hb5.cell (i := 1) rfl; have z2 := hb5.cell (i := 2) rfl; have y0 := hb5.frozen 0; have y1 := hb5.frozen 1; have y2 := hb5.frozen 2; have H5 : Hid (Keeps (fun _ => False) (((w1.alloc (.cells #[.int .i64 0, .int .i64 0, .int .i64 0] 64)).setCell ⟨s, 26, none⟩ (.int .i64 (q + 6))).drewN 1) w5 ∧ Blk w5 (w1.heap.size + 1) Tl.Lf.none.vs 64) := ⟨HkA.out.trans hK5 fun _ _ h => h, hb5⟩; clear hK5 hS c2 c3 hb5 kz))
  · have H6 : Hid (Keeps (fun _ => False) (((w1.alloc (.cells #[.int .i64 0, .int .i64 0, .int .i64 0] 64)).setCell ⟨s, 26, none⟩ (.int .i64 (q + 6))).drewN 1) (w5.alloc (.cells #[.int .i64 0, .int .i64 0, .int .i64 0] 64)) ∧ Blk (w5.alloc (.cells #[.int .i64 0, .int .i64 0, .int .i64 0] 64)) w5.heap.size Tl.Lf.none.vs 64 ∧ w.heap.size < w5.heap.size ∧ (((w1.alloc (.cells #[.int .i64 0, .int .i64 0, .int .i64 0] 64)).setCell ⟨s, 26, none⟩ (.int .i64 (q + 6))).drewN 1).heap.size ≤ w5.heap.size) := by
      have h6 := H5.out.size
      have hb := HB.out.lt
      exact ⟨H5.out.alloc _, Blk.new w5 _ 64, by omega, h6⟩
    obtain ⟨w6, e6⟩ : ∃ w6, w6 = w5.alloc (.cells #[.int .i64 0, .int .i64 0, .int .i64 0] 64) := ⟨_, rfl⟩
    obtain ⟨L, eL⟩ : ∃ L, L = w5.heap.size := ⟨_, rfl⟩
    rw [← e6, ← eL] at H6
    simp only [← e6]
    simp only [← eL]
    clear e6 eL hS2 HC H5
    have hF6 := HF.out.grown H6.out.1
    have hB6 : Blk w6 w.heap.size lf0.vs 64 := HB.out.kept H6.out.1 fun h => h
    have d0 := hB6.cell (i := 0) rfl
    have d1 := hB6.cell (i := 1) rfl
    have d2 := hB6.cell (i := 2) rfl
    have e0 := hB6.frozen 0
    have e1 := hB6.frozen 1
    have e2 := hB6.frozen 2
    have HB6 : Hid (Blk w6 w.heap.size lf0.vs 64) := hB6
    have HK2 := (Keeps.refl (fun k => k = w.heap.size) w6).setLeaf w.heap.size Tl.Lf.none fun _ => rfl
    replace HK2 : Hid (_ ∧ True) := ⟨HK2, trivial⟩
    have HF6 : Hid (Far W w6 s tb cb g n cs { t with cost := q + 6 } xs ls st FT FC F4 C4) := hF6
    clear hB6 hF6 HF HB
    go_wp2
    have HL : Hid (_ = _) := load_leafT (HB6.out.setLeaf (l0 := Tl.Lf.none) Tl.Lf.none)
    refine bodyPost_ret (results_cell_tmp (p := 4) (u := 5) (ty := 64) rfl _ _ ⟨w.heap.size, 0, none⟩ Tl.Lf.none.v rfl HL.out) rfl ?_
    refine ⟨rfl, ?_⟩
    rw [← HT.out.1]
    exact Moved.beside HH.out.1 (Nat.le_refl _) HH.out.2.2.1.lt rfl rfl HH.out.2.2.2 HF6.out.env HF6.out.a1 HF6.out.a2 HF6.out.kp HK2.out.1
  · have H6 : Hid (Keeps (fun _ => False) (((w1.alloc (.cells #[.int .i64 0, .int .i64 0, .int .i64 0] 64)).setCell ⟨s, 26, none⟩ (.int .i64 (q + 6))).drewN 1) (((w5.setCell ⟨w1.heap.size + 1, 0, none⟩ (.int .i64 0)).setCell ⟨w1.heap.size + 1, 1, none⟩ (.int .i64 0)).setCell ⟨w1.heap.size + 1, 2, none⟩ (.int .i64 0)) ∧ Blk (((w5.setCell ⟨w1.heap.size + 1, 0, none⟩ (.int .i64 0)).setCell ⟨w1.heap.size + 1, 1, none⟩ (.int .i64 0)).setCell ⟨w1.heap.size + 1, 2, none⟩ (.int .i64 0)) (w1.heap.size + 1) Tl.Lf.none.vs 64 ∧ w.heap.size < w1.heap.size + 1 ∧ (((w1.alloc (.cells #[.int .i64 0, .int .i64 0, .int .i64 0] 64)).setCell ⟨s, 26, none⟩ (.int .i64 (q + 6))).drewN 1).heap.size ≤ w1.heap.size + 1) := by
      have h6 := HsN.out
      have hb := HsA.out
      have hw := HH.out.2.2.1.lt
      refine ⟨H5.out.1.setLeaf _ Tl.Lf.none fun e => ?_, H5.out.2.setLeaf Tl.Lf.none, ?_⟩
      · have : ((w1.alloc (.cells #[.int .i64 0, .int .i64 0, .int .i64 0] 64)).setCell ⟨s, 26, none⟩ (.int .i64 (q + 6))).heap.size = w1.heap.size + 1 := hb
        have e' : w1.heap.size + 1 < ((w1.alloc (.cells #[.int .i64 0, .int .i64 0, .int .i64 0] 64)).setCell ⟨s, 26, none⟩ (.int .i64 (q + 6))).heap.size := e
        omega
      · exact ⟨by have := HL1.out; omega, by show ((w1.alloc (.cells #[.int .i64 0, .int .i64 0, .int .i64 0] 64)).setCell ⟨s, 26, none⟩ (.int .i64 (q + 6))).heap.size ≤ _; omega⟩
    obtain ⟨w6, e6⟩ : ∃ w6, w6 = ((w5.setCell ⟨w1.heap.size + 1, 0, none⟩ (.int .i64 0)).setCell ⟨w1.heap.size + 1, 1, none⟩ (.int .i64 0)).setCell ⟨w1.heap.size + 1, 2, none⟩ (.int .i64 0) := ⟨_, rfl⟩
    obtain ⟨L, eL⟩ : ∃ L, L = w1.heap.size + 1 := ⟨_, rfl⟩
    rw [← e6, ← eL] at H6
    simp only [← e6]
    simp only [← eL]
    clear e6 eL hS2 hS3 HC H5 z0 z1 z2 y0 y1 y2
    have hF6 := HF.out.grown H6.out.1
    have hB6 : Blk w6 w.heap.size lf0.vs 64 := HB.out.kept H6.out.1 fun h => h
    have d0 := hB6.cell (i := 0) rfl
    have d1 := hB6.cell (i := 1) rfl
    have d2 := hB6.cell (i := 2) rfl
    have e0 := hB6.frozen 0
    have e1 := hB6.frozen 1
    have e2 := hB6.frozen 2
    have HB6 : Hid (Blk w6 w.heap.size lf0.vs 64) := hB6
    have HK2 := (Keeps.refl (fun k => k = w.heap.size) w6).setLeaf w.heap.size Tl.Lf.none fun _ => rfl
    replace HK2 : Hid (_ ∧ True) := ⟨HK2, trivial⟩
    have HF6 : Hid (Far W w6 s tb cb g n cs { t with cost := q + 6 } xs ls st FT FC F4 C4) := hF6
    clear hB6 hF6 HF HB
    go_wp2
    have HL : Hid (_ = _) := load_leafT (HB6.out.setLeaf (l0 := Tl.Lf.none) Tl.Lf.none)
    refine bodyPost_ret (results_cell_tmp (p := 4) (u := 5) (ty := 64) rfl _ _ ⟨w.heap.size, 0, none⟩ Tl.Lf.none.v rfl HL.out) rfl ?_
    refine ⟨rfl, ?_⟩
    rw [← HT.out.1]
    exact Moved.beside HH.out.1 (Nat.le_refl _) HH.out.2.2.1.lt rfl rfl HH.out.2.2.2 HF6.out.env HF6.out.a1 HF6.out.a2 HF6.out.kp HK2.out.1
set_option maxHeartbeats 4000000 in
theorem leaf_new (s tb cb g n p : Nat) (cs : List Value) (t : Sp) (xs : List UInt32) (ls : List Tl.Lf) (st : Nat → List Int) (FT FC : Nat → Prop) (w : World) (h : Env w s tb cb g n cs t xs ls st FT FC) (hp : p < 256) (hx : Tl.findT p ls = none)
    (hq : 0 ≤ t.cost ∧ t.cost ≤ 1000) (hw : walkE n xs t.root p = 0) :
    Calls Tryz.prog 126 #[ptr s, .int .i64 p] w fun e w' => e = .returned (.tuple #[(toT (walkL n xs t.root p)).v, .bool true]) ∧ Moved w w' s tb cb g n cs FT FC { t with cost := t.cost + 6 } xs (Tl.putT (toT (walkL n xs t.root p)) ls) st := by
  obtain ⟨W, hW⟩ : ∃ W, W = w.alloc (.cells #[.int .i64 0, .int .i64 0, .int .i64 0] 64) := ⟨_, rfl⟩
  have hB : Blk W w.heap.size lf0.vs 64 := by rw [hW]; exact Blk.new w _ 64
  have hK : Keeps (fun _ => False) w W := by rw [hW]; exact (Keeps.refl _ w).alloc _
  have hE := h.grown hK
  have c1 : W.cell? ⟨s, 17, none⟩ = some (ptr t.c) := hE.sp.get 1 rfl
  have c2 : W.cell? ⟨t.c, 17, none⟩ = some (ptr tb) := hE.core.cell h.h17
  have H1 := Tl.findT_any tb ls FT p W hE.tl ⟨by omega, by omega⟩
  rw [show Tl.touchT p ls = ls by unfold Tl.touchT; rw [hx], hx] at H1
  replace H1 : Hid (Calls Tryz.prog 174 #[ptr tb, .int .i64 p] W fun r w' => r = .returned (.tuple #[Tl.Lf.none.v, .bool false]) ∧ Tl.NowT W w' tb ls FT) := H1
  have HE : Hid (W = w.alloc (.cells #[.int .i64 0, .int .i64 0, .int .i64 0] 64)) := hW
  have HH : Hid (Env w s tb cb g n cs t xs ls st FT FC ∧ Env W s tb cb g n cs t xs ls st FT FC ∧ Blk W w.heap.size lf0.vs 64 ∧ Keeps (fun _ => False) w W) := ⟨h, hE, hB, hK⟩
  have HM : Hid (Tl.mayB (toT (walkL n xs t.root p)) = true) := toT_may n xs t.root p hw
  have HWk := fun (b : Nat) (W' : World) (hM : Mn W' b g n xs) => walk_any b g n xs t.root p W' hM
  rw [hw] at HWk
  obtain ⟨x, ex⟩ : ∃ x, x = toT (walkL n xs t.root p) := ⟨_, rfl⟩
  replace HWk : Hid (∀ (b : Nat) (W' : World), Mn W' b g n xs → Calls Tryz.prog 31 #[ptr b, .int .i64 t.root, .int .i64 p] W' fun e w' => e = .returned (.tuple #[x.v, .int .i64 0]) ∧ Keeps (fun _ => False) W' w') := by rw [ex]; exact HWk
  rw [← ex] at HM ⊢
  obtain ⟨c, ec⟩ : ∃ c, c = t.c := ⟨_, rfl⟩
  obtain ⟨q, eq⟩ : ∃ q, q = t.cost := ⟨_, rfl⟩
  obtain ⟨m, em⟩ : ∃ m, m = t.m := ⟨_, rfl⟩
  obtain ⟨r, er⟩ : ∃ r, r = t.root := ⟨_, rfl⟩
  have HT : Hid (q = t.cost ∧ m = t.m ∧ r = t.root ∧ c = t.c) := ⟨eq, em, er, ec⟩
  rw [← ec, hW] at c1 c2
  rw [← eq] at hq
  rw [← er] at HWk
  have b1 : 0 ≤ q := hq.1
  have b2 : q ≤ 1000 := hq.2
  clear h hE hB hK hW hx ec hw hq eq em er ex
  go_enter Tryz.func126, Tryz.ntmps126
  go_wp2_with fail
  rw [← HE.out]
  refine H1.out.mono ?_
  rintro e w1 ⟨rfl, hN⟩
  clear c1 c2 H1
  obtain ⟨F1, C1, hF1⟩ := (HH.out.2.1.known hN HH.out.1.good).far
  obtain ⟨F4, C4, hF4⟩ := paid_far hF1 (.cells #[.int .i64 0, .int .i64 0, .int .i64 0] 64) (q + 6)
  have hE2 := hF1.env.grown ((Keeps.refl _ w1).alloc (.cells #[.int .i64 0, .int .i64 0, .int .i64 0] 64))
  have c1 : (w1.alloc (.cells #[.int .i64 0, .int .i64 0, .int .i64 0] 64)).cell? ⟨s, 26, none⟩ = some (.int .i64 q) := by rw [HT.out.1]; exact hE2.sp.get 10 rfl
  have f1 := hE2.sp.frozen 26
  have c2 : ((w1.alloc (.cells #[.int .i64 0, .int .i64 0, .int .i64 0] 64)).setCell ⟨s, 26, none⟩ (.int .i64 (q + 6))).cell? ⟨s, 18, none⟩ = some (ptr m) := by rw [HT.out.2.1]; exact hF4.env.sp.get 2 rfl
  have c3 : ((w1.alloc (.cells #[.int .i64 0, .int .i64 0, .int .i64 0] 64)).setCell ⟨s, 26, none⟩ (.int .i64 (q + 6))).cell? ⟨s, 19, none⟩ = some (.int .i64 r) := by rw [HT.out.2.2.1]; exact hF4.env.sp.get 3 rfl
  have HC : Hid (∀ W', Keeps (fun _ => False) (((w1.alloc (.cells #[.int .i64 0, .int .i64 0, .int .i64 0] 64)).setCell ⟨s, 26, none⟩ (.int .i64 (q + 6))).drewN 1) W' → Calls Tryz.prog 31 #[ptr m, .int .i64 r, .int .i64 p] W' _) := fun W' hK' => HWk.out m W' (by rw [HT.out.2.1]; exact hF4.env.mn.grown hK')
  have HF : Hid (Far W (((w1.alloc (.cells #[.int .i64 0, .int .i64 0, .int .i64 0] 64)).setCell ⟨s, 26, none⟩ (.int .i64 (q + 6))).drewN 1) s tb cb g n cs { t with cost := q + 6 } xs ls st FT FC F4 C4) := hF4
  have HB : Hid (Blk (((w1.alloc (.cells #[.int .i64 0, .int .i64 0, .int .i64 0] 64)).setCell ⟨s, 26, none⟩ (.int .i64 (q + 6))).drewN 1) w.heap.size lf0.vs 64) :=
    HH.out.2.2.1.kept hF4.kp fun e => by
      obtain ⟨l1, l2, l3, l4⟩ := HH.out.1.lt
      rcases e with e | e | e | e
      · omega
      · omega
      · exact absurd (HH.out.1.tl.lt _ e) (Nat.lt_irrefl _)
      · exact absurd (HH.out.1.ca.lt _ e) (Nat.lt_irrefl _)
  have HkA : Hid (Keeps (fun _ => False) (((w1.alloc (.cells #[.int .i64 0, .int .i64 0, .int .i64 0] 64)).setCell ⟨s, 26, none⟩ (.int .i64 (q + 6))).drewN 1) (((w1.alloc (.cells #[.int .i64 0, .int .i64 0, .int .i64 0] 64)).setCell ⟨s, 26, none⟩ (.int .i64 (q + 6))).alloc (.cells #[.int .i64 0, .int .i64 0, .int .i64 0] 64)).drew) := ((Keeps.refl (fun _ => False) (((w1.alloc (.cells #[.int .i64 0, .int .i64 0, .int .i64 0] 64)).setCell ⟨s, 26, none⟩ (.int .i64 (q + 6))).drewN 1)).alloc (.cells #[.int .i64 0, .int .i64 0, .int .i64 0] 64))
  have HkB : Hid (Keeps (fun _ => False) (((w1.alloc (.cells #[.int .i64 0, .int .i64 0, .int .i64 0] 64)).setCell ⟨s, 26, none⟩ (.int .i64 (q + 6))).drewN 1) ((w1.alloc (.cells #[.int .i64 0, .int .i64 0, .int .i64 0] 64)).setCell ⟨s, 26, none⟩ (.int .i64 (q + 6))).drew) := Keeps.refl (fun _ => False) (((w1.alloc (.cells #[.int .i64 0, .int .i64 0, .int .i64 0] 64)).setCell ⟨s, 26, none⟩ (.int .i64 (q + 6))).drewN 1)
  have HsA : Hid (((w1.alloc (.cells #[.int .i64 0, .int .i64 0, .int .i64 0] 64)).setCell ⟨s, 26, none⟩ (.int .i64 (q + 6))).heap.size = w1.heap.size + 1) := by show _ = _; simp
  have HbA : Hid (Blk (((w1.alloc (.cells #[.int .i64 0, .int .i64 0, .int .i64 0] 64)).setCell ⟨s, 26, none⟩ (.int .i64 (q + 6))).alloc (.cells #[.int .i64 0, .int .i64 0, .int .i64 0] 64)).drew (w1.heap.size + 1) Tl.Lf.none.vs 64) := by
    have := Blk.new ((w1.alloc (.cells #[.int .i64 0, .int .i64 0, .int .i64 0] 64)).setCell ⟨s, 26, none⟩ (.int .i64 (q + 6))) #[.int .i64 0, .int .i64 0, .int .i64 0] 64
    rw [HsA.out] at this
    exact this
  have HLt : Hid (∀ k, F4 k → k < (((w1.alloc (.cells #[.int .i64 0, .int .i64 0, .int .i64 0] 64)).setCell ⟨s, 26, none⟩ (.int .i64 (q + 6))).drewN 1).heap.size) := hF4.env.tl.lt
  have HsN : Hid (¬ s = w1.heap.size + 1) := by have := hF1.env.lt.1; show ¬ s = w1.heap.size + 1; omega
  have HL1 : Hid (w.heap.size < w1.heap.size) := by have := hF1.kp.size; have := HH.out.2.2.1.lt; show w.heap.size < w1.heap.size; omega
  clear hN hF1 hF4 hE2
  go_wp2_with fail
  have hS : ((w1.alloc (.cells #[.int .i64 0, .int .i64 0, .int .i64 0] 64)).setCell ⟨s, 26, none⟩ (.int .i64 (q + 6))).cell? ⟨s, 18, none⟩ = some (ptr m) ∧ ((w1.alloc (.cells #[.int .i64 0, .int .i64 0, .int .i64 0] 64)).setCell ⟨s, 26, none⟩ (.int .i64 (q + 6))).cell? ⟨s, 19, none⟩ = some (.int .i64 r) := ⟨c2, c3⟩
  clear c1 f1
  go_region_held3 (fun w' => w'.cell? ⟨s, 18, none⟩ = some (ptr m) ∧ w'.cell? ⟨s, 19, none⟩ = some (.int .i64 r)) (first | exact hS | exact hS3 | go_keep)
    (first
      | (go_at_call 31; refine (HC.out _ HkB.out).mono ?_; rintro e w5 ⟨rfl, hK5⟩; have hS2 : w5.cell? ⟨s, 18, none⟩ = some (ptr m) ∧ w5.cell? ⟨s, 19, none⟩ = some (.int .i64 r) := ⟨Ch.cell_kept c2 (HkB.out.fromDrewN.trans hK5 fun _ _ h => h) fun h => h, Ch.cell_kept c3 (HkB.out.fromDrewN.trans hK5 fun _ _ h => h) fun h => h⟩; have H5 : Hid (Keeps (fun _ => False) (((w1.alloc (.cells #[.int .i64 0, .int .i64 0, .int .i64 0] 64)).setCell ⟨s, 26, none⟩ (.int .i64 (q + 6))).drewN 1) w5) := HkB.out.trans hK5 fun _ _ h => h; clear hK5 hS c2 c3)
      | (go_at_call 31; refine (HC.out _ HkA.out).mono ?_; rintro e w5 ⟨rfl, hK5⟩; have hS2 : w5.cell? ⟨s, 18, none⟩ = some (ptr m) ∧ w5.cell? ⟨s, 19, none⟩ = some (.int .i64 r) := ⟨Ch.cell_kept c2 (HkA.out.fromDrewN.trans hK5 fun _ _ h => h) fun h => h, Ch.cell_kept c3 (HkA.out.fromDrewN.trans hK5 fun _ _ h => h) fun h => h⟩; have hb5 : Blk w5 (w1.heap.size + 1) Tl.Lf.none.vs 64 := HbA.out.kept hK5 fun h => h; have kz : Keeps (fun k => k = w1.heap.size + 1) w5 (((w5.setCell ⟨w1.heap.size + 1, 0, none⟩ (.int .i64 x.p)).setCell ⟨w1.heap.size + 1, 1, none⟩ (.int .i64 x.f)).setCell ⟨w1.heap.size + 1, 2, none⟩ (.int .i64 x.r)) := (Keeps.refl (fun k => k = w1.heap.size + 1) w5).setLeaf _ x (fun _ => rfl); have hS3 : (((w5.setCell ⟨w1.heap.size + 1, 0, none⟩ (.int .i64 x.p)).setCell ⟨w1.heap.size + 1, 1, none⟩ (.int .i64 x.f)).setCell ⟨w1.heap.size + 1, 2, none⟩ (.int .i64 x.r)).cell? ⟨s, 18, none⟩ = some (ptr m) ∧ (((w5.setCell ⟨w1.heap.size + 1, 0, none⟩ (.int .i64 x.p)).setCell ⟨w1.heap.size + 1, 1, none⟩ (.int .i64 x.f)).setCell ⟨w1.heap.size + 1, 2, none⟩ (.int .i64 x.r)).cell? ⟨s, 19, none⟩ = some (.int .i64 r) := ⟨Ch.cell_kept hS2.1 kz HsN.out, Ch.cell_kept hS2.2 kz HsN.out⟩; have z0 := hb5.cell (i := 0) rfl; have z1 := hb5.cell (i := 1) rfl; have z2 := hb5.cell (i := 2) rfl; have y0 := hb5.frozen 0; have y1 := hb5.frozen 1; have y2 := hb5.frozen 2; have H5 : Hid (Keeps (fun _ => False) (((w1.alloc (.cells #[.int .i64 0, .int .i64 0, .int .i64 0] 64)).setCell ⟨s, 26, none⟩ (.int .i64 (q + 6))).drewN 1) w5 ∧ Blk w5 (w1.heap.size + 1) Tl.Lf.none.vs 64) := ⟨HkA.out.trans hK5 fun _ _ h => h, hb5⟩; clear hK5 hS c2 c3 hb5 kz))
  · have H6 : Hid (Keeps (fun _ => False) (((w1.alloc (.cells #[.int .i64 0, .int .i64 0, .int .i64 0] 64)).setCell ⟨s, 26, none⟩ (.int .i64 (q + 6))).drewN 1) (w5.alloc (.cells #[.int .i64 x.p, .int .i64 x.f, .int .i64 x.r] 64)) ∧ Blk (w5.alloc (.cells #[.int .i64 x.p, .int .i64 x.f, .int .i64 x.r] 64)) w5.heap.size x.vs 64 ∧ w.heap.size < w5.heap.size ∧ (((w1.alloc (.cells #[.int .i64 0, .int .i64 0, .int .i64 0] 64)).setCell ⟨s, 26, none⟩ (.int .i64 (q + 6))).drewN 1).heap.size ≤ w5.heap.size) := by
      have h6 := H5.out.size
      have hb := HB.out.lt
      exact ⟨H5.out.alloc _, Blk.new w5 _ 64, by omega, h6⟩
    obtain ⟨w6, e6⟩ : ∃ w6, w6 = w5.alloc (.cells #[.int .i64 x.p, .int .i64 x.f, .int .i64 x.r] 64) := ⟨_, rfl⟩
    obtain ⟨L, eL⟩ : ∃ L, L = w5.heap.size := ⟨_, rfl⟩
    rw [← e6, ← eL] at H6
    simp only [← e6]
    simp only [← eL]
    clear e6 eL hS2 HC H5
    have hF6 := HF.out.grown H6.out.1
    have hB6 : Blk w6 w.heap.size lf0.vs 64 := HB.out.kept H6.out.1 fun h => h
    have hbL := H6.out.2.1
    have d0 : w6.cell? ⟨s, 17, none⟩ = some (ptr c) := by rw [HT.out.2.2.2]; exact hF6.env.sp.get 1 rfl
    have d1 : w6.cell? ⟨c, 17, none⟩ = some (ptr tb) := by rw [HT.out.2.2.2]; exact hF6.env.core.cell hF6.env.h17
    have d2 := hbL.cell (i := 0) rfl
    have d3 := hbL.cell (i := 1) rfl
    have d4 := hbL.cell (i := 2) rfl
    have hP := Tl.putT_yes tb ls F4 x (w6.drewN 1) (hF6.env.tl.kept ((Keeps.refl (fun _ => False) w6).drewN 1) fun _ _ h => h) HM.out
    replace hP : Hid (Calls Tryz.prog 175 #[ptr tb, x.v] (w6.drewN 1) fun r w' => r = .returned (.int .i64 0) ∧ Tl.NowT (w6.drewN 1) w' tb (Tl.putT x ls) F4) := hP
    have HF6 : Hid (Far W w6 s tb cb g n cs { t with cost := q + 6 } xs ls st FT FC F4 C4 ∧ Blk w6 w.heap.size lf0.vs 64) := ⟨hF6, hB6⟩
    clear hF6 hB6 hbL HF HB
    go_wp2_with fail
    refine Ch.region_tail 8 (by kernel_rfl) ?_
    simp only [List.take_succ_cons, List.take_zero, List.drop_succ_cons, List.drop_zero]
    repeat still_step
    refine wpStill_nil ?_
    go_wp2_with fail
    refine hP.out.mono ?_
    rintro e w8 ⟨rfl, hN⟩
    obtain ⟨F8, C8, hF8⟩ := ((HF6.out.1.grown ((Keeps.refl (fun _ => False) w6).drewN 1)).on ((HF6.out.1.env.grown ((Keeps.refl (fun _ => False) w6).drewN 1)).known hN (putT_good HH.out.1.good HM.out))).far
    have nA : ¬ F4 w.heap.size := fun e => by
      rcases HF6.out.1.a1 _ e with e | e
      · exact absurd (HH.out.1.tl.lt _ e) (Nat.lt_irrefl _)
      · have := HH.out.2.2.1.lt; omega
    have hBA : Blk w8 w.heap.size lf0.vs 64 := (HF6.out.2.drewN 1).kept hN.2 nA
    have HBA : Hid (Blk w8 w.heap.size lf0.vs 64) := hBA
    have hBL : Blk w8 L x.vs 64 := (H6.out.2.1.drewN 1).kept hN.2 fun e => by
      have h1 := HLt.out L e
      have h2 := H6.out.2.2.2
      omega
    have c0 := hBA.cell (i := 0) rfl
    have c1 := hBA.cell (i := 1) rfl
    have c2 := hBA.cell (i := 2) rfl
    have e0 := hBA.frozen 0
    have e1 := hBA.frozen 1
    have e2 := hBA.frozen 2
    have k0 := hBL.cell (i := 0) rfl
    have k1 := hBL.cell (i := 1) rfl
    have k2 := hBL.cell (i := 2) rfl
    have HK2 := (Keeps.refl (fun k => k = w.heap.size) w8).setLeaf w.heap.size x fun _ => rfl
    replace HK2 : Hid (_ ∧ True) := ⟨HK2, trivial⟩
    have HF8 : Hid (Far W w8 s tb cb g n cs { t with cost := q + 6 } xs (Tl.putT x ls) st FT FC F8 C8) := hF8
    clear hBA hBL hF8 hN nA d0 d1 d2 d3 d4 HF6
    go_wp2
    have HL : Hid (_ = _) := load_leafT (HBA.out.setLeaf (l0 := Tl.Lf.none) x)
    refine bodyPost_ret (results_cell_tmp (p := 4) (u := 5) (ty := 64) rfl _ _ ⟨w.heap.size, 0, none⟩ x.v rfl HL.out) rfl ?_
    refine ⟨rfl, ?_⟩
    rw [← HT.out.1]
    exact Moved.beside HH.out.1 (Nat.le_refl _) HH.out.2.2.1.lt rfl rfl HH.out.2.2.2 HF8.out.env HF8.out.a1 HF8.out.a2 HF8.out.kp HK2.out.1
  · have H6 : Hid (Keeps (fun _ => False) (((w1.alloc (.cells #[.int .i64 0, .int .i64 0, .int .i64 0] 64)).setCell ⟨s, 26, none⟩ (.int .i64 (q + 6))).drewN 1) (((w5.setCell ⟨w1.heap.size + 1, 0, none⟩ (.int .i64 x.p)).setCell ⟨w1.heap.size + 1, 1, none⟩ (.int .i64 x.f)).setCell ⟨w1.heap.size + 1, 2, none⟩ (.int .i64 x.r)) ∧ Blk (((w5.setCell ⟨w1.heap.size + 1, 0, none⟩ (.int .i64 x.p)).setCell ⟨w1.heap.size + 1, 1, none⟩ (.int .i64 x.f)).setCell ⟨w1.heap.size + 1, 2, none⟩ (.int .i64 x.r)) (w1.heap.size + 1) x.vs 64 ∧ w.heap.size < w1.heap.size + 1 ∧ (((w1.alloc (.cells #[.int .i64 0, .int .i64 0, .int .i64 0] 64)).setCell ⟨s, 26, none⟩ (.int .i64 (q + 6))).drewN 1).heap.size ≤ w1.heap.size + 1) := by
      have h6 := HsN.out
      have hb := HsA.out
      have hw := HH.out.2.2.1.lt
      refine ⟨H5.out.1.setLeaf _ x fun e => ?_, H5.out.2.setLeaf x, ?_⟩
      · have : ((w1.alloc (.cells #[.int .i64 0, .int .i64 0, .int .i64 0] 64)).setCell ⟨s, 26, none⟩ (.int .i64 (q + 6))).heap.size = w1.heap.size + 1 := hb
        have e' : w1.heap.size + 1 < ((w1.alloc (.cells #[.int .i64 0, .int .i64 0, .int .i64 0] 64)).setCell ⟨s, 26, none⟩ (.int .i64 (q + 6))).heap.size := e
        omega
      · exact ⟨by have := HL1.out; omega, by show ((w1.alloc (.cells #[.int .i64 0, .int .i64 0, .int .i64 0] 64)).setCell ⟨s, 26, none⟩ (.int .i64 (q + 6))).heap.size ≤ _; omega⟩
    obtain ⟨w6, e6⟩ : ∃ w6, w6 = ((w5.setCell ⟨w1.heap.size + 1, 0, none⟩ (.int .i64 x.p)).setCell ⟨w1.heap.size + 1, 1, none⟩ (.int .i64 x.f)).setCell ⟨w1.heap.size + 1, 2, none⟩ (.int .i64 x.r) := ⟨_, rfl⟩
    obtain ⟨L, eL⟩ : ∃ L, L = w1.heap.size + 1 := ⟨_, rfl⟩
    rw [← e6, ← eL] at H6
    simp only [← e6]
    simp only [← eL]
    clear e6 eL hS2 hS3 HC H5 z0 z1 z2 y0 y1 y2
    have hF6 := HF.out.grown H6.out.1
    have hB6 : Blk w6 w.heap.size lf0.vs 64 := HB.out.kept H6.out.1 fun h => h
    have hbL := H6.out.2.1
    have d0 : w6.cell? ⟨s, 17, none⟩ = some (ptr c) := by rw [HT.out.2.2.2]; exact hF6.env.sp.get 1 rfl
    have d1 : w6.cell? ⟨c, 17, none⟩ = some (ptr tb) := by rw [HT.out.2.2.2]; exact hF6.env.core.cell hF6.env.h17
    have d2 := hbL.cell (i := 0) rfl
    have d3 := hbL.cell (i := 1) rfl
    have d4 := hbL.cell (i := 2) rfl
    have hP := Tl.putT_yes tb ls F4 x (w6.drewN 1) (hF6.env.tl.kept ((Keeps.refl (fun _ => False) w6).drewN 1) fun _ _ h => h) HM.out
    replace hP : Hid (Calls Tryz.prog 175 #[ptr tb, x.v] (w6.drewN 1) fun r w' => r = .returned (.int .i64 0) ∧ Tl.NowT (w6.drewN 1) w' tb (Tl.putT x ls) F4) := hP
    have HF6 : Hid (Far W w6 s tb cb g n cs { t with cost := q + 6 } xs ls st FT FC F4 C4 ∧ Blk w6 w.heap.size lf0.vs 64) := ⟨hF6, hB6⟩
    clear hF6 hB6 hbL HF HB
    go_wp2_with fail
    refine Ch.region_tail 8 (by kernel_rfl) ?_
    simp only [List.take_succ_cons, List.take_zero, List.drop_succ_cons, List.drop_zero]
    repeat still_step
    refine wpStill_nil ?_
    go_wp2_with fail
    refine hP.out.mono ?_
    rintro e w8 ⟨rfl, hN⟩
    obtain ⟨F8, C8, hF8⟩ := ((HF6.out.1.grown ((Keeps.refl (fun _ => False) w6).drewN 1)).on ((HF6.out.1.env.grown ((Keeps.refl (fun _ => False) w6).drewN 1)).known hN (putT_good HH.out.1.good HM.out))).far
    have nA : ¬ F4 w.heap.size := fun e => by
      rcases HF6.out.1.a1 _ e with e | e
      · exact absurd (HH.out.1.tl.lt _ e) (Nat.lt_irrefl _)
      · have := HH.out.2.2.1.lt; omega
    have hBA : Blk w8 w.heap.size lf0.vs 64 := (HF6.out.2.drewN 1).kept hN.2 nA
    have HBA : Hid (Blk w8 w.heap.size lf0.vs 64) := hBA
    have hBL : Blk w8 L x.vs 64 := (H6.out.2.1.drewN 1).kept hN.2 fun e => by
      have h1 := HLt.out L e
      have h2 := H6.out.2.2.2
      omega
    have c0 := hBA.cell (i := 0) rfl
    have c1 := hBA.cell (i := 1) rfl
    have c2 := hBA.cell (i := 2) rfl
    have e0 := hBA.frozen 0
    have e1 := hBA.frozen 1
    have e2 := hBA.frozen 2
    have k0 := hBL.cell (i := 0) rfl
    have k1 := hBL.cell (i := 1) rfl
    have k2 := hBL.cell (i := 2) rfl
    have HK2 := (Keeps.refl (fun k => k = w.heap.size) w8).setLeaf w.heap.size x fun _ => rfl
    replace HK2 : Hid (_ ∧ True) := ⟨HK2, trivial⟩
    have HF8 : Hid (Far W w8 s tb cb g n cs { t with cost := q + 6 } xs (Tl.putT x ls) st FT FC F8 C8) := hF8
    clear hBA hBL hF8 hN nA d0 d1 d2 d3 d4 HF6
    go_wp2
    have HL : Hid (_ = _) := load_leafT (HBA.out.setLeaf (l0 := Tl.Lf.none) x)
    refine bodyPost_ret (results_cell_tmp (p := 4) (u := 5) (ty := 64) rfl _ _ ⟨w.heap.size, 0, none⟩ x.v rfl HL.out) rfl ?_
    refine ⟨rfl, ?_⟩
    rw [← HT.out.1]
    exact Moved.beside HH.out.1 (Nat.le_refl _) HH.out.2.2.1.lt rfl rfl HH.out.2.2.2 HF8.out.env HF8.out.a1 HF8.out.a2 HF8.out.kp HK2.out.1
end Go.Proofs.YtipejahmjdamjaaGreatDoor
