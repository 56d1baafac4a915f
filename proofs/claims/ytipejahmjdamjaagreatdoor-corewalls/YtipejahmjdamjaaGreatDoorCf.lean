import Derived.Test.YtipejahmjdamjaaGreatDoorCe
namespace Go.Proofs.YtipejahmjdamjaaGreatDoor
open Go.RowKit Go.Shelf
set_option linter.unusedVariables false
set_option maxRecDepth 6000

theorem Env.aside {S : Nat → Prop} {w w' : World} {s tb cb g n : Nat} {cs : List Value} {t : Sp} {xs : List UInt32} {ls : List Tl.Lf} {st : Nat → List Int} {FT FC : Nat → Prop} (h : Env w s tb cb g n cs t xs ls st FT FC) (hK : Keeps S w w')
    (hs : ¬ S s) (hc : ¬ S t.c) (hm : ¬ S t.m) (hg : ¬ S g) (hT : ∀ k, FT k → ¬ S k) (hC : ∀ k, FC k → ¬ S k) : Env w' s tb cb g n cs t xs ls st FT FC :=
  { h with sp := h.sp.kept hK hs, core := h.core.kept hK hc, mn := h.mn.kept hK hm hg, tl := h.tl.kept hK hT, ca := h.ca.kept hK hC }

/-- A block that came behind the first world is written over: nothing of it is changed. -/
theorem Moved.beside {w W w1 wf : World} {s tb cb g n : Nat} {cs : List Value} {FT FC F1 F2 : Nat → Prop} {t t' : Sp} {xs xs' : List UInt32} {ls ls' : List Tl.Lf} {st st' : Nat → List Int} {A : Nat}
    (h0 : Env w s tb cb g n cs t xs ls st FT FC) (hA : w.heap.size ≤ A) (hAW : A < W.heap.size) (hc : t'.c = t.c) (hm : t'.m = t.m) (hW : Keeps (fun _ => False) w W)
    (h1 : Env w1 s tb cb g n cs t' xs' ls' st' F1 F2) (a1 : ∀ k, F1 k → FT k ∨ W.heap.size ≤ k) (a2 : ∀ k, F2 k → FC k ∨ W.heap.size ≤ k) (a3 : Keeps (fun k => k = s ∨ k = g ∨ FT k ∨ FC k) W w1)
    (hK : Keeps (fun k => k = A) w1 wf) : Moved w wf s tb cb g n cs FT FC t' xs' ls' st' := by
  obtain ⟨l1, l2, l3, l4⟩ := h0.lt
  have hTlt := h0.tl.lt
  have hClt := h0.ca.lt
  have hs := hW.size
  refine ⟨F1, F2, h1.aside hK (by omega) (by rw [hc]; omega) (by rw [hm]; omega) (by omega) (fun k hk e => ?_) (fun k hk e => ?_), fun k hk => ?_, fun k hk => ?_, ?_⟩
  · rcases a1 k hk with e2 | e2
    · have := hTlt k e2; omega
    · omega
  · rcases a2 k hk with e2 | e2
    · have := hClt k e2; omega
    · omega
  · rcases a1 k hk with e2 | e2
    · exact .inl e2
    · exact .inr (by omega)
  · rcases a2 k hk with e2 | e2
    · exact .inl e2
    · exact .inr (by omega)
  · refine ((hW.mono fun _ _ h => h.elim).trans a3 fun _ _ h => h).trans hK fun k hk e => ?_
    omega

theorem load_leafT {w : World} {b : Nat} {l : Tl.Lf} (h : Blk w b l.vs 64) : (loadVar 64 ⟨b, 0, none⟩).run Tryz.prog w = .ok l.v w := Tl.load_leaf h

theorem keeps_leaf (w1 : World) (A : Nat) (o : Obj) (x : Tl.Lf) : Keeps (fun k => k = A) w1 ((((w1.alloc o).setCell ⟨A, 0, none⟩ (.int .i64 x.p)).setCell ⟨A, 1, none⟩ (.int .i64 x.f)).setCell ⟨A, 2, none⟩ (.int .i64 x.r)) :=
  ((Keeps.refl (fun k => k = A) w1).alloc o).setLeaf A x fun _ => rfl

set_option maxHeartbeats 2000000 in
theorem leaf_known (s tb cb g n p : Nat) (cs : List Value) (t : Sp) (xs : List UInt32) (ls : List Tl.Lf) (st : Nat → List Int) (FT FC : Nat → Prop) (w : World) (h : Env w s tb cb g n cs t xs ls st FT FC) (hp : p < 256) (x : Tl.Lf) (hx : Tl.findT p ls = some x) :
    Calls Tryz.prog 126 #[ptr s, .int .i64 p] w fun e w' => e = .returned (.tuple #[x.v, .bool true]) ∧ Moved w w' s tb cb g n cs FT FC t xs (Tl.touchT p ls) st := by
  obtain ⟨W, hW⟩ : ∃ W, W = w.alloc (.cells #[.int .i64 0, .int .i64 0, .int .i64 0] 64) := ⟨_, rfl⟩
  have hB : Blk W w.heap.size lf0.vs 64 := by rw [hW]; exact Blk.new w _ 64
  have hK : Keeps (fun _ => False) w W := by rw [hW]; exact (Keeps.refl _ w).alloc _
  have hE := h.grown hK
  have c1 : W.cell? ⟨s, 17, none⟩ = some (ptr t.c) := hE.sp.get 1 rfl
  have c2 : W.cell? ⟨t.c, 17, none⟩ = some (ptr tb) := hE.core.cell h.h17
  have H1 := Tl.findT_any tb ls FT p W hE.tl ⟨by omega, by omega⟩
  rw [hx] at H1
  replace H1 : Hid (Calls Tryz.prog 174 #[ptr tb, .int .i64 p] W fun r w' => r = .returned (.tuple #[x.v, .bool true]) ∧ Tl.NowT W w' tb (Tl.touchT p ls) FT) := H1
  have HE : Hid (W = w.alloc (.cells #[.int .i64 0, .int .i64 0, .int .i64 0] 64)) := hW
  have HH : Hid (Env w s tb cb g n cs t xs ls st FT FC ∧ Env W s tb cb g n cs t xs ls st FT FC ∧ Blk W w.heap.size lf0.vs 64 ∧ Keeps (fun _ => False) w W) := ⟨h, hE, hB, hK⟩
  obtain ⟨c, ec⟩ : ∃ c, c = t.c := ⟨_, rfl⟩
  rw [← ec, hW] at c1 c2
  clear h hE hB hK hW hx ec
  go_enter Tryz.func126, Tryz.ntmps126
  go_wp2_with fail
  rw [← HE.out]
  refine H1.out.mono ?_
  rintro e w1 ⟨rfl, hN⟩
  clear c1 c2
  have HN : Hid (Tl.NowT W w1 tb (Tl.touchT p ls) FT) := hN
  have hB1 : Blk w1 w.heap.size lf0.vs 64 := HH.out.2.2.1.kept hN.2 fun e => absurd (HH.out.1.tl.lt _ e) (Nat.lt_irrefl _)
  have hB2 : Blk (w1.alloc (.cells #[.int .i64 x.p, .int .i64 x.f, .int .i64 x.r] 64)) w.heap.size lf0.vs 64 := hB1.alloc _
  have c0 := hB2.cell (i := 0) rfl
  have c1 := hB2.cell (i := 1) rfl
  have c2 := hB2.cell (i := 2) rfl
  have f0 := hB2.frozen 0
  have f1 := hB2.frozen 1
  have f2 := hB2.frozen 2
  have HB2 : Hid (Blk (w1.alloc (.cells #[.int .i64 x.p, .int .i64 x.f, .int .i64 x.r] 64)) w.heap.size lf0.vs 64) := hB2
  have HK2 : Hid (Keeps (fun k => k = w.heap.size) w1 (((((w1.alloc (.cells #[.int .i64 x.p, .int .i64 x.f, .int .i64 x.r] 64)).setCell ⟨w.heap.size, 0, none⟩ (.int .i64 x.p)).setCell ⟨w.heap.size, 1, none⟩ (.int .i64 x.f)).setCell ⟨w.heap.size, 2, none⟩ (.int .i64 x.r)))) :=
    keeps_leaf w1 _ _ x
  clear hB1 hB2 hN
  go_wp2
  have HL : Hid (_ = _) := load_leafT (HB2.out.setLeaf (l0 := Tl.Lf.none) x)
  refine bodyPost_ret (results_cell_tmp (p := 4) (u := 5) (ty := 64) rfl _ _ ⟨w.heap.size, 0, none⟩ x.v rfl HL.out) rfl ?_
  refine ⟨rfl, ?_⟩
  obtain ⟨F1, C1, e1, a1, a2, a3⟩ := HH.out.2.1.known HN.out (touchT_good HH.out.1.good)
  exact Moved.beside HH.out.1 (Nat.le_refl _) HH.out.2.2.1.lt rfl rfl HH.out.2.2.2 e1 a1 a2 a3 HK2.out

end Go.Proofs.YtipejahmjdamjaaGreatDoor
