import Derived.Test.YtipejahmjdamjaaGreatDoorCq
namespace Go.Proofs.YtipejahmjdamjaaGreatDoor
open Go.RowKit Go.Shelf
set_option linter.unusedVariables false
set_option maxRecDepth 6000

/-- The leaf that the tables tell, as the TLB holds it. -/
def toT (l : Lf) : Tl.Lf := ⟨l.page, l.frame, l.rights⟩

/-- All that an instruction under way works on: its own block s, the core's block with its TLB tb and its cache cb, the memory. -/
structure Env (w : World) (s tb cb g n : Nat) (cs : List Value) (t : Sp) (xs : List UInt32) (ls : List Tl.Lf) (st : Nat → List Int) (FT FC : Nat → Prop) : Prop where
  sp : SpAt w s t
  core : Blk w t.c cs 91
  h17 : cs[17]? = some (ptr tb)
  h18 : cs[18]? = some (ptr cb)
  mn : Mn w t.m g n xs
  tl : Tl.Tl w tb ls FT
  ca : Ch.Ca w cb st FC
  sc : s ≠ t.c
  sm : s ≠ t.m
  sg : s ≠ g
  cm : t.c ≠ t.m
  cg : t.c ≠ g
  ft : ∀ k, FT k → k ≠ s ∧ k ≠ t.c ∧ k ≠ t.m ∧ k ≠ g ∧ ¬ FC k
  fc : ∀ k, FC k → k ≠ s ∧ k ≠ t.c ∧ k ≠ t.m ∧ k ≠ g
  good : ∀ l ∈ ls, Tl.mayB l = true

/-- What a piece of an instruction leaves. -/
def Moved (w w' : World) (s tb cb g n : Nat) (cs : List Value) (FT FC : Nat → Prop) (t : Sp) (xs : List UInt32) (ls : List Tl.Lf) (st : Nat → List Int) : Prop :=
  ∃ FT' FC', Env w' s tb cb g n cs t xs ls st FT' FC' ∧ (∀ k, FT' k → FT k ∨ w.heap.size ≤ k) ∧ (∀ k, FC' k → FC k ∨ w.heap.size ≤ k) ∧ Keeps (fun k => k = s ∨ k = g ∨ FT k ∨ FC k) w w'

theorem Moved.trans {w w1 w2 : World} {s tb cb g n : Nat} {cs : List Value} {FT FC F1 F2 : Nat → Prop} {t2 : Sp} {xs2 : List UInt32} {ls2 : List Tl.Lf} {st2 : Nat → List Int}
    (h1 : (∀ k, F1 k → FT k ∨ w.heap.size ≤ k) ∧ (∀ k, F2 k → FC k ∨ w.heap.size ≤ k) ∧ Keeps (fun k => k = s ∨ k = g ∨ FT k ∨ FC k) w w1)
    (h2 : Moved w1 w2 s tb cb g n cs F1 F2 t2 xs2 ls2 st2) : Moved w w2 s tb cb g n cs FT FC t2 xs2 ls2 st2 := by
  obtain ⟨a1, a2, a3⟩ := h1
  obtain ⟨G1, G2, e, b1, b2, b3⟩ := h2
  have hs := a3.size
  refine ⟨G1, G2, e, fun k hk => ?_, fun k hk => ?_, a3.trans b3 fun k hk h => ?_⟩
  · rcases b1 k hk with h | h
    · exact a1 k h
    · exact .inr (by omega)
  · rcases b2 k hk with h | h
    · exact a2 k h
    · exact .inr (by omega)
  · rcases h with h | h | h | h
    · exact .inl h
    · exact .inr (.inl h)
    · rcases a1 k h with h | h
      · exact .inr (.inr (.inl h))
      · omega
    · rcases a2 k h with h | h
      · exact .inr (.inr (.inr h))
      · omega

theorem Env.grown {w w' : World} {s tb cb g n : Nat} {cs : List Value} {t : Sp} {xs : List UInt32} {ls : List Tl.Lf} {st : Nat → List Int} {FT FC : Nat → Prop} (h : Env w s tb cb g n cs t xs ls st FT FC) (hK : Keeps (fun _ => False) w w') :
    Env w' s tb cb g n cs t xs ls st FT FC :=
  { h with sp := h.sp.kept hK fun h => h, core := h.core.kept hK fun h => h, mn := h.mn.grown hK, tl := h.tl.kept hK fun _ _ h => h, ca := h.ca.kept hK fun _ _ h => h }

theorem Env.grow {w w' : World} {s tb cb g n : Nat} {cs : List Value} {t : Sp} {xs : List UInt32} {ls : List Tl.Lf} {st : Nat → List Int} {FT FC : Nat → Prop} (h : Env w s tb cb g n cs t xs ls st FT FC) (hK : Keeps (fun _ => False) w w') :
    Moved w w' s tb cb g n cs FT FC t xs ls st :=
  ⟨FT, FC, h.grown hK, fun _ h => .inl h, fun _ h => .inl h, hK.mono fun _ _ h => h.elim⟩

theorem Env.turned {w w' : World} {s tb cb g n : Nat} {cs : List Value} {t t' : Sp} {xs : List UInt32} {ls : List Tl.Lf} {st : Nat → List Int} {FT FC : Nat → Prop} (h : Env w s tb cb g n cs t xs ls st FT FC) (hS : SpAt w' s t') (hK : Keeps (· = s) w w')
    (hc : t'.c = t.c) (hm : t'.m = t.m) : Moved w w' s tb cb g n cs FT FC t' xs ls st := by
  refine ⟨FT, FC, { sp := hS, core := ?_, h17 := h.h17, h18 := h.h18, mn := ?_, tl := h.tl.kept hK fun k hk => (h.ft k hk).1, ca := h.ca.kept hK fun k hk => (h.fc k hk).1, sc := ?_, sm := ?_, sg := h.sg, cm := ?_, cg := ?_, ft := ?_, fc := ?_, good := h.good }, fun _ h => .inl h, fun _ h => .inl h, hK.mono fun _ _ h => .inl h⟩
  · rw [hc]; exact h.core.kept hK fun e => h.sc e.symm
  · rw [hm]; exact h.mn.kept hK (fun e => h.sm e.symm) fun e => h.sg e.symm
  · rw [hc]; exact h.sc
  · rw [hm]; exact h.sm
  · rw [hc, hm]; exact h.cm
  · rw [hc]; exact h.cg
  · rw [hc, hm]; exact h.ft
  · rw [hc, hm]; exact h.fc

theorem Env.lt {w : World} {s tb cb g n : Nat} {cs : List Value} {t : Sp} {xs : List UInt32} {ls : List Tl.Lf} {st : Nat → List Int} {FT FC : Nat → Prop} (h : Env w s tb cb g n cs t xs ls st FT FC) :
    s < w.heap.size ∧ t.c < w.heap.size ∧ t.m < w.heap.size ∧ g < w.heap.size := ⟨h.sp.blk.lt, h.core.lt, h.mn.mm.blk.lt, h.mn.mm.row.lt⟩

theorem Env.known {w w' : World} {s tb cb g n : Nat} {cs : List Value} {t : Sp} {xs : List UInt32} {ls ls' : List Tl.Lf} {st : Nat → List Int} {FT FC : Nat → Prop} (h : Env w s tb cb g n cs t xs ls st FT FC) (hN : Tl.NowT w w' tb ls' FT)
    (hg : ∀ l ∈ ls', Tl.mayB l = true) : Moved w w' s tb cb g n cs FT FC t xs ls' st := by
  obtain ⟨⟨F', h1, h2⟩, hK⟩ := hN
  obtain ⟨l1, l2, l3, l4⟩ := h.lt
  refine ⟨F', FC, { h with sp := h.sp.kept hK fun e => (h.ft _ e).1 rfl, core := h.core.kept hK fun e => (h.ft _ e).2.1 rfl, mn := h.mn.kept hK (fun e => (h.ft _ e).2.2.1 rfl) (fun e => (h.ft _ e).2.2.2.1 rfl), tl := h1, ca := h.ca.kept hK fun k hk e => (h.ft _ e).2.2.2.2 hk, ft := ?_, good := hg }, h2, fun _ h => .inl h, hK.mono fun _ _ h => .inr (.inr (.inl h))⟩
  intro k hk
  rcases h2 k hk with e | e
  · exact h.ft k e
  · have := h.ca.lt k
    exact ⟨by omega, by omega, by omega, by omega, fun e => by have := this e; omega⟩

theorem Env.touched {w w' : World} {s tb cb g n : Nat} {cs : List Value} {t : Sp} {xs : List UInt32} {ls : List Tl.Lf} {st st' : Nat → List Int} {FT FC : Nat → Prop} (h : Env w s tb cb g n cs t xs ls st FT FC) (hN : Ch.NowC w w' cb st' FC) :
    Moved w w' s tb cb g n cs FT FC t xs ls st' := by
  obtain ⟨⟨F', h1, h2⟩, hK⟩ := hN
  obtain ⟨l1, l2, l3, l4⟩ := h.lt
  refine ⟨FT, F', { h with sp := h.sp.kept hK fun e => (h.fc _ e).1 rfl, core := h.core.kept hK fun e => (h.fc _ e).2.1 rfl, mn := h.mn.kept hK (fun e => (h.fc _ e).2.2.1 rfl) (fun e => (h.fc _ e).2.2.2 rfl), tl := h.tl.kept hK fun k hk e => (h.ft _ hk).2.2.2.2 e, ca := h1, ft := ?_, fc := ?_ }, fun _ h => .inl h, h2, hK.mono fun _ _ h => .inr (.inr (.inr h))⟩
  · intro k hk
    have a := h.ft k hk
    refine ⟨a.1, a.2.1, a.2.2.1, a.2.2.2.1, fun e => ?_⟩
    rcases h2 k e with e | e
    · exact a.2.2.2.2 e
    · have := h.tl.lt k hk; omega
  · intro k hk
    rcases h2 k hk with e | e
    · exact h.fc k e
    · exact ⟨by omega, by omega, by omega, by omega⟩

theorem Env.written {w w' : World} {s tb cb g n : Nat} {cs : List Value} {t : Sp} {xs xs' : List UInt32} {ls : List Tl.Lf} {st : Nat → List Int} {FT FC : Nat → Prop} (h : Env w s tb cb g n cs t xs ls st FT FC) (hM : Mm w' t.m g xs') (hl : xs'.length = xs.length)
    (hK : Keeps (· = g) w w') : Moved w w' s tb cb g n cs FT FC t xs' ls st :=
  ⟨FT, FC, { h with sp := h.sp.kept hK h.sg, core := h.core.kept hK h.cg, mn := ⟨hM, by rw [hl]; exact h.mn.len⟩, tl := h.tl.kept hK fun k hk => (h.ft k hk).2.2.2.1, ca := h.ca.kept hK fun k hk => (h.fc k hk).2.2.2 }, fun _ h => .inl h, fun _ h => .inl h, hK.mono fun _ _ h => .inr (.inl h)⟩

/-! ## To translate -/
def trL (n : Nat) (xs : List UInt32) (root : Nat) (ls : List Tl.Lf) (p : Nat) : Option Tl.Lf :=
  match Tl.findT p ls with
  | some l => some l
  | none => if walkE n xs root p = 0 then some (toT (walkL n xs root p)) else none
def trS (n : Nat) (xs : List UInt32) (root : Nat) (ls : List Tl.Lf) (p : Nat) : List Tl.Lf :=
  match Tl.findT p ls with
  | some _ => Tl.touchT p ls
  | none => if walkE n xs root p = 0 then Tl.putT (toT (walkL n xs root p)) ls else ls
def trC (ls : List Tl.Lf) (p : Nat) : Int := if (Tl.findT p ls).isSome then 0 else 6

theorem toT_may (n : Nat) (xs : List UInt32) (root : Nat) (p : Nat) (h : walkE n xs root p = 0) : Tl.mayB (toT (walkL n xs root p)) = true := by
  have h1 := walkL_frame n xs root p
  have h2 := walkL_rights n xs root p
  have h3 : (walkL n xs root p).page = p ∧ p < 256 := by
    refine ⟨by rw [walkL, if_pos h]; rfl, ?_⟩
    by_cases hp : (0 : Int) ≤ p ∧ (p : Int) < 256
    · omega
    · unfold walkE at h
      split at h
      · omega
      · omega
  simp [Tl.mayB, Tl.inB, toT, h3.1]
  omega

theorem touchT_good {p : Int} {ls : List Tl.Lf} (h : ∀ l ∈ ls, Tl.mayB l = true) : ∀ l ∈ Tl.touchT p ls, Tl.mayB l = true := by
  intro l hl
  unfold Tl.touchT at hl
  split at hl
  · rename_i x hx
    rcases List.mem_append.1 hl with e | e
    · exact h l (List.mem_filter.1 e).1
    · rw [List.mem_singleton.1 e]; exact h x (List.mem_of_find?_eq_some hx)
  · exact h l hl

theorem putT_good {x : Tl.Lf} {ls : List Tl.Lf} (h : ∀ l ∈ ls, Tl.mayB l = true) (hx : Tl.mayB x = true) : ∀ l ∈ Tl.putT x ls, Tl.mayB l = true := by
  have h0 : ∀ l ∈ Tl.wo x.p ls ++ [x], Tl.mayB l = true := fun l hl => by
    rcases List.mem_append.1 hl with e | e
    · exact h l (List.mem_filter.1 e).1
    · rw [List.mem_singleton.1 e]; exact hx
  intro l hl
  unfold Tl.putT at hl
  split at hl
  · exact h0 l (List.mem_of_mem_tail hl)
  · exact h0 l hl

theorem trL_good {n : Nat} {xs : List UInt32} {root : Nat} {ls : List Tl.Lf} {p : Nat} (h : ∀ l ∈ ls, Tl.mayB l = true) {x : Tl.Lf} (hx : trL n xs root ls p = some x) : Tl.mayB x = true := by
  unfold trL at hx
  split at hx
  · rename_i y hy
    obtain rfl := Option.some.inj hx
    exact h _ (List.mem_of_find?_eq_some hy)
  · split at hx
    · rename_i hw; cases hx; exact toT_may n xs root p hw
    · cases hx

end Go.Proofs.YtipejahmjdamjaaGreatDoor
namespace Go.Proofs.YtipejahmjdamjaaGreatDoor
open Go.RowKit Go.Shelf
set_option linter.unusedVariables false
set_option maxRecDepth 6000

theorem Env.aside {S : Nat → Prop} {w w' : World} {s tb cb g n : Nat} {cs : List Value} {t : Sp} {xs : List UInt32} {ls : List Tl.Lf} {st : Nat → List Int} {FT FC : Nat → Prop} (h : Env w s tb cb g n cs t xs ls st FT FC) (hK : Keeps S w w')
    (hs : ¬ S s) (hc : ¬ S t.c) (hm : ¬ S t.m) (hg : ¬ S g) (hT : ∀ k, FT k → ¬ S k) (hC : ∀ k, FC k → ¬ S k) : Env w' s tb cb g n cs t xs ls st FT FC :=
  { h with sp := h.sp.kept hK hs, core := h.core.kept hK hc, mn := h.mn.kept hK hm hg, tl := h.tl.kept hK hT, ca := h.ca.kept hK hC }

/-- A block that came behind the first world is written over: nothing of it is changed. -/
theorem Moved.beside {w W w1 wf : World} {s tb cb g n : Nat} {cs : List Value} {FT FC F1 F2 : Nat → Prop} {t t' : Sp} {xs xs' : List UInt32} {ls ls' : List Tl.Lf} {st st' : Nat → List Int} {A : Nat}
    (h0 : Env w s tb cb g n cs t xs ls st FT FC) (hA : w.heap.size ≤ A) (hAW : A < W.heap.size) (hc : t'.c = t.c) (hm : t'.m = t.m) (hW : Keeps (fun _ => False) w W)
    (h1 : Env w1 s tb cb g n cs t' xs' ls' st' F1 F2) (a1 : ∀ k, F1 k → FT k ∨ W.heap.size ≤ k) (a2 : ∀ k, F2 k → FC k ∨ W.heap.size ≤ k) (a3 : Keeps (fun k => k = s ∨ k = g ∨ FT k ∨ FC k) W w1)
    (hK : Keeps (fun k => k = A) w1 wf) : Moved w wf s tb cb g n cs FT FC t' xs' ls' st' := by
  obtain ⟨l1, l2, l3, l4⟩ := h0.lt
  have hTlt := h0.tl.lt
  have hClt := h0.ca.lt
  have hs := hW.size
  refine ⟨F1, F2, h1.aside hK (by omega) (by rw [hc]; omega) (by rw [hm]; omega) (by omega) (fun k hk e => ?_) (fun k hk e => ?_), fun k hk => ?_, fun k hk => ?_, ?_⟩
  · rcases a1 k hk with e2 | e2
    · have := hTlt k e2; omega
    · omega
  · rcases a2 k hk with e2 | e2
    · have := hClt k e2; omega
    · omega
  · rcases a1 k hk with e2 | e2
    · exact .inl e2
    · exact .inr (by omega)
  · rcases a2 k hk with e2 | e2
    · exact .inl e2
    · exact .inr (by omega)
  · refine ((hW.mono fun _ _ h => h.elim).trans a3 fun _ _ h => h).trans hK fun k hk e => ?_
    omega

theorem load_leafT {w : World} {b : Nat} {l : Tl.Lf} (h : Blk w b l.vs 64) : (loadVar 64 ⟨b, 0, none⟩).run Tryz.prog w = .ok l.v w := Tl.load_leaf h

theorem keeps_leaf (w1 : World) (A : Nat) (o : Obj) (x : Tl.Lf) : Keeps (fun k => k = A) w1 ((((w1.alloc o).setCell ⟨A, 0, none⟩ (.int .i64 x.p)).setCell ⟨A, 1, none⟩ (.int .i64 x.f)).setCell ⟨A, 2, none⟩ (.int .i64 x.r)) :=
  ((Keeps.refl (fun k => k = A) w1).alloc o).setLeaf A x fun _ => rfl

set_option maxHeartbeats 2000000 in
theorem leaf_known (s tb cb g n p : Nat) (cs : List Value) (t : Sp) (xs : List UInt32) (ls : List Tl.Lf) (st : Nat → List Int) (FT FC : Nat → Prop) (w : World) (h : Env w s tb cb g n cs t xs ls st FT FC) (hp : p < 256) (x : Tl.Lf) (hx : Tl.findT p ls = some x) :
    Calls Tryz.prog 126 #[ptr s, .int .i64 p] w fun e w' => e = .returned (.tuple #[x.v, .bool true]) ∧ Moved w w' s tb cb g n cs FT FC t xs (Tl.touchT p ls) st := by
  obtain ⟨W, hW⟩ : ∃ W, W = w.alloc (.cells #[.int .i64 0, .int .i64 0, .int .i64 0] 64) := ⟨_, rfl⟩
  have hB : Blk W w.heap.size lf0.vs 64 := by rw [hW]; exact Blk.new w _ 64
  have hK : Keeps (fun _ => False) w W := by rw [hW]; exact (Keeps.refl _ w).alloc _
  have hE := h.grown hK
  have c1 : W.cell? ⟨s, 17, none⟩ = some (ptr t.c) := hE.sp.get 1 rfl
  have c2 : W.cell? ⟨t.c, 17, none⟩ = some (ptr tb) := hE.core.cell h.h17
  have H1 := Tl.findT_any tb ls FT p W hE.tl ⟨by omega, by omega⟩
  rw [hx] at H1
  replace H1 : Hid (Calls Tryz.prog 174 #[ptr tb, .int .i64 p] W fun r w' => r = .returned (.tuple #[x.v, .bool true]) ∧ Tl.NowT W w' tb (Tl.touchT p ls) FT) := H1
  have HE : Hid (W = w.alloc (.cells #[.int .i64 0, .int .i64 0, .int .i64 0] 64)) := hW
  have HH : Hid (Env w s tb cb g n cs t xs ls st FT FC ∧ Env W s tb cb g n cs t xs ls st FT FC ∧ Blk W w.heap.size lf0.vs 64 ∧ Keeps (fun _ => False) w W) := ⟨h, hE, hB, hK⟩
  obtain ⟨c, ec⟩ : ∃ c, c = t.c := ⟨_, rfl⟩
  rw [← ec, hW] at c1 c2
  clear h hE hB hK hW hx ec
  go_enter Tryz.func126, Tryz.ntmps126
  go_wp2_with fail
  rw [← HE.out]
  refine H1.out.mono ?_
  rintro e w1 ⟨rfl, hN⟩
  clear c1 c2
  have HN : Hid (Tl.NowT W w1 tb (Tl.touchT p ls) FT) := hN
  have hB1 : Blk w1 w.heap.size lf0.vs 64 := HH.out.2.2.1.kept hN.2 fun e => absurd (HH.out.1.tl.lt _ e) (Nat.lt_irrefl _)
  have hB2 : Blk (w1.alloc (.cells #[.int .i64 x.p, .int .i64 x.f, .int .i64 x.r] 64)) w.heap.size lf0.vs 64 := hB1.alloc _
  have c0 := hB2.cell (i := 0) rfl
  have c1 := hB2.cell (i := 1) rfl
  have c2 := hB2.cell (i := 2) rfl
  have f0 := hB2.frozen 0
  have f1 := hB2.frozen 1
  have f2 := hB2.frozen 2
  have HB2 : Hid (Blk (w1.alloc (.cells #[.int .i64 x.p, .int .i64 x.f, .int .i64 x.r] 64)) w.heap.size lf0.vs 64) := hB2
  have HK2 : Hid (Keeps (fun k => k = w.heap.size) w1 (((((w1.alloc (.cells #[.int .i64 x.p, .int .i64 x.f, .int .i64 x.r] 64)).setCell ⟨w.heap.size, 0, none⟩ (.int .i64 x.p)).setCell ⟨w.heap.size, 1, none⟩ (.int .i64 x.f)).setCell ⟨w.heap.size, 2, none⟩ (.int .i64 x.r)))) :=
    keeps_leaf w1 _ _ x
  clear hB1 hB2 hN
  go_wp2
  have HL : Hid (_ = _) := load_leafT (HB2.out.setLeaf (l0 := Tl.Lf.none) x)
  refine bodyPost_ret (results_cell_tmp (p := 4) (u := 5) (ty := 64) rfl _ _ ⟨w.heap.size, 0, none⟩ x.v rfl HL.out) rfl ?_
  refine ⟨rfl, ?_⟩
  obtain ⟨F1, C1, e1, a1, a2, a3⟩ := HH.out.2.1.known HN.out (touchT_good HH.out.1.good)
  exact Moved.beside HH.out.1 (Nat.le_refl _) HH.out.2.2.1.lt rfl rfl HH.out.2.2.2 e1 a1 a2 a3 HK2.out

end Go.Proofs.YtipejahmjdamjaaGreatDoor
