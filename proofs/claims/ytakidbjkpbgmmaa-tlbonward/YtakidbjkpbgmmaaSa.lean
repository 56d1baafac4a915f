import Derived.Test.YtakidbjkpbgmmaaLc
namespace Go.Proofs.Ytakidbjkpbgmmaa
open Go.RowKit Go.Shelf
set_option linter.unusedVariables false

/-- A TLB and the document's one, apart. -/
structure Pr (w : World) (t d : Nat) (ls L : List Lf) (F G : Nat → Prop) : Prop where
  tl : Tl w t ls F
  rf : Rf w d L G
  apart : ∀ b, F b → ¬ G b

/-- Where both are now. -/
def NowP (w w' : World) (t d : Nat) (ls L : List Lf) (F G : Nat → Prop) : Prop :=
  (∃ F' G', Pr w' t d ls L F' G' ∧ (∀ b, F' b → F b ∨ w.heap.size ≤ b) ∧ ∀ b, G' b → G b ∨ w.heap.size ≤ b) ∧ Keeps (fun b => F b ∨ G b) w w'

theorem Pr.kept {S : Nat → Prop} {w w' : World} {t d : Nat} {ls L : List Lf} {F G : Nat → Prop} (h : Pr w t d ls L F G) (hK : Keeps S w w') (hF : ∀ b, F b → ¬ S b) (hG : ∀ b, G b → ¬ S b) : Pr w' t d ls L F G :=
  ⟨h.tl.kept hK hF, h.rf.kept hK hG, h.apart⟩

theorem nowP_same {w w' : World} {t d : Nat} {ls L : List Lf} {F G : Nat → Prop} (h : Pr w t d ls L F G) (hK : Keeps (fun _ => False) w w') : NowP w w' t d ls L F G :=
  ⟨⟨F, G, h.kept hK (fun _ _ h => h) (fun _ _ h => h), fun b hb => .inl hb, fun b hb => .inl hb⟩, hK.mono fun _ _ h => h.elim⟩

/-- First the one, then the other. -/
theorem nowP_two {w w0 w1 w2 : World} {t d : Nat} {ls L ls' L' : List Lf} {F G : Nat → Prop} (h : Pr w t d ls L F G) (h0 : Keeps (fun _ => False) w w0) (h1 : NowT w0 w1 t ls' F) {w1' : World} (h1' : Keeps (fun _ => False) w1 w1') (h2 : NowR w1' w2 d L' G) : NowP w w2 t d ls' L' F G := by
  obtain ⟨⟨F', a1, a2⟩, a3⟩ := h1
  obtain ⟨⟨G', b1, b2⟩, b3⟩ := h2
  have hl := h.tl.lt
  have hr := h.rf.lt
  have z0 := h0.size
  have z1 := a3.size
  have z2 := h1'.size
  have hFG : ∀ b, F' b → ¬ G b := fun b hb hG => by
    rcases a2 b hb with h' | h'
    · exact h.apart b h' hG
    · have := hr b hG; omega
  refine ⟨⟨F', G', ⟨(a1.kept h1' fun _ _ h => h).kept b3 hFG, b1, fun b hb hg => ?_⟩, fun b hb => ?_, fun b hb => ?_⟩, ?_⟩
  · rcases b2 b hg with h' | h'
    · exact hFG b hb h'
    · have := a1.lt b hb; omega
  · rcases a2 b hb with h' | h'
    · exact .inl h'
    · exact .inr (by omega)
  · rcases b2 b hb with h' | h'
    · exact .inl h'
    · exact .inr (by omega)
  · exact ((((h0.mono fun _ _ h => h.elim).trans a3 fun b _ hb => .inl hb).trans h1' fun _ _ h => h.elim).trans b3 fun b _ hb => .inr hb)

theorem NowP.after {w w1 w2 : World} {t d : Nat} {ls L : List Lf} {F G : Nat → Prop} (h : NowP w w1 t d ls L F G) (hK : Keeps (fun _ => False) w1 w2) : NowP w w2 t d ls L F G := by
  obtain ⟨⟨F', G', h1, h2, h3⟩, h4⟩ := h
  exact ⟨⟨F', G', h1.kept hK (fun _ _ h => h) (fun _ _ h => h), h2, h3⟩, h4.trans hK fun _ _ h => h.elim⟩

abbrev oV (which kind : Int) (l : Lf) (ad : Option Addr) (n cap : Nat) : Value := .agg #[.int .i64 which, .int .i64 kind, .int .i64 l.p, .int .i64 l.f, .int .i64 l.r, .slice ad n cap]
abbrev oC (which kind : Int) (l : Lf) (ad : Option Addr) (n cap : Nat) : List Value := [.int .i64 which, .int .i64 kind, .int .i64 l.p, .int .i64 l.f, .int .i64 l.r, .slice ad n cap]

set_option maxHeartbeats 1000000 in
theorem step_find (t d : Nat) (ls L : List Lf) (F G : Nat → Prop) (which : Int) (l : Lf) (ad : Option Addr) (n cap : Nat) (w : World) (h : Pr w t d ls L F G) (hp : I64 l.p) :
    Calls Try.prog 8 #[ptr t, ptr d, oV which 0 l ad n cap] w fun r w' => (∃ b, r = .returned (.bool b) ∧ (ls = L → b = true)) ∧ NowP w w' t d (touchT l.p ls) (touchT l.p L) F G := by
  obtain ⟨W, hW⟩ : ∃ W, W = w.alloc (.cells #[.int .i64 which, .int .i64 0, .int .i64 l.p, .int .i64 l.f, .int .i64 l.r, .slice ad n cap] 30) := ⟨_, rfl⟩
  have hKW : Keeps (fun _ => False) w W := by rw [hW]; exact (Keeps.refl _ w).alloc _
  have hB : Blk W w.heap.size (oC which 0 l ad n cap) 30 := by rw [hW]; exact Blk.new w _ 30
  have HF : Hid (Calls _ _ _ _ _) := findT_any t ls F l.p W (h.tl.kept hKW fun _ _ h => h) hp
  have HW : Hid (W = _ ∧ Keeps (fun _ => False) w W ∧ Blk W w.heap.size (oC which 0 l ad n cap) 30 ∧ Pr w t d ls L F G) := ⟨hW, hKW, hB, h⟩
  obtain ⟨x, hx⟩ : ∃ x, x = (findT l.p ls).getD Lf.none := ⟨_, rfl⟩
  obtain ⟨ok, hok⟩ : ∃ ok, ok = (findT l.p ls).isSome := ⟨_, rfl⟩
  rw [← hx, ← hok] at HF
  have HX : Hid (x = (findT l.p ls).getD Lf.none ∧ ok = (findT l.p ls).isSome) := ⟨hx, hok⟩
  clear hW hKW hB h hx hok
  go_enter Try.func8, Try.ntmps8
  go_wp2_with fail
  rw [← HW.out.1]
  refine HF.out.mono ?_
  rintro r w1 ⟨rfl, hN1⟩
  have hBo : Blk w1 w.heap.size (oC which 0 l ad n cap) 30 := HW.out.2.2.1.kept hN1.2 fun hF => by have := HW.out.2.2.2.tl.lt _ hF; omega
  obtain ⟨X, hX⟩ : ∃ X, X = w1.alloc (.cells #[.int .i64 x.p, .int .i64 x.f, .int .i64 x.r] 38) := ⟨_, rfl⟩
  have hKX : Keeps (fun _ => False) w1 X := by rw [hX]; exact (Keeps.refl _ w1).alloc _
  have hBx : Blk X w1.heap.size x.vs 38 := by rw [hX]; exact Blk.new w1 _ 38
  have hKw1 : Keeps F w w1 := (HW.out.2.1.mono fun _ _ h => h.elim).trans hN1.2 fun _ _ h => h
  have hRX : Rf X d L G := (HW.out.2.2.2.rf.kept hKw1 fun b hb hF => HW.out.2.2.2.apart b hF hb).kept hKX fun _ _ h => h
  have HR : Hid (Calls _ _ _ _ _) := findR_any d L G l.p X hRX
  obtain ⟨y, hy⟩ : ∃ y, y = (findT l.p L).getD Lf.none := ⟨_, rfl⟩
  obtain ⟨is, his⟩ : ∃ is, is = (findT l.p L).isSome := ⟨_, rfl⟩
  rw [← hy, ← his] at HR
  have HY : Hid (y = (findT l.p L).getD Lf.none ∧ is = (findT l.p L).isSome) := ⟨hy, his⟩
  have H1 : Hid (NowT W w1 t (touchT l.p ls) F ∧ Keeps (fun _ => False) w1 X ∧ Blk X w1.heap.size x.vs 38 ∧ X = w1.alloc (.cells #[.int .i64 x.p, .int .i64 x.f, .int .i64 x.r] 38)) := ⟨hN1, hKX, hBx, hX⟩
  have p0 := hBo.cell (i := 2) rfl
  have hlt := hBo.lt
  clear hN1 hBo hX hKX hBx hRX HF hy his hKw1
  go_wp2_with fail
  rw [← H1.out.2.2.2]
  refine HR.out.mono ?_
  rintro r w2 ⟨rfl, hN2⟩
  have hBx2 : Blk w2 w1.heap.size x.vs 38 := H1.out.2.2.1.kept hN2.2 fun hG => by have := HW.out.2.2.2.rf.lt _ hG; have := H1.out.1.2.size; have := HW.out.2.1.size; omega
  have x0 := hBx2.cell (i := 0) rfl
  have x1 := hBx2.cell (i := 1) rfl
  have x2 := hBx2.cell (i := 2) rfl
  have hltx := hBx2.lt
  have HN : Hid (NowP w w2 t d (touchT l.p ls) (touchT l.p L) F G) := nowP_two HW.out.2.2.2 HW.out.2.1 H1.out.1 H1.out.2.1 hN2
  clear hN2 hBx2 p0 hlt HR
  by_cases hxy : x = y
  · subst hxy
    go_wp2
    go_ret
    refine ⟨⟨_, rfl, fun e => ?_⟩, HN.out.after ((Keeps.refl _ w2).alloc _)⟩
    subst e
    rw [HX.out.2, HY.out.2]
    simp
  · have hq : ∀ w' : World, (binOp .eql 38 x.v y.v).run Try.prog w' = .ok (.bool false) w' := fun w' => by rw [eql_leaf, decide_eq_false hxy]
    have HNE : Hid (¬ x = y) := hxy
    clear hxy
    go_wp2
    go_ret
    refine ⟨⟨_, rfl, fun e => ?_⟩, HN.out.after ((Keeps.refl _ w2).alloc _)⟩
    subst e
    exact absurd (HX.out.1.trans HY.out.1.symm) HNE.out

theorem Pr.rfAt {w w1 : World} {t d : Nat} {ls L : List Lf} {F G : Nat → Prop} (h : Pr w t d ls L F G) (hK : Keeps F w w1) : Rf w1 d L G := h.rf.kept hK fun b hb hF => h.apart b hF hb

set_option maxHeartbeats 1000000 in
theorem step_put (t d : Nat) (ls L : List Lf) (F G : Nat → Prop) (which : Int) (l : Lf) (ad : Option Addr) (n cap : Nat) (w : World) (h : Pr w t d ls L F G) :
    Calls Try.prog 8 #[ptr t, ptr d, oV which 1 l ad n cap] w fun r w' => (∃ b, r = .returned (.bool b) ∧ (ls = L → b = true)) ∧ NowP w w' t d (if mayB l then putT l ls else ls) (if mayB l then putT l L else L) F G := by
  obtain ⟨W, hW⟩ : ∃ W, W = (w.alloc (.cells #[.int .i64 which, .int .i64 1, .int .i64 l.p, .int .i64 l.f, .int .i64 l.r, .slice ad n cap] 30)).alloc (.cells #[.int .i64 l.p, .int .i64 l.f, .int .i64 l.r] 38) := ⟨_, rfl⟩
  have hKW : Keeps (fun _ => False) w W := by rw [hW]; exact ((Keeps.refl _ w).alloc _).alloc _
  have hB : Blk W (w.heap.size + 1) l.vs 38 := by
    rw [hW, show w.heap.size + 1 = (w.alloc (.cells #[.int .i64 which, .int .i64 1, .int .i64 l.p, .int .i64 l.f, .int .i64 l.r, .slice ad n cap] 30)).heap.size by simp]
    exact Blk.new _ _ 38
  have HW : Hid (W = _ ∧ Keeps (fun _ => False) w W ∧ Blk W (w.heap.size + 1) l.vs 38 ∧ Pr w t d ls L F G) := ⟨hW, hKW, hB, h⟩
  have HP : Hid (Calls Try.prog 12 #[ptr t, l.v] W fun r w' => r = .returned (.int .i64 (if mayB l then 0 else 80)) ∧ NowT W w' t (if mayB l then putT l ls else ls) F) := by
    unfold Hid
    cases hm : mayB l
    · simpa using putT_no t ls F l W (h.tl.kept hKW fun _ _ h => h) hm
    · simpa using putT_yes t ls F l W (h.tl.kept hKW fun _ _ h => h) hm
  have HQ : Hid (∀ w', Rf w' d L G → Calls Try.prog 18 #[ptr d, l.v] w' fun r w'' => r = .returned (.int .i64 (if mayB l then 0 else 80)) ∧ NowR w' w'' d (if mayB l then putT l L else L) G) := fun w' hr => by
    cases hm : mayB l
    · simpa using putR_no d L G l w' hr hm
    · simpa using putR_yes d L G l w' hr hm
  obtain ⟨e, he⟩ : ∃ e : Int, e = if mayB l then 0 else 80 := ⟨_, rfl⟩
  rw [← he] at HP HQ
  obtain ⟨ls', hls'⟩ : ∃ ls', ls' = if mayB l then putT l ls else ls := ⟨_, rfl⟩
  obtain ⟨L', hL'⟩ : ∃ L', L' = if mayB l then putT l L else L := ⟨_, rfl⟩
  rw [← hls'] at HP ⊢
  rw [← hL'] at HQ ⊢
  clear hW hKW hB h he hls' hL'
  go_enter Try.func8, Try.ntmps8
  go_wp2_with fail
  rw [← HW.out.1]
  refine HP.out.mono ?_
  rintro r w1 ⟨rfl, hN1⟩
  have hBl : Blk w1 (w.heap.size + 1) l.vs 38 := HW.out.2.2.1.kept hN1.2 fun hF => by have := HW.out.2.2.2.tl.lt _ hF; omega
  have hKw1 : Keeps F w w1 := (HW.out.2.1.mono fun _ _ h => h.elim).trans hN1.2 fun _ _ h => h
  have HR : Hid (Calls _ _ _ _ _) := HQ.out w1 (HW.out.2.2.2.rfAt hKw1)
  have H1 : Hid (NowT W w1 t ls' F) := hN1
  have v0 := hBl.cell (i := 0) rfl
  have v1 := hBl.cell (i := 1) rfl
  have v2 := hBl.cell (i := 2) rfl
  clear hN1 hBl hKw1 HP HQ
  go_wp2_with fail
  refine HR.out.mono ?_
  rintro r w2 ⟨rfl, hN2⟩
  have HN : Hid (NowP w w2 t d ls' L' F G) := nowP_two HW.out.2.2.2 HW.out.2.1 H1.out (Keeps.refl _ _) hN2
  clear hN2 HR v0 v1 v2
  go_wp2
  go_ret
  exact ⟨⟨_, rfl, fun _ => rfl⟩, HN.out⟩

set_option maxHeartbeats 1000000 in
theorem step_flush (t d : Nat) (ls L : List Lf) (F G : Nat → Prop) (which : Int) (l : Lf) (ad : Option Addr) (n cap : Nat) (w : World) (h : Pr w t d ls L F G) :
    Calls Try.prog 8 #[ptr t, ptr d, oV which 2 l ad n cap] w fun r w' => (∃ b, r = .returned (.bool b) ∧ (ls = L → b = true)) ∧ NowP w w' t d [] [] F G := by
  obtain ⟨W, hW⟩ : ∃ W, W = w.alloc (.cells #[.int .i64 which, .int .i64 2, .int .i64 l.p, .int .i64 l.f, .int .i64 l.r, .slice ad n cap] 30) := ⟨_, rfl⟩
  have hKW : Keeps (fun _ => False) w W := by rw [hW]; exact (Keeps.refl _ w).alloc _
  have HF : Hid (Calls _ _ _ _ _) := flush_any t ls F W (h.tl.kept hKW fun _ _ h => h)
  have HW : Hid (W = _ ∧ Keeps (fun _ => False) w W ∧ Pr w t d ls L F G) := ⟨hW, hKW, h⟩
  clear hW hKW h
  go_enter Try.func8, Try.ntmps8
  go_wp2_with fail
  rw [← HW.out.1]
  refine HF.out.mono ?_
  rintro r w1 ⟨rfl, hN1⟩
  have hKw1 : Keeps F w w1 := (HW.out.2.1.mono fun _ _ h => h.elim).trans hN1.2 fun _ _ h => h
  have HR : Hid (Calls _ _ _ _ _) := flushR_any d L G w1 (HW.out.2.2.rfAt hKw1)
  have H1 : Hid (NowT W w1 t [] F) := hN1
  clear hN1 hKw1 HF
  go_wp2_with fail
  refine HR.out.mono ?_
  rintro r w2 ⟨rfl, hN2⟩
  have HN : Hid (NowP w w2 t d [] [] F G) := nowP_two HW.out.2.2 HW.out.2.1 H1.out (Keeps.refl _ _) hN2
  clear hN2 HR
  go_wp2
  go_ret
  exact ⟨⟨_, rfl, fun _ => rfl⟩, HN.out⟩

theorem step_else (t d : Nat) (ls L : List Lf) (F G : Nat → Prop) (which kind : Int) (l : Lf) (ad : Option Addr) (n cap : Nat) (w : World) (h : Pr w t d ls L F G) (h0 : kind ≠ 0) (h1 : kind ≠ 1) (h2 : kind ≠ 2) (h3 : kind ≠ 3) (h4 : kind ≠ 4) :
    Calls Try.prog 8 #[ptr t, ptr d, oV which kind l ad n cap] w fun r w' => (∃ b, r = .returned (.bool b) ∧ (ls = L → b = true)) ∧ NowP w w' t d ls L F G := by
  have e0 : (kind == 0) = false := by simpa using h0
  have e1 : (kind == 1) = false := by simpa using h1
  have e2 : (kind == 2) = false := by simpa using h2
  have e3 : (kind == 3) = false := by simpa using h3
  have e4 : (kind == 4) = false := by simpa using h4
  have HP : Hid (Pr w t d ls L F G) := h
  clear h h0 h1 h2 h3 h4
  go_enter Try.func8, Try.ntmps8
  go_wp2
  go_ret
  exact ⟨⟨_, rfl, fun _ => rfl⟩, nowP_same HP.out ((Keeps.refl _ w).alloc _)⟩

end Go.Proofs.Ytakidbjkpbgmmaa
