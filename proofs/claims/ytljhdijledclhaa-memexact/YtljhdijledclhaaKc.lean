import Derived.Test.YtljhdijledclhaaKa
import Derived.Test.YtljhdijledclhaaKb
namespace Go.Proofs.Ytljhdijledclhaa
open Go.RowKit Go.Shelf
attribute [local go_sem] Oper.semAt_some
attribute [local go_sem] func_nil57 func_nil58
set_option linter.unusedVariables false

theorem results_cell_val {P : Program} {fn : Func} {p : Tmp} {ty : TypeId} (h : fn.results = #[.cell p ty]) (tmps : Array Value) (w : World) (g : Nat) (v : Value)
    (hp : tmps.getD p undef = .pointer (some ⟨g, 0, none⟩)) (hl : (loadVar ty ⟨g, 0, none⟩).run P w = .ok v w) : (results fn tmps).run P w = .ok v w := by
  have hp' : tmps[p]?.getD undef = .pointer (some ⟨g, 0, none⟩) := by simpa using hp
  simp [results, h, hp', asAddr, hl]


def sqv (B1 B2 : Nat) : Value := .func (.func 54) #[] #[.pointer (some ⟨B1, 0, none⟩), .pointer (some ⟨B2, 0, none⟩)]

/-- What within keeps between two of its outer rounds. -/
structure WthI (w : World) (sq : Value) (N D : Nat) (xs ys : List UInt32) (s : Nat) (W : World) : Prop where
  k : Keeps (fun _ => False) w W
  b0 : Blk W w.heap.size [sq] 57
  b1 : Blk W (w.heap.size + 1) [.int .i64 N] 3
  b2 : Blk W (w.heap.size + 2) [.int .i64 0] 3
  b3 : Blk W (w.heap.size + 3) [.int .i64 (((dfi xs ys s).length : Int) * D)] 3
  b4 : Blk W (w.heap.size + 4) [.int .i64 ((dfi xs ys s).length : Int)] 3

def WthX (w : World) (D : Nat) (c : Code) (W : World) : Prop := c = .ret ∧ Keeps (fun _ => False) w W ∧ Blk W (w.heap.size + 2) [.int .i64 ((D : Int) * D)] 3

theorem WthI.kept {w : World} {sq : Value} {N D : Nat} {xs ys : List UInt32} {s : Nat} {S : Nat → Prop} {W W' : World} (h : WthI w sq N D xs ys s W) (hK : Keeps S W W') (hS : ∀ k, S k → w.heap.size + 5 ≤ k) : WthI w sq N D xs ys s W' :=
  ⟨h.k.trans hK fun b hb e => by have := hS b e; omega, h.b0.kept hK (fun e => by have := hS _ e; omega), h.b1.kept hK (fun e => by have := hS _ e; omega), h.b2.kept hK (fun e => by have := hS _ e; omega), h.b3.kept hK (fun e => by have := hS _ e; omega), h.b4.kept hK (fun e => by have := hS _ e; omega)⟩
theorem WthX.kept {w : World} {D : Nat} {c : Code} {S : Nat → Prop} {W W' : World} (h : WthX w D c W) (hK : Keeps S W W') (hS : ∀ k, S k → w.heap.size + 5 ≤ k) : WthX w D c W' :=
  ⟨h.1, h.2.1.trans hK fun b hb e => by have := hS b e; omega, h.2.2.kept hK (fun e => by have := hS _ e; omega)⟩

set_option maxRecDepth 20000 in
set_option maxHeartbeats 8000000 in
theorem within_any (B1 B2 b g c h N : Nat) (xs ys : List UInt32) (w : World) (q1 : w.cell? ⟨B1, 0, none⟩ = some (.pointer (some ⟨b, 0, none⟩))) (q2 : w.cell? ⟨B2, 0, none⟩ = some (.pointer (some ⟨c, 0, none⟩)))
    (hx : Mm w b g xs) (hy : Mm w c h ys) (hN : N = (dfi xs ys (max xs.length ys.length)).length + 1) :
    Calls Try.prog 36 #[sqv B1 B2, .int .i64 N] w fun e w' => e = .returned (.int .i64 (((dfi xs ys (max xs.length ys.length)).length : Int) * (dfi xs ys (max xs.length ys.length)).length)) ∧ Keeps (fun _ => False) w w' := by
  have HQ : Hid (∀ W, Keeps (fun _ => False) w W → Two B1 B2 b g c h xs.length ys.length W) := fun W hK =>
    ⟨cell_kept' q1 hK fun e => e, cell_kept' q2 hK fun e => e, xs, ys, hx.kept hK (fun e => e) (fun e => e), hy.kept hK (fun e => e) (fun e => e), rfl, rfl⟩
  have HM : Hid (∀ W, Keeps (fun _ => False) w W → Mm W b g xs ∧ Mm W c h ys) := fun W hK => ⟨hx.kept hK (fun e => e) (fun e => e), hy.kept hK (fun e => e) (fun e => e)⟩
  have HSm : Hid (max xs.length ys.length ≤ 16384) := by have := hx.small; have := hy.small; show max xs.length ys.length ≤ 16384; omega
  have HT : Hid (∀ (S : Nat → Prop) s x W W', (∀ k, S k → w.heap.size ≤ k) → Keeps S W W' → Keeps (fun _ => False) w W → TellD b g c h xs.length ys.length s x W → TellD b g c h xs.length ys.length s x W') := by
    intro S s x W W' hS hK hk ht
    refine ⟨ht.1, ht.2.1, fun us vs hu hv => ?_⟩
    have hk' : Keeps (fun _ => False) w W' := hk.trans hK fun b hb e => by have := hS b e; omega
    have e1 := HM.out W hk
    have f1 := HM.out W' hk'
    rw [← (f1.1.inj hu).2, ← (f1.2.inj hv).2]
    exact ht.2.2 xs ys e1.1 e1.2
  obtain ⟨D, hD⟩ : ∃ D, D = (dfi xs ys (max xs.length ys.length)).length := ⟨_, rfl⟩
  have HD : Hid (D = (dfi xs ys (max xs.length ys.length)).length) := hD
  have HDl : Hid (∀ s, s ≤ max xs.length ys.length → (dfi xs ys s).length ≤ D) := by
    intro s hs
    obtain ⟨r, hr⟩ := dfi_add xs ys s (max xs.length ys.length - s)
    rw [show s + (max xs.length ys.length - s) = max xs.length ys.length by omega] at hr
    rw [HD.out, hr]; simp
  have hD2 : (D : Int) ≤ 16384 := by have := dfi_len xs ys (max xs.length ys.length); have := HSm.out; omega
  rw [← hD] at hN ⊢
  have HND : Hid (N = D + 1) := hN
  clear q1 q2 hx hy hN hD
  refine (callsIn_wide (n := 8)).1 ?_
  refine callsIn_of_wp_marks Try.func36 rfl trivial ?_ rfl
  refine wpIn_wide.2 ?_
  simp only [Try.ntmps36, List.size_toArray, List.length_cons, List.length_nil, Nat.reduceAdd, Nat.reduceSub, Array.replicate_succ, Array.replicate_zero, List.push_toArray, List.append_toArray, List.nil_append, List.cons_append]
  unfold sqv
  go_wp2
  refine (wpIn_wide (n := 8)).1 ?_
  -- REST
  obtain ⟨sq, hsq⟩ : ∃ sq, sq = Value.func (Fn.func 54) #[] #[Value.pointer (some { block := B1, off := 0 }), Value.pointer (some { block := B2, off := 0 })] := ⟨_, rfl⟩
  have HSQ : Hid (sq = Value.func (Fn.func 54) #[] #[Value.pointer (some { block := B1, off := 0 }), Value.pointer (some { block := B2, off := 0 })]) := hsq
  have h0 : WthI w sq N D xs ys 0 (((((w.alloc (Obj.cells #[sq] 57)).alloc (Obj.cells #[Value.int IntKind.i64 ↑N] 3)).alloc (Obj.cells #[Value.int IntKind.i64 0] 3)).alloc (Obj.cells #[Value.int IntKind.i64 0] 3)).alloc (Obj.cells #[Value.int IntKind.i64 0] 3)) := by
    have e0 := Blk.new w #[sq] 57
    have e1 := Blk.new (w.alloc (Obj.cells #[sq] 57)) #[Value.int IntKind.i64 ↑N] 3
    have e2 := Blk.new ((w.alloc (Obj.cells #[sq] 57)).alloc (Obj.cells #[Value.int IntKind.i64 ↑N] 3)) #[Value.int IntKind.i64 0] 3
    have e3 := Blk.new (((w.alloc (Obj.cells #[sq] 57)).alloc (Obj.cells #[Value.int IntKind.i64 ↑N] 3)).alloc (Obj.cells #[Value.int IntKind.i64 0] 3)) #[Value.int IntKind.i64 0] 3
    have e4 := Blk.new ((((w.alloc (Obj.cells #[sq] 57)).alloc (Obj.cells #[Value.int IntKind.i64 ↑N] 3)).alloc (Obj.cells #[Value.int IntKind.i64 0] 3)).alloc (Obj.cells #[Value.int IntKind.i64 0] 3)) #[Value.int IntKind.i64 0] 3
    simp only [World.size_alloc, Nat.add_assoc, Nat.reduceAdd] at e1 e2 e3 e4
    refine ⟨((((((Keeps.refl _ w).alloc _).alloc _).alloc _).alloc _).alloc _), (((e0.alloc _).alloc _).alloc _).alloc _, ((e1.alloc _).alloc _).alloc _, (e2.alloc _).alloc _, ?_, ?_⟩
    · rw [show (((dfi xs ys 0).length : Int) * D) = 0 by rw [dfi_zero]; simp]; exact e3.alloc _
    · rw [show ((dfi xs ys 0).length : Int) = 0 by rw [dfi_zero]; simp]; exact e4
  have hsz : (((((w.alloc (Obj.cells #[sq] 57)).alloc (Obj.cells #[Value.int IntKind.i64 ↑N] 3)).alloc (Obj.cells #[Value.int IntKind.i64 0] 3)).alloc (Obj.cells #[Value.int IntKind.i64 0] 3)).alloc (Obj.cells #[Value.int IntKind.i64 0] 3)).heap.size = w.heap.size + 5 := by simp
  rw [← hsq]
  clear hsq
  revert h0 hsz
  generalize ((((w.alloc (Obj.cells #[sq] 57)).alloc (Obj.cells #[Value.int IntKind.i64 ↑N] 3)).alloc (Obj.cells #[Value.int IntKind.i64 0] 3)).alloc (Obj.cells #[Value.int IntKind.i64 0] 3)).alloc (Obj.cells #[Value.int IntKind.i64 0] 3) = W0
  intro h0 hsz
  obtain ⟨P1, hP1⟩ : ∃ p, p = w.heap.size + 1 := ⟨_, rfl⟩
  obtain ⟨P2, hP2⟩ : ∃ p, p = w.heap.size + 1 + 1 := ⟨_, rfl⟩
  obtain ⟨P3, hP3⟩ : ∃ p, p = w.heap.size + 1 + 1 + 1 := ⟨_, rfl⟩
  obtain ⟨P4, hP4⟩ : ∃ p, p = w.heap.size + 1 + 1 + 1 + 1 := ⟨_, rfl⟩
  obtain ⟨P0, hP0⟩ : ∃ p, p = w.heap.size := ⟨_, rfl⟩
  rw [← hP4, ← hP3, ← hP2, ← hP1, ← hP0]
  have HZ : Hid (W0.heap.size = w.heap.size + 5 ∧ P0 = w.heap.size ∧ P1 = w.heap.size + 1 ∧ P2 = w.heap.size + 2 ∧ P3 = w.heap.size + 3 ∧ P4 = w.heap.size + 4) := ⟨hsz, hP0, hP1, by omega, by omega, by omega⟩
  clear hsz hP0 hP1 hP2 hP3 hP4
  have kp : ∀ s W W', Keeps (fun k => k = W0.heap.size ∨ k = W0.heap.size + 1) W W' → WthI w sq N D xs ys s W → WthI w sq N D xs ys s W' := fun s W W' hK h => h.kept hK fun k e => by have := HZ.out; rcases e with e | e <;> omega
  have kx : ∀ c W W', Keeps (fun k => k = W0.heap.size ∨ k = W0.heap.size + 1) W W' → WthX w D c W → WthX w D c W' := fun s W W' hK h => h.kept hK fun k e => by have := HZ.out; rcases e with e | e <;> omega
  refine range_live5 (σ := Nat) (α := Nat) rfl (by omega) (gf := 54) (lb := #[.pointer (some ⟨B1, 0, none⟩), .pointer (some ⟨B2, 0, none⟩)]) HSQ.out trivial (enters_of Try.func54 (by kernel_rfl) rfl)
    (differ_tells 7 B1 B2 b g c h xs.length ys.length) (fun _ => rfl) (WthI w sq N D xs ys) (WthX w D) kp
    (fun s x W W' hK hi ht => HT.out _ s x W W' (fun k e => by have := HZ.out; rcases e with e | e <;> omega) hK hi.k ht)
    kx (fun s W hi => HQ.out W hi.k)
    (fun s s' W hi hs => by
      obtain ⟨rfl, hlt, hn⟩ := hs
      have e1 := (HM.out W hi.k)
      have hno : ¬ Unl xs ys s := hn xs ys e1.1 e1.2
      have h3 := hi.b3
      have h4 := hi.b4
      rw [← dfi_no hno] at h3 h4
      exact ⟨hi.k, hi.b0, hi.b1, hi.b2, h3, h4⟩)
    h0 ?body ?done ?stop
  case stop =>
    rintro cc W ⟨rfl, hk, hr⟩ hD
    have c2 := hr.cell (i := 0) rfl
    rw [← HZ.out.2.2.2.1] at c2 hr
    have HK : Hid (Keeps (fun _ => False) w W ∧ Blk W P2 [.int .i64 ((D : Int) * D)] 3) := ⟨hk, hr⟩
    clear hk hr kp kx h0
    gi_wp2
    go_wp2
    have hKf : Keeps (· = W0.heap.size) W (W.putObj W0.heap.size (.deferred none)) := ⟨rfl, rfl, rfl, by simp, fun k _ hn => World.putObj_heap_other hn⟩
    refine ⟨by simp, .inl ⟨_, _, rfl, run_takeDeferred hD, ?_⟩⟩
    have hz := HZ.out
    have hrf := (HK.out.2.kept hKf (by omega)).cell (i := 0) rfl
    exact ⟨_, results_cell_val rfl _ _ P2 (.int .i64 ((D : Int) * D)) rfl (by simp [go_sem, hrf]), rfl, HK.out.1.trans hKf fun b hb e => by omega⟩
  case done =>
    rintro s W hf hi hD
    subst hf
    have c2 := hi.b2.cell (i := 0) rfl
    have f2 := hi.b2.frozen 0
    have c3 := hi.b3.cell (i := 0) rfl
    rw [← HD.out] at c3
    rw [← HZ.out.2.2.2.1] at c2 f2
    rw [← HZ.out.2.2.2.2.1] at c3
    have hB2 := hi.b2
    rw [← HZ.out.2.2.2.1] at hB2
    have HK : Hid (Keeps (fun _ => False) w W ∧ Blk W P2 [.int .i64 0] 3 ∧ W.heap[W0.heap.size]? = some (.deferred (some []))) := ⟨hi.k, hB2, hD⟩
    clear hi hB2 hD kp kx h0
    gi_wp2
    go_wp2
    have hz := HZ.out
    obtain ⟨hk, hB2, hD⟩ := HK.out
    have hKs : Keeps (· = P2) W (W.setCell ⟨P2, 0, none⟩ (.int .i64 ((D : Int) * D))) := (Keeps.refl _ W).setCell _ _ fun _ => rfl
    have d1 : (W.setCell ⟨P2, 0, none⟩ (.int .i64 ((D : Int) * D))).heap[W0.heap.size]? = some (.deferred (some [])) := (Below.heap_setCell W ⟨P2, 0, none⟩ _ _ (show W0.heap.size ≠ P2 by omega)).trans hD
    have hr := hB2.setCell 0 (.int .i64 ((D : Int) * D))
    revert hKs d1 hr
    generalize W.setCell ⟨P2, 0, none⟩ (.int .i64 ((D : Int) * D)) = WF
    intro hKs d1 hr
    have hKf : Keeps (· = W0.heap.size) WF (WF.putObj W0.heap.size (.deferred none)) := ⟨rfl, rfl, rfl, by simp, fun k _ hn => World.putObj_heap_other hn⟩
    have hrf := (hr.kept hKf (by omega)).cell (i := 0) rfl
    refine ⟨by simp, .inl ⟨_, _, rfl, run_takeDeferred d1, ?_⟩⟩
    exact ⟨_, results_cell_val rfl _ _ P2 (.int .i64 ((D : Int) * D)) rfl (by simp [go_sem, hrf]), rfl, (hk.trans hKs fun b hb e => by omega).trans hKf fun b hb e => by omega⟩
  case body =>
    rintro l s x W hi0 ⟨hxs, hsm, -⟩ hl
    subst hxs
    subst hl
    unfold encD
    gi_wp2
    refine ⟨trivial, ?_⟩
    rintro X0 hlt hi ⟨-, -, hun⟩ ⟨r₀, hrec⟩
    have hyes : Unl xs ys x := hun xs ys (HM.out X0 hi.k).1 (HM.out X0 hi.k).2
    have hd1 : (dfi xs ys (x + 1)).length = (dfi xs ys x).length + 1 := by rw [dfi_yes hyes]; simp
    have hdD : (dfi xs ys x).length + 1 ≤ D := by rw [← hd1]; exact HDl.out (x + 1) (by omega)
    obtain ⟨d, hd⟩ : ∃ d, d = (dfi xs ys x).length := ⟨_, rfl⟩
    have hz := HZ.out
    have c0 := hi.b0.cell (i := 0) rfl
    have c4 := hi.b4.cell (i := 0) rfl
    have f4 := hi.b4.frozen 0
    rw [← hz.2.1] at c0
    rw [← hz.2.2.2.2.2, ← hd] at c4
    rw [← hz.2.2.2.2.2] at f4
    have hd16 : (d : Int) ≤ 16384 := by omega
    obtain ⟨X1, hX1⟩ : ∃ X1, X1 = X0.setCell ⟨P4, 0, none⟩ (.int .i64 ((d : Int) + 1)) := ⟨_, rfl⟩
    have hK1 : Keeps (· = P4) X0 X1 := by rw [hX1]; exact (Keeps.refl _ X0).setCell _ _ fun _ => rfl
    have hs1 : X1.heap.size = X0.heap.size := by rw [hX1]; simp
    have hB4 : Blk X1 P4 [.int .i64 ((d : Int) + 1)] 3 := by rw [hX1]; have := hi.b4; rw [← hz.2.2.2.2.2] at this; exact this.setCell 0 _
    obtain ⟨X2, hX2⟩ : ∃ X2, X2 = X1.alloc (.cells #[.int .i64 0] 3) := ⟨_, rfl⟩
    have hK2 : Keeps (fun _ => False) X1 X2 := by rw [hX2]; exact (Keeps.refl _ X1).alloc _
    have hBq : Blk X2 X1.heap.size [.int .i64 0] 3 := by rw [hX2]; exact Blk.new X1 _ 3
    have hs2 : X2.heap.size = X0.heap.size + 1 := by rw [hX2, World.size_alloc, hs1]
    have hK02 : Keeps (· = P4) X0 X2 := hK1.trans hK2 fun _ _ e => e.elim
    have hk2 : Keeps (fun _ => False) w X2 := hi.k.trans hK02 fun b hb e => by omega
    obtain ⟨q, hq⟩ : ∃ q, q = X1.heap.size := ⟨_, rfl⟩
    rw [← hq] at hBq
    have hr2 : X2.heap[W0.heap.size + 1]? = some (.loop r₀) := (hK02.block _ hlt (by omega)).trans hrec
    have e0 : ((X0.setCell ⟨P4, 0, none⟩ (.int .i64 ((d : Int) + 1))).alloc (.cells #[.int .i64 0] 3)).cell? ⟨P0, 0, none⟩ = some sq := by
      have h := cell_kept' c0 hK02 (by show ¬ P0 = P4; omega)
      rw [hX2, hX1] at h
      exact h
    have HB : Hid (Keeps (· = P4) X0 X2 ∧ Keeps (fun _ => False) w X2 ∧ Blk X2 q [.int .i64 0] 3 ∧ q = X0.heap.size ∧ X2.heap.size = q + 1 ∧ Blk X2 P4 [.int .i64 ((d : Int) + 1)] 3 ∧ Blk X2 P0 [sq] 57 ∧ Blk X2 P1 [.int .i64 N] 3 ∧ Blk X2 P2 [.int .i64 0] 3 ∧ Blk X2 P3 [.int .i64 ((d : Int) * D)] 3 ∧ d + 1 ≤ D ∧ (dfi xs ys (x + 1)).length = d + 1 ∧ W0.heap.size + 1 < X0.heap.size) := by
      have i0 := hi.b0.kept hK02 (by omega)
      have i1 := hi.b1.kept hK02 (by omega)
      have i2 := hi.b2.kept hK02 (by omega)
      have i3 := hi.b3.kept hK02 (by omega)
      rw [← hz.2.1] at i0
      rw [← hz.2.2.1] at i1
      rw [← hz.2.2.2.1] at i2
      rw [← hz.2.2.2.2.1, ← hd] at i3
      exact ⟨hK02, hk2, hBq, by omega, by omega, hB4.kept hK2 (fun e => e), i0, i1, i2, i3, by omega, by omega, hlt⟩
    have HX1 : Hid (X1 = X0.setCell ⟨P4, 0, none⟩ (.int .i64 ((d : Int) + 1))) := hX1
    have HX2 : Hid (X2 = X1.alloc (.cells #[.int .i64 0] 3)) := hX2
    have HQ2 : Hid (q = X1.heap.size ∧ X1.heap.size = X0.heap.size) := ⟨hq, hs1⟩
    clear hi0 hi hun hyes hd1 hdD hd hz hX1 hK1 hs1 hB4 hX2 hK2 hBq hs2 hK02 hk2 hq hlt hrec kp kx h0 hsm
    gi_wp2_with fail
    -- INNER
    rw [← HX1.out, ← HX2.out, ← HB.out.2.2.2.1]
    have kY : ∀ Y, Keeps (· = q) X2 Y → Keeps (fun _ => False) w Y := fun Y hK => HB.out.2.1.trans hK fun b hb e => by have := HB.out.2.2.2.1; have := HB.out.2.2.2.2.2.2.2.2.2.2.2.2; have := HZ.out; omega
    refine range_live_in (σ := Nat) (α := Nat) (F := Fence.wide.inRound (W0.heap.size + 1)) (n := 6) rfl hr2 (by omega) (gf := 54) (lb := #[.pointer (some ⟨B1, 0, none⟩), .pointer (some ⟨B2, 0, none⟩)]) HSQ.out trivial (enters_of Try.func54 (by kernel_rfl) rfl)
      (Tells.inRound _ (differ_tells 5 B1 B2 b g c h xs.length ys.length)) (fun _ => rfl) (fun t Y => Keeps (· = q) X2 Y ∧ Blk Y q [.int .i64 ((dfi xs ys t).length : Int)] 3)
      (fun t Y Y' hK h => ⟨h.1.trans hK fun b hb e => by omega, h.2.kept hK fun e => by have := HB.out.2.2.2.2.1; omega⟩)
      (fun t x2 Y Y' hK h ht => HT.out _ t x2 Y Y' (fun k e => by have := HB.out.2.2.2.1; have := HB.out.2.2.2.2.1; have := HB.out.2.2.2.2.2.2.2.2.2.2.2.2; have := HZ.out; omega) hK (kY Y h.1) ht)
      (fun t Y h => HQ.out Y (kY Y h.1))
      (fun t t' Y h hs => by
        obtain ⟨rfl, hlt, hn⟩ := hs
        have e1 := (HM.out Y (kY Y h.1))
        have hno : ¬ Unl xs ys t := hn xs ys e1.1 e1.2
        have h2 := h.2
        rw [← dfi_no hno] at h2
        exact ⟨h.1, h2⟩)
      ⟨Keeps.refl _ _, HB.out.2.2.1⟩ ?bin ?din
    case bin =>
      rintro l2 t x2 Y hC0 ⟨hxs2, hsm2, -⟩
      subst hxs2
      unfold encD
      gi_wp2
      refine ⟨trivial, ?_⟩
      rintro Y2 hlt2 hC ⟨-, -, hun2⟩
      have hyes2 : Unl xs ys x2 := hun2 xs ys (HM.out Y2 (kY Y2 hC.1)).1 (HM.out Y2 (kY Y2 hC.1)).2
      have he1 : (dfi xs ys (x2 + 1)).length = (dfi xs ys x2).length + 1 := by rw [dfi_yes hyes2]; simp
      have heD : (dfi xs ys x2).length + 1 ≤ D := by rw [← he1]; exact HDl.out (x2 + 1) (by omega)
      obtain ⟨hbK02, hbk2, hbq, hqX, hX2s, -, -, hb1, -, -, -, -, hW0X⟩ := HB.out
      have hz := HZ.out
      have c1 := (hb1.kept hC.1 (by omega)).cell (i := 0) rfl
      have cq := hC.2.cell (i := 0) rfl
      have fq := hC.2.frozen 0
      obtain ⟨e, he⟩ : ∃ e, e = (dfi xs ys x2).length := ⟨_, rfl⟩
      rw [← he] at cq
      have hKs : Keeps (· = q) Y2 (Y2.setCell ⟨q, 0, none⟩ (.int .i64 ((e : Int) + 1))) := (Keeps.refl _ Y2).setCell _ _ fun _ => rfl
      have d1 := cell_kept' c1 hKs (by show ¬ P1 = q; omega)
      have hBs : Blk (Y2.setCell ⟨q, 0, none⟩ (.int .i64 ((e : Int) + 1))) q [.int .i64 ((e : Int) + 1)] 3 := hC.2.setCell 0 _
      have dq := hBs.cell (i := 0) rfl
      have HFi : Hid ((Y2.setCell ⟨q, 0, none⟩ (.int .i64 ((e : Int) + 1))).heap[X2.heap.size]? = Y2.heap[X2.heap.size]? ∧ Keeps (· = q) X2 (Y2.setCell ⟨q, 0, none⟩ (.int .i64 ((e : Int) + 1))) ∧ Blk (Y2.setCell ⟨q, 0, none⟩ (.int .i64 ((e : Int) + 1))) q [.int .i64 ((dfi xs ys (x2 + 1)).length : Int)] 3) := by
        refine ⟨hKs.block _ hlt2 (by omega), hC.1.trans hKs fun _ _ e => e, ?_⟩
        rw [he1, ← he, show ((e + 1 : Nat) : Int) = (e : Int) + 1 by omega]
        exact hBs
      have hnN : ¬ ((N : Int) < (e : Int) + 1) := by have := HND.out; omega
      have he16 : (e : Int) ≤ 16384 := by omega
      clear hC0 hC hun2 hyes2 he1 heD hbK02 hbk2 hbq hqX hX2s hb1 hW0X hz he hKs hBs hlt2 kY hsm2
      gi_wp2
      exact HFi.out
    case din =>
      rintro t Y hf hC
      subst hf
      have hCq := hC.2
      rw [← HD.out] at hCq
      obtain ⟨hbK02, hbk2, hbq, hqX, hX2s, hb4, hb0, hb1, hb2, hb3, hdD, hd1, hW0X⟩ := HB.out
      have hz := HZ.out
      have hKX := hC.1
      have j0 := hb0.kept hKX (by omega)
      have j1 := hb1.kept hKX (by omega)
      have j2 := hb2.kept hKX (by omega)
      have j3 := hb3.kept hKX (by omega)
      have j4 := hb4.kept hKX (by omega)
      have hkY := kY Y hKX
      have hbig : (d : Int) * D + D ≤ 268435456 ∧ 0 ≤ (d : Int) * D ∧ (D : Int) * D ≤ 268435456 ∧ 0 ≤ (D : Int) * D := by
        have h1 : (d + 1) * D ≤ 16384 * 16384 := Nat.mul_le_mul (by omega) (by omega)
        have h2 : D * D ≤ 16384 * 16384 := Nat.mul_le_mul (by omega) (by omega)
        rw [Nat.add_mul, Nat.one_mul] at h1
        have e1 : ((d * D : Nat) : Int) = (d : Int) * D := by simp
        have e2 : ((D * D : Nat) : Int) = (D : Int) * D := by simp
        omega
      have hmul : ((d : Int) + 1) * D = (d : Int) * D + D := by rw [Int.add_mul, Int.one_mul]
      obtain ⟨p, hp⟩ : ∃ p : Int, p = (d : Int) * D := ⟨_, rfl⟩
      rw [← hp] at j3 hbig hmul
      obtain ⟨Y1, hY1⟩ : ∃ Y1, Y1 = Y.setCell ⟨P3, 0, none⟩ (.int .i64 (p + (D : Int))) := ⟨_, rfl⟩
      have hK1 : Keeps (· = P3) Y Y1 := by rw [hY1]; exact (Keeps.refl _ Y).setCell _ _ fun _ => rfl
      have k0 := j0.kept hK1 (by omega)
      have k1 := j1.kept hK1 (by omega)
      have k2 := j2.kept hK1 (by omega)
      have k4 := j4.kept hK1 (by omega)
      have kq := hCq.kept hK1 (by omega)
      have k3 : Blk Y1 P3 [.int .i64 (p + (D : Int))] 3 := by rw [hY1]; exact j3.setCell 0 _
      have hkY1 : Keeps (fun _ => False) w Y1 := hkY.trans hK1 fun b hb e => by omega
      have hrecs : Y1.heap[W0.heap.size]? = X0.heap[W0.heap.size]? ∧ Y1.heap[W0.heap.size + 1]? = X0.heap[W0.heap.size + 1]? := by
        have hK : Keeps (fun k => k = P4 ∨ k = q ∨ k = P3) X0 Y1 := ((hbK02.mono fun _ _ e => .inl e).trans hKX fun _ _ e => .inr (.inl e)).trans hK1 fun _ _ e => .inr (.inr e)
        exact ⟨hK.block _ (by omega) (by omega), hK.block _ (by omega) (by omega)⟩
      have HI : Hid (LivePost W0.heap.size X0 (WthI w sq N D xs ys (x + 1)) (WthX w D) .normal ⟨#[], []⟩ Y1) := by
        refine ⟨hrecs, hkY1, ?_, ?_, ?_, ?_, ?_⟩
        · rw [hz.2.1] at k0; exact k0
        · rw [hz.2.2.1] at k1; exact k1
        · rw [hz.2.2.2.1] at k2; exact k2
        · rw [hz.2.2.2.2.1] at k3; rw [hd1, show ((d + 1 : Nat) : Int) = (d : Int) + 1 by omega, hmul]; exact k3
        · rw [hz.2.2.2.2.2] at k4; rw [hd1, show ((d + 1 : Nat) : Int) = (d : Int) + 1 by omega]; exact k4
      have HR : Hid (LivePost W0.heap.size X0 (WthI w sq N D xs ys (x + 1)) (WthX w D) .ret ⟨#[], []⟩ (Y1.setCell ⟨P2, 0, none⟩ (.int .i64 ((D : Int) * D)))) := by
        have hKs : Keeps (· = P2) Y1 (Y1.setCell ⟨P2, 0, none⟩ (.int .i64 ((D : Int) * D))) := (Keeps.refl _ Y1).setCell _ _ fun _ => rfl
        have hs1 := hK1.size
        have hsX := hKX.size
        refine ⟨⟨(hKs.block _ (by omega) (by omega)).trans hrecs.1, (hKs.block _ (by omega) (by omega)).trans hrecs.2⟩, rfl, hkY1.trans hKs (fun b hb e => by omega), ?_⟩
        have h := k2.setCell 0 (.int .i64 ((D : Int) * D))
        rw [hz.2.2.2.1] at h ⊢
        exact h
      have cq := hCq.cell (i := 0) rfl
      have c3 := j3.cell (i := 0) rfl
      have f3 := j3.frozen 0
      have d1 := k1.cell (i := 0) rfl
      have d2 := k2.cell (i := 0) rfl
      have f2 := k2.frozen 0
      have d3 := k3.cell (i := 0) rfl
      have d4 := k4.cell (i := 0) rfl
      have dq := kq.cell (i := 0) rfl
      rw [hY1] at d1 d2 f2 d3 d4 dq HI HR
      have hb1 := hbig.1
      have hb2 := hbig.2.1
      have hw2 : IntKind.i64.wrap (((d : Int) + 1) * (D : Int)) = p + D := by rw [hmul, IntKind.wrap_i64]; omega
      have hw3 : IntKind.i64.wrap ((D : Int) * (D : Int)) = (D : Int) * D := by have := hbig.2.2; rw [IntKind.wrap_i64]; omega
      have hw1 : IntKind.i64.wrap (p + (D : Int)) = p + D := by rw [IntKind.wrap_i64]; omega
      have hnN : ¬ ((N : Int) < (d : Int) + 1) := by have := HND.out; omega
      clear hC hCq hbK02 hbk2 hbq hqX hX2s hb4 hb0 hb2 hb3 hd1 hW0X hz hKX j0 j1 j2 j3 j4 hkY hbig hmul hp hK1 k0 k1 k2 k3 k4 kq hkY1 hrecs hY1 hr2 c0 c4 f4 e0 HX1 HX2 HQ2
      by_cases h6 : (6 : Int) < (d : Int) + 1
      · by_cases h60 : (60 : Int) < (D : Int)
        · gi_wp2
          exact HR.out
        · gi_wp2
          exact HI.out
      · gi_wp2
        exact HI.out

end Go.Proofs.Ytljhdijledclhaa
