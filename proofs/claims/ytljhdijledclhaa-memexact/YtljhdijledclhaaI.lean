import Derived.Test.YtljhdijledclhaaH
namespace Go.Proofs.Ytljhdijledclhaa
open Go.RowKit Go.Shelf
attribute [local go_sem] Oper.semAt_some
set_option linter.unusedVariables false

theorem wpListIn_append_run {F : Fence} {n : Nat} {P : Program} {w : World} {ops : Array Oper} {rest : List Oper} {o : Oper} {a : Act} {Q : Exit → Act → World → Prop} (hgd : o.guard = none) (s x : Operand) (t k : TypeId)
    (ho : o.op = .call { callee := .builtin .append, args := #[s, x], argTypes := #[t, k] }) (vs vx v' : Value) (w' : World) (hs : a.eval s = vs) (hx : a.eval x = vx)
    (hr : ∀ ty, (Builtin.append_ #[t, k] ty #[vs, vx]).run P w = .ok v' w') (h : wpListIn F n P ops Q rest (a.put o.dst v') w') : wpListIn F n P ops Q (o :: rest) a w := by
  refine wpListIn_plain hgd fun K hK => ?_
  unfold Oper.wpIn
  refine ⟨?_, ?_⟩
  · simp [Oper.about, ho, resolve, Target.leads, Sem.run_pure]
  · rw [Oper.semAt_plain F _ _ (by rw [ho]; intro c hc'; cases hc')]
    simp [execOp, ho, resolve, invoke, builtin, hs, hx, hr, Result.andThen]
    exact hK _ _ h

theorem Try.info3 : (Try.prog.info? 3).map (fun i => (i.zero, i.size, i.bytes)) = some (some (.int .i64 0), 1, 8) := by kernel_rfl

/-- append(nil, x): a new row whose first is x. -/
theorem append_first (w : World) (g : Nat) (x : Int) (hg : w.cell? ⟨g, 0, none⟩ = some (.int .i64 x)) :
    ∃ cap W', (∀ ty, (Builtin.append_ #[62, 62] ty #[.slice none 0 0, .slice (some ⟨g, 0, none⟩) 1 1]).run Try.prog w = .ok (.slice (some ⟨w.heap.size, 0, none⟩) 1 cap) W') ∧
      W'.cell? ⟨w.heap.size, 0, none⟩ = some (.int .i64 x) ∧ Keeps (fun _ => False) w W' := by
  obtain ⟨i0, hi, hz0, hz1, hz2⟩ := info_parts Try.info3
  have h := fun ty => run_append_nil (P := Try.prog) w 62 ty 3 i0 (.int .i64 0) Try.underlying62 hi hz0 ⟨g, 0, none⟩ 1 1 [.int .i64 x] (by rw [hz1]; rfl) (by
    intro j v hj
    cases j with
    | zero => simp at hj; rw [addr_add, ← hj]; exact hg
    | succ j => simp at hj) (by omega) (by omega) (by rw [hz2]; omega)
  refine ⟨_, _, h, ?_, (Keeps.refl _ w).drew.alloc _⟩
  have hB := Blk.new w.drew ([.int .i64 x].toArray ++ Builtin.zeroCells (Value.int .i64 0).cells (grownCap w 1 0 3 - 1)) 3
  exact hB.cell (i := 0) (by simp)

theorem func_nil57 (w : World) (x y : Value) : (binOp .eql 57 (.func (.func 54) #[] #[x, y]) .nilFunc).run Try.prog w = .ok (.bool false) w := by kernel_rfl
theorem func_nil58 (w : World) (x y : Value) : (binOp .eql 58 (.func (.func 54) #[] #[x, y]) .nilFunc).run Try.prog w = .ok (.bool false) w := by kernel_rfl
attribute [local go_sem] func_nil57 func_nil58

def recB (H : Nat) : Nat → Prop := fun k => k = H ∨ k = H + 1

structure AlongI (w : World) (N p s : Nat) (W : World) : Prop where
  k : Keeps (fun _ => False) w W
  most : Blk W w.heap.size [.int .i64 N] 3
  out : (s ≤ p ∧ Blk W (w.heap.size + 1) [.slice none 0 0] 62) ∨ (p < s ∧ ∃ gg cap, w.heap.size + 4 ≤ gg ∧ Blk W (w.heap.size + 1) [.slice (some ⟨gg, 0, none⟩) 1 cap] 62 ∧ W.cell? ⟨gg, 0, none⟩ = some (.int .i64 p))

theorem cell_kept' {S : Nat → Prop} {w w' : World} {g o : Nat} {v : Value} (h : w.cell? ⟨g, o, none⟩ = some v) (hK : Keeps S w w') (hn : ¬ S g) : w'.cell? ⟨g, o, none⟩ = some v :=
  (World.cell?_of_block (a := ⟨g, o, none⟩) (hK.block g (World.block_lt_of_cell? w ⟨g, o, none⟩ h) hn)).trans h

theorem AlongI.kept {w : World} {N p s : Nat} {W W' : World} (h : AlongI w N p s W) (hK : Keeps (fun k => k = w.heap.size + 2 ∨ k = w.heap.size + 2 + 1) W W') : AlongI w N p s W' := by
  refine ⟨h.k.trans hK fun b hb e => by rcases e with e | e <;> omega, h.most.kept hK (fun e => by rcases e with e | e <;> omega), ?_⟩
  rcases h.out with ⟨h1, h2⟩ | ⟨h1, gg, cap, h2, h3, h4⟩
  · exact .inl ⟨h1, h2.kept hK fun e => by rcases e with e | e <;> omega⟩
  · exact .inr ⟨h1, gg, cap, h2, h3.kept hK (fun e => by rcases e with e | e <;> omega), cell_kept' h4 hK fun e => by rcases e with e | e <;> omega⟩

set_option maxRecDepth 20000 in
set_option maxHeartbeats 4000000 in
theorem along_one (B1 B2 b g c h p N : Nat) (xs ys : List UInt32) (w : World) (q1 : w.cell? ⟨B1, 0, none⟩ = some (.pointer (some ⟨b, 0, none⟩))) (q2 : w.cell? ⟨B2, 0, none⟩ = some (.pointer (some ⟨c, 0, none⟩)))
    (hx : Mm w b g xs) (hy : Mm w c h ys) (hN : 2 ≤ N) (hp : p < max xs.length ys.length) (hone : ∀ s, s < max xs.length ys.length → (Unl xs ys s ↔ s = p)) :
    Calls Try.prog 24 #[.func (.func 54) #[] #[.pointer (some ⟨B1, 0, none⟩), .pointer (some ⟨B2, 0, none⟩)], .int .i64 N] w fun e w' => ∃ gg cap, e = .returned (.slice (some ⟨gg, 0, none⟩) 1 cap) ∧ w'.cell? ⟨gg, 0, none⟩ = some (.int .i64 p) ∧ Keeps (fun _ => False) w w' := by
  have HQ : Hid (∀ W, Keeps (fun _ => False) w W → Two B1 B2 b g c h xs.length ys.length W) := fun W hK =>
    ⟨cell_kept' q1 hK fun e => e, cell_kept' q2 hK fun e => e, xs, ys, hx.kept hK (fun e => e) (fun e => e), hy.kept hK (fun e => e) (fun e => e), rfl, rfl⟩
  have HM : Hid (∀ W, Keeps (fun _ => False) w W → Mm W b g xs ∧ Mm W c h ys) := fun W hK => ⟨hx.kept hK (fun e => e) (fun e => e), hy.kept hK (fun e => e) (fun e => e)⟩
  have HO : Hid (∀ s, s < max xs.length ys.length → (Unl xs ys s ↔ s = p)) := hone
  have HPm : Hid (p < max xs.length ys.length) := hp
  have hN1 : ¬ ((N : Int) < 1) := by omega
  have hN2 : ((1 : Int) == (N : Int)) = false := by simp; omega
  clear q1 q2 hx hy hone hp
  refine (callsIn_wide (n := 8)).1 ?_
  refine callsIn_of_wp_marks Try.func24 rfl trivial ?_ rfl
  refine wpIn_wide.2 ?_
  simp only [Try.ntmps24, List.size_toArray, List.length_cons, List.length_nil, Nat.reduceAdd, Nat.reduceSub, Array.replicate_succ, Array.replicate_zero, List.push_toArray, List.append_toArray, List.nil_append, List.cons_append]
  go_wp2
  refine (wpIn_wide (n := 8)).1 ?_
  have h0 : AlongI w N p 0 ((w.alloc (Obj.cells #[Value.int IntKind.i64 ↑N] 3)).alloc (Obj.cells #[Value.slice none 0 0] 62)) := by
    have e1 := Blk.new w #[Value.int IntKind.i64 ↑N] 3
    have e2 := Blk.new (w.alloc (Obj.cells #[Value.int IntKind.i64 ↑N] 3)) #[Value.slice none 0 0] 62
    rw [World.size_alloc] at e2
    exact ⟨((Keeps.refl _ w).alloc _).alloc _, e1.alloc _, .inl ⟨Nat.zero_le _, e2⟩⟩
  have hsz : ((w.alloc (Obj.cells #[Value.int IntKind.i64 ↑N] 3)).alloc (Obj.cells #[Value.slice none 0 0] 62)).heap.size = w.heap.size + 2 := by simp
  revert h0 hsz
  generalize (w.alloc (Obj.cells #[Value.int IntKind.i64 ↑N] 3)).alloc (Obj.cells #[Value.slice none 0 0] 62) = W0
  intro h0 hsz
  have HZ : Hid (W0.heap.size = w.heap.size + 2) := hsz
  have kp : ∀ s W W', Keeps (fun k => k = W0.heap.size ∨ k = W0.heap.size + 1) W W' → AlongI w N p s W → AlongI w N p s W' := fun s W W' hK h => h.kept (by rw [← HZ.out]; exact hK)
  refine range_live (σ := Nat) (α := Nat) rfl (by omega) (gf := 54) (lb := #[.pointer (some ⟨B1, 0, none⟩), .pointer (some ⟨B2, 0, none⟩)]) rfl trivial (enters_of Try.func54 (by kernel_rfl) rfl)
    (differ_tells 7 B1 B2 b g c h xs.length ys.length) (fun _ => rfl) (AlongI w N p) (fun _ _ => False) kp
    (fun s x W W' hK hi ht => ⟨ht.1, ht.2.1, fun us vs hu hv => by
      have e1 := (HM.out W hi.k).1
      have e2 := (HM.out W hi.k).2
      have f1 := (HM.out W' (kp s W W' hK hi).k).1
      have f2 := (HM.out W' (kp s W W' hK hi).k).2
      rw [← (f1.inj hu).2, ← (f2.inj hv).2]
      exact ht.2.2 xs ys e1 e2⟩)
    (fun _ _ _ _ h => h) (fun s W hi => HQ.out W hi.k)
    (fun s s' W hi hs => by
      obtain ⟨rfl, hlt, hn⟩ := hs
      have e1 := (HM.out W hi.k)
      have hne : ¬ s = p := fun e => hn xs ys e1.1 e1.2 ((HO.out s hlt).2 e)
      refine ⟨hi.k, hi.most, ?_⟩
      rcases hi.out with ⟨a1, a2⟩ | ⟨a1, a2⟩
      · exact .inl ⟨by omega, a2⟩
      · exact .inr ⟨by omega, a2⟩)
    h0
    (fun x => { tmps := #[Value.func (Fn.func 54) #[] #[Value.pointer (some { block := B1, off := 0 }), Value.pointer (some { block := B2, off := 0 })],
          Value.int IntKind.i64 ↑N, undef, Value.pointer (some { block := w.heap.size, off := 0 }),
          Value.slice none 0 0, Value.pointer (some { block := w.heap.size + 1, off := 0 }), .int .i64 (x : Int),
          Value.func (Fn.func 54) #[] #[Value.pointer (some { block := B1, off := 0 }), Value.pointer (some { block := B2, off := 0 })],
          Value.bool false, undef, Value.int IntKind.i64 ↑N, Value.bool false, undef,
          Value.func (Fn.func 54) #[] #[Value.pointer (some { block := B1, off := 0 }), Value.pointer (some { block := B2, off := 0 })],
          .int .i64 (x : Int), undef, undef, undef, undef, undef, undef, undef, undef, undef], defers := [] }) ?assign ?body ?done ?stop
  case assign =>
    intro l x W K hK
    unfold encD
    gi_wp2
    exact hK
  case body =>
    rintro l s x W hlt hi ⟨hxs, hsm, hun⟩
    have hsp : s = p := (HO.out s hsm).1 (hun xs ys (HM.out W hi.k).1 (HM.out W hi.k).2)
    have hxp : x = p := hxs.trans hsp
    rcases hi.out with ⟨a1, hout⟩ | ⟨a1, _⟩
    · have hnew := Blk.new W #[.int .i64 (x : Int)] 3
      obtain ⟨cap, W2, hr, hc2, hK2⟩ := append_first (W.alloc (.cells #[.int .i64 (x : Int)] 3)) W.heap.size x (hnew.cell (i := 0) rfl)
      rw [World.size_alloc] at hr hc2
      have hK3 : Keeps (fun _ => False) W W2 := ((Keeps.refl _ W).alloc _).trans hK2 fun _ _ e => e
      have hout2 := hout.kept hK3 fun e => e
      have hmost2 := hi.most.kept hK3 fun e => e
      have c5 := hout.cell (i := 0) rfl
      have c52 := hout2.cell (i := 0) rfl
      have z52 := hout2.frozen 0
      have cm2 := hmost2.cell (i := 0) rfl
      have HR : Hid (∀ ty, _) := hr
      have hszW : w.heap.size + 3 < W.heap.size := by rw [hsz] at hlt; omega
      have HF : Hid ((((W2.setCell ⟨w.heap.size + 1, 0, none⟩ (.slice (some ⟨W.heap.size + 1, 0, none⟩) 1 cap)).heap[W0.heap.size]? = W.heap[W0.heap.size]? ∧ (W2.setCell ⟨w.heap.size + 1, 0, none⟩ (.slice (some ⟨W.heap.size + 1, 0, none⟩) 1 cap)).heap[W0.heap.size + 1]? = W.heap[W0.heap.size + 1]?)) ∧
          AlongI w N p (s + 1) (W2.setCell ⟨w.heap.size + 1, 0, none⟩ (.slice (some ⟨W.heap.size + 1, 0, none⟩) 1 cap))) := by
        have hK4 : Keeps (· = w.heap.size + 1) W (W2.setCell ⟨w.heap.size + 1, 0, none⟩ (.slice (some ⟨W.heap.size + 1, 0, none⟩) 1 cap)) := (hK3.mono fun _ _ e => e.elim).setCell _ _ fun _ => rfl
        refine ⟨⟨hK4.block _ (by omega) (by omega), hK4.block _ (by omega) (by omega)⟩, hi.k.trans hK4 fun b hb e => by omega, hi.most.kept hK4 (by omega), .inr ⟨by omega, W.heap.size + 1, cap, by omega, hout2.setCell 0 _, ?_⟩⟩
        rw [← hxp, World.cell?_of_block (w := W2) (Below.heap_setCell W2 _ _ _ (by show W.heap.size + 1 ≠ w.heap.size + 1; omega))]
        exact hc2
      clear hxs hsp hxp hun hsm hi a1 hout hnew hr hc2 hK2 hK3 hout2 hmost2 h0 kp hszW hlt
      gi_wp2_with (gi_at_builtin; refine wpListIn_append_run rfl (.tmp 15) (.tmp 17) 62 62 rfl (.slice none 0 0) (.slice (some ⟨W.heap.size, 0, none⟩) 1 1) (.slice (some ⟨W.heap.size + 1, 0, none⟩) 1 cap) W2 rfl rfl HR.out ?_)
      exact HF.out
    · omega
  case done =>
    rintro s W hf hi hD
    rcases hi.out with ⟨a1, _⟩ | ⟨a1, gg, cap, hgg, hout, hcell⟩
    · exact absurd HPm.out (by omega)
    · have c5 := hout.cell (i := 0) rfl
      have HK : Hid (Keeps (fun _ => False) w W) := hi.k
      have HC : Hid (W.cell? ⟨gg, 0, none⟩ = some (.int .i64 p)) := hcell
      have hgg' : gg ≠ W0.heap.size := by omega
      have HGG : Hid (gg ≠ W0.heap.size) := hgg'
      clear hi hout hcell a1 hgg hf kp h0 hgg'
      gi_wp2
      go_wp2
      have hKf : Keeps (· = W0.heap.size) W (W.putObj W0.heap.size (.deferred none)) := ⟨rfl, rfl, rfl, by simp, fun k _ hn => World.putObj_heap_other hn⟩
      refine ⟨by simp, .inl ⟨_, _, rfl, run_takeDeferred hD, ?_⟩⟩
      exact ⟨_, results_tmp rfl _ _ _, gg, cap, rfl, cell_kept' HC.out hKf HGG.out, HK.out.trans hKf fun b hb e => by have := HZ.out; omega⟩
  case stop =>
    rintro c W h _
    exact h.elim

end Go.Proofs.Ytljhdijledclhaa
