import Derived.Test.YtljhdijledclhaaRf
import Derived.Test.YtljhdijledclhaaI
namespace Go.Proofs.Ytljhdijledclhaa
open Go.RowKit Go.Shelf
attribute [local go_sem] Oper.semAt_some
attribute [local go_sem] func_nil57 func_nil58
set_option linter.unusedVariables false

theorem dfi_add (xs ys : List UInt32) (s d : Nat) : ∃ r, dfi xs ys (s + d) = dfi xs ys s ++ r := by
  induction d with
  | zero => exact ⟨[], by simp⟩
  | succ d ih =>
    obtain ⟨r, hr⟩ := ih
    by_cases h : Unl xs ys (s + d)
    · exact ⟨r ++ [((s + d : Nat) : Int)], by rw [← Nat.add_assoc, dfi_yes h, hr, List.append_assoc]⟩
    · exact ⟨r, by rw [← Nat.add_assoc, dfi_no h, hr]⟩
theorem dfi_take {xs ys : List UInt32} {s m : Nat} (h : s ≤ m) : (dfi xs ys m).take (dfi xs ys s).length = dfi xs ys s := by
  obtain ⟨r, hr⟩ := dfi_add xs ys s (m - s)
  rw [show s + (m - s) = m by omega] at hr
  rw [hr]; simp

/-- What along keeps between two rounds. -/
structure AlgI (w : World) (N : Nat) (xs ys : List UInt32) (s : Nat) (W : World) : Prop where
  k : Keeps (fun _ => False) w W
  most : Blk W w.heap.size [.int .i64 N] 3
  out : ∃ v, Blk W (w.heap.size + 1) [v] 62 ∧ W.ownsRow 0 3 1 v (dfi xs ys s).length (ivs (dfi xs ys s)) ∧ ∀ k, v.ownBlock = some k → w.heap.size + 4 ≤ k
  low : (dfi xs ys s).length < N

/-- What it leaves when it breaks off. -/
def AlgX (w : World) (N : Nat) (xs ys : List UInt32) (c : Code) (W : World) : Prop :=
  c = .exit 0 ∧ ∃ s v, s ≤ max xs.length ys.length ∧ (dfi xs ys s).length = N ∧ Keeps (fun _ => False) w W ∧ Blk W (w.heap.size + 1) [v] 62 ∧ W.ownsRow 0 3 1 v (dfi xs ys s).length (ivs (dfi xs ys s)) ∧ ∀ k, v.ownBlock = some k → w.heap.size + 4 ≤ k

theorem AlgI.kept {w : World} {N : Nat} {xs ys : List UInt32} {s : Nat} {W W' : World} (h : AlgI w N xs ys s W) (hK : Keeps (fun k => k = w.heap.size + 2 ∨ k = w.heap.size + 2 + 1) W W') : AlgI w N xs ys s W' := by
  obtain ⟨v, h1, h2, h3⟩ := h.out
  exact ⟨h.k.trans hK fun b hb e => by rcases e with e | e <;> omega, h.most.kept hK (fun e => by rcases e with e | e <;> omega),
    ⟨v, h1.kept hK (fun e => by rcases e with e | e <;> omega), owns_kept h2 hK (fun k hk e => by have := h3 k hk; rcases e with e | e <;> omega), h3⟩, h.low⟩
theorem AlgX.kept {w : World} {N : Nat} {xs ys : List UInt32} {c : Code} {W W' : World} (h : AlgX w N xs ys c W) (hK : Keeps (fun k => k = w.heap.size + 2 ∨ k = w.heap.size + 2 + 1) W W') : AlgX w N xs ys c W' := by
  obtain ⟨hc, s, v, hs, hl, hk, h1, h2, h3⟩ := h
  exact ⟨hc, s, v, hs, hl, hk.trans hK (fun b hb e => by rcases e with e | e <;> omega), h1.kept hK (fun e => by rcases e with e | e <;> omega), owns_kept h2 hK (fun k hk e => by have := h3 k hk; rcases e with e | e <;> omega), h3⟩

set_option maxRecDepth 20000 in
set_option maxHeartbeats 4000000 in
theorem along_any (B1 B2 b g c h N : Nat) (xs ys : List UInt32) (w : World) (q1 : w.cell? ⟨B1, 0, none⟩ = some (.pointer (some ⟨b, 0, none⟩))) (q2 : w.cell? ⟨B2, 0, none⟩ = some (.pointer (some ⟨c, 0, none⟩)))
    (hx : Mm w b g xs) (hy : Mm w c h ys) (hN : 1 ≤ N) :
    Calls Try.prog 24 #[.func (.func 54) #[] #[.pointer (some ⟨B1, 0, none⟩), .pointer (some ⟨B2, 0, none⟩)], .int .i64 N] w fun e w' => ∃ a k, e = .returned (.slice a ((dfi xs ys (max xs.length ys.length)).take N).length k) ∧ OwnI w w' (.slice a ((dfi xs ys (max xs.length ys.length)).take N).length k) ((dfi xs ys (max xs.length ys.length)).take N) := by
  have HQ : Hid (∀ W, Keeps (fun _ => False) w W → Two B1 B2 b g c h xs.length ys.length W) := fun W hK =>
    ⟨cell_kept' q1 hK fun e => e, cell_kept' q2 hK fun e => e, xs, ys, hx.kept hK (fun e => e) (fun e => e), hy.kept hK (fun e => e) (fun e => e), rfl, rfl⟩
  have HM : Hid (∀ W, Keeps (fun _ => False) w W → Mm W b g xs ∧ Mm W c h ys) := fun W hK => ⟨hx.kept hK (fun e => e) (fun e => e), hy.kept hK (fun e => e) (fun e => e)⟩
  have HSm : Hid (max xs.length ys.length ≤ 16384) := by have := hx.small; have := hy.small; show max xs.length ys.length ≤ 16384; omega
  have hN1 : ¬ ((N : Int) < 1) := by omega
  have HN0 : Hid (1 ≤ N) := hN
  clear q1 q2 hx hy hN
  refine (callsIn_wide (n := 8)).1 ?_
  refine callsIn_of_wp_marks Try.func24 rfl trivial ?_ rfl
  refine wpIn_wide.2 ?_
  simp only [Try.ntmps24, List.size_toArray, List.length_cons, List.length_nil, Nat.reduceAdd, Nat.reduceSub, Array.replicate_succ, Array.replicate_zero, List.push_toArray, List.append_toArray, List.nil_append, List.cons_append]
  go_wp2
  refine (wpIn_wide (n := 8)).1 ?_
  have h0 : AlgI w N xs ys 0 ((w.alloc (Obj.cells #[Value.int IntKind.i64 ↑N] 3)).alloc (Obj.cells #[Value.slice none 0 0] 62)) := by
    have e1 := Blk.new w #[Value.int IntKind.i64 ↑N] 3
    have e2 := Blk.new (w.alloc (Obj.cells #[Value.int IntKind.i64 ↑N] 3)) #[Value.slice none 0 0] 62
    rw [World.size_alloc] at e2
    exact ⟨((Keeps.refl _ w).alloc _).alloc _, e1.alloc _, ⟨.slice none 0 0, e2, ⟨by simp [ivs, dfi_zero], .inl ⟨rfl, rfl⟩⟩, fun k e => by cases e⟩, HN0.out⟩
  have hsz : ((w.alloc (Obj.cells #[Value.int IntKind.i64 ↑N] 3)).alloc (Obj.cells #[Value.slice none 0 0] 62)).heap.size = w.heap.size + 2 := by simp
  revert h0 hsz
  generalize (w.alloc (Obj.cells #[Value.int IntKind.i64 ↑N] 3)).alloc (Obj.cells #[Value.slice none 0 0] 62) = W0
  intro h0 hsz
  have HZ : Hid (W0.heap.size = w.heap.size + 2) := hsz
  have kp : ∀ s W W', Keeps (fun k => k = W0.heap.size ∨ k = W0.heap.size + 1) W W' → AlgI w N xs ys s W → AlgI w N xs ys s W' := fun s W W' hK h => h.kept (by rw [← HZ.out]; exact hK)
  have kx : ∀ c W W', Keeps (fun k => k = W0.heap.size ∨ k = W0.heap.size + 1) W W' → AlgX w N xs ys c W → AlgX w N xs ys c W' := fun s W W' hK h => h.kept (by rw [← HZ.out]; exact hK)
  refine range_live (σ := Nat) (α := Nat) rfl (by omega) (gf := 54) (lb := #[.pointer (some ⟨B1, 0, none⟩), .pointer (some ⟨B2, 0, none⟩)]) rfl trivial (enters_of Try.func54 (by kernel_rfl) rfl)
    (differ_tells 7 B1 B2 b g c h xs.length ys.length) (fun _ => rfl) (AlgI w N xs ys) (AlgX w N xs ys) kp
    (fun s x W W' hK hi ht => ⟨ht.1, ht.2.1, fun us vs hu hv => by
      have e1 := (HM.out W hi.k).1
      have e2 := (HM.out W hi.k).2
      have f1 := (HM.out W' (kp s W W' hK hi).k).1
      have f2 := (HM.out W' (kp s W W' hK hi).k).2
      rw [← (f1.inj hu).2, ← (f2.inj hv).2]
      exact ht.2.2 xs ys e1 e2⟩)
    kx (fun s W hi => HQ.out W hi.k)
    (fun s s' W hi hs => by
      obtain ⟨rfl, hlt, hn⟩ := hs
      have e1 := (HM.out W hi.k)
      have hno : ¬ Unl xs ys s := hn xs ys e1.1 e1.2
      have ho := hi.out
      have hl := hi.low
      rw [← dfi_no hno] at ho hl
      exact ⟨hi.k, hi.most, ho, hl⟩)
    h0
    (fun x => { tmps := #[Value.func (Fn.func 54) #[] #[Value.pointer (some { block := B1, off := 0 }), Value.pointer (some { block := B2, off := 0 })],
          Value.int IntKind.i64 ↑N, undef, Value.pointer (some { block := w.heap.size, off := 0 }),
          Value.slice none 0 0, Value.pointer (some { block := w.heap.size + 1, off := 0 }), .int .i64 (x : Int),
          Value.func (Fn.func 54) #[] #[Value.pointer (some { block := B1, off := 0 }), Value.pointer (some { block := B2, off := 0 })],
          Value.bool false, undef, Value.int IntKind.i64 ↑N, Value.bool false, undef,
          Value.func (Fn.func 54) #[] #[Value.pointer (some { block := B1, off := 0 }), Value.pointer (some { block := B2, off := 0 })],
          .int .i64 (x : Int), undef, undef, undef, undef, undef, undef, undef, undef, undef], defers := [] }) ?assign ?body ?done ?stop
  case assign =>
    intro l x W K hK
    unfold encD
    gi_wp2
    exact hK
  case body =>
    rintro l s x W hlt hi ⟨hxs, hsm, hun⟩
    subst hxs
    have hyes : Unl xs ys x := hun xs ys (HM.out W hi.k).1 (HM.out W hi.k).2
    obtain ⟨v, hout, hown, hnew⟩ := hi.out
    have hlen := dfi_len xs ys x
    have hx16 : x ≤ 16384 := by have := HSm.out; omega
    obtain ⟨v', W2, hr, hown2, hgr⟩ := append_int (x : Int) v _ _ hown (by omega)
    obtain ⟨av, cv, rfl, -, -⟩ := owns_slice hown
    obtain ⟨av', cv', hv', -, -⟩ := owns_slice hown2
    have hszW : w.heap.size + 3 < W.heap.size := by rw [hsz] at hlt; omega
    have hK3 : Keeps (fun k => w.heap.size + 4 ≤ k) W W2 := hgr.keeps.mono fun k _ e => hnew k e.symm
    have hout2 := hout.kept hK3 (by omega)
    have hmost2 := hi.most.kept hK3 (by omega)
    have c5 := hout.cell (i := 0) rfl
    have z52 := hout2.frozen 0
    have c52 := hout2.cell (i := 0) rfl
    have hKs : Keeps (· = w.heap.size + 1) W2 (W2.setCell ⟨w.heap.size + 1, 0, none⟩ v') := (Keeps.refl _ W2).setCell _ _ fun _ => rfl
    have hmost3 := hmost2.kept hKs (by omega)
    have hout3 := hout2.setCell 0 v'
    have cm3 := hmost3.cell (i := 0) rfl
    have c53 := hout3.cell (i := 0) (v := v') rfl
    have hnew' : ∀ k, v'.ownBlock = some k → w.heap.size + 4 ≤ k := by
      intro k hk
      rcases hgr.fresh with e | ⟨q, e, hq⟩
      · exact hnew k (by rw [← e]; exact hk)
      · rw [e] at hk; cases hk; omega
    have hd : ivs (dfi xs ys x) ++ [.int .i64 (x : Int)] = ivs (dfi xs ys (x + 1)) := by rw [dfi_yes hyes, ivs_append]; rfl
    have hdl : (dfi xs ys x).length + 1 = (dfi xs ys (x + 1)).length := by rw [dfi_yes hyes]; simp
    rw [hd, hdl] at hown2
    have hown3 := owns_kept hown2 hKs (fun k hk e => by have := hnew' k hk; omega)
    have hK4 : Keeps (fun k => k = w.heap.size + 1 ∨ w.heap.size + 4 ≤ k) W (W2.setCell ⟨w.heap.size + 1, 0, none⟩ v') := (hK3.mono fun _ _ e => .inr e).trans hKs fun _ _ e => .inl e
    have hK5 : Keeps (fun _ => False) w (W2.setCell ⟨w.heap.size + 1, 0, none⟩ v') := hi.k.trans hK4 fun b hb e => by rcases e with e | e <;> omega
    have hBB : (W2.setCell ⟨w.heap.size + 1, 0, none⟩ v').heap[W0.heap.size]? = W.heap[W0.heap.size]? ∧ (W2.setCell ⟨w.heap.size + 1, 0, none⟩ v').heap[W0.heap.size + 1]? = W.heap[W0.heap.size + 1]? :=
      ⟨hK4.block _ (by omega) (by omega), hK4.block _ (by omega) (by omega)⟩
    have hlow := hi.low
    by_cases hstop : (dfi xs ys (x + 1)).length = N
    · have HF : Hid ((((W2.setCell ⟨w.heap.size + 1, 0, none⟩ v').heap[W0.heap.size]? = W.heap[W0.heap.size]? ∧ (W2.setCell ⟨w.heap.size + 1, 0, none⟩ v').heap[W0.heap.size + 1]? = W.heap[W0.heap.size + 1]?)) ∧
          AlgX w N xs ys (.exit 0) (W2.setCell ⟨w.heap.size + 1, 0, none⟩ v')) :=
        ⟨hBB, rfl, x + 1, v', by omega, hstop, hK5, hout3, hown3, hnew'⟩
      have hN2 : ((((dfi xs ys x).length : Int) + 1) == (N : Int)) = true := by rw [beq_iff_eq]; omega
      have hN3 : ((((dfi xs ys x).length + 1 : Nat) : Int) == (N : Int)) = true := by rw [beq_iff_eq]; omega
      rw [hv'] at hr c53 cm3 HF
      obtain ⟨nv, hnv⟩ : ∃ n, n = (dfi xs ys x).length := ⟨_, rfl⟩
      rw [← hnv] at hr c5 c52 c53 cm3 HF hN2 hN3
      have HR : Hid (∀ ty, _) := hr
      clear hyes hun hsm hi hout hown hnew hlen hx16 hr hown2 hgr hv' hK3 hout2 hmost2 hKs hmost3 hout3 hnew' hd hdl hown3 hK4 hK5 hBB hlow hstop hnv h0 kp kx hszW hlt
      gi_wp2_with (gi_at_builtin; refine wpListIn_append_run rfl (.tmp 15) (.tmp 17) 62 62 rfl (.slice av nv cv) (.slice (some ⟨W.heap.size, 0, none⟩) 1 1) (.slice av' (nv + 1) cv') W2 rfl rfl HR.out ?_)
      exact HF.out
    · have HF : Hid ((((W2.setCell ⟨w.heap.size + 1, 0, none⟩ v').heap[W0.heap.size]? = W.heap[W0.heap.size]? ∧ (W2.setCell ⟨w.heap.size + 1, 0, none⟩ v').heap[W0.heap.size + 1]? = W.heap[W0.heap.size + 1]?)) ∧
          AlgI w N xs ys (x + 1) (W2.setCell ⟨w.heap.size + 1, 0, none⟩ v')) :=
        ⟨hBB, hK5, hmost3, ⟨v', hout3, hown3, hnew'⟩, by omega⟩
      have hN2 : ((((dfi xs ys x).length : Int) + 1) == (N : Int)) = false := by rw [beq_eq_false_iff_ne]; omega
      have hN3 : ((((dfi xs ys x).length + 1 : Nat) : Int) == (N : Int)) = false := by rw [beq_eq_false_iff_ne]; omega
      rw [hv'] at hr c53 cm3 HF
      obtain ⟨nv, hnv⟩ : ∃ n, n = (dfi xs ys x).length := ⟨_, rfl⟩
      rw [← hnv] at hr c5 c52 c53 cm3 HF hN2 hN3
      have HR : Hid (∀ ty, _) := hr
      clear hyes hun hsm hi hout hown hnew hlen hx16 hr hown2 hgr hv' hK3 hout2 hmost2 hKs hmost3 hout3 hnew' hd hdl hown3 hK4 hK5 hBB hlow hstop hnv h0 kp kx hszW hlt
      gi_wp2_with (gi_at_builtin; refine wpListIn_append_run rfl (.tmp 15) (.tmp 17) 62 62 rfl (.slice av nv cv) (.slice (some ⟨W.heap.size, 0, none⟩) 1 1) (.slice av' (nv + 1) cv') W2 rfl rfl HR.out ?_)
      exact HF.out
  case done =>
    rintro s W hf hi hD
    subst hf
    obtain ⟨v, hout, hown, hnew⟩ := hi.out
    obtain ⟨av, cv, rfl, -, -⟩ := owns_slice hown
    have c5 := hout.cell (i := 0) rfl
    have HL : Hid ((dfi xs ys (max xs.length ys.length)).take N = dfi xs ys (max xs.length ys.length)) := List.take_of_length_le (by have := hi.low; omega)
    have HK : Hid (Keeps (fun _ => False) w W ∧ W.ownsRow 0 3 1 (.slice av (dfi xs ys (max xs.length ys.length)).length cv) (dfi xs ys (max xs.length ys.length)).length (ivs (dfi xs ys (max xs.length ys.length))) ∧ ∀ k, (Value.slice av (dfi xs ys (max xs.length ys.length)).length cv).ownBlock = some k → w.heap.size + 4 ≤ k) := ⟨hi.k, hown, hnew⟩
    clear hi hout hown hnew kp kx h0
    obtain ⟨nd, hnd⟩ : ∃ n, n = (dfi xs ys (max xs.length ys.length)).length := ⟨_, rfl⟩
    rw [← hnd] at c5
    gi_wp2
    go_wp2
    have hKf : Keeps (· = W0.heap.size) W (W.putObj W0.heap.size (.deferred none)) := ⟨rfl, rfl, rfl, by simp, fun k _ hn => World.putObj_heap_other hn⟩
    refine ⟨by simp, .inl ⟨_, _, rfl, run_takeDeferred hD, ?_⟩⟩
    subst hnd
    have hz := HZ.out
    rw [HL.out]
    exact ⟨_, results_tmp rfl _ _ _, av, cv, rfl, owns_kept HK.out.2.1 hKf (fun k hk e => by have := HK.out.2.2 k hk; omega), fun k hk => by have := HK.out.2.2 k hk; omega, HK.out.1.trans hKf fun b hb e => by omega⟩
  case stop =>
    rintro cc W ⟨rfl, s, v, hs, hl, hk, hout, hown, hnew⟩ hD
    obtain ⟨av, cv, rfl, -, -⟩ := owns_slice hown
    have c5 := hout.cell (i := 0) rfl
    have HL : Hid ((dfi xs ys (max xs.length ys.length)).take N = dfi xs ys s) := by rw [← hl]; exact dfi_take hs
    have HK : Hid (Keeps (fun _ => False) w W ∧ W.ownsRow 0 3 1 (.slice av (dfi xs ys s).length cv) (dfi xs ys s).length (ivs (dfi xs ys s)) ∧ ∀ k, (Value.slice av (dfi xs ys s).length cv).ownBlock = some k → w.heap.size + 4 ≤ k) := ⟨hk, hown, hnew⟩
    clear hk hout hown hnew kp kx h0 hl hs
    obtain ⟨nd, hnd⟩ : ∃ n, n = (dfi xs ys s).length := ⟨_, rfl⟩
    rw [← hnd] at c5
    gi_wp2
    go_wp2
    have hKf : Keeps (· = W0.heap.size) W (W.putObj W0.heap.size (.deferred none)) := ⟨rfl, rfl, rfl, by simp, fun k _ hn => World.putObj_heap_other hn⟩
    refine ⟨by simp, .inl ⟨_, _, rfl, run_takeDeferred hD, ?_⟩⟩
    subst hnd
    have hz := HZ.out
    rw [HL.out]
    exact ⟨_, results_tmp rfl _ _ _, av, cv, rfl, owns_kept HK.out.2.1 hKf (fun k hk e => by have := HK.out.2.2 k hk; omega), fun k hk => by have := HK.out.2.2 k hk; omega, HK.out.1.trans hKf fun b hb e => by omega⟩

end Go.Proofs.Ytljhdijledclhaa
