import Derived.Test.YtipejahmjdamjaaGreatDoorTlLz
import Derived.Test.YtipejahmjdamjaaGreatDoorTlB
import Derived.ProofKit
import Derived.OpenShut
import Derived.ChangeOld
import Derived.ChangeSlices
import Derived.Deep.Slices
import Derived.Deep.Strs
namespace Go.Proofs.YtipejahmjdamjaaGreatDoor.Tl
open Go.RowKit Go.Shelf
attribute [local go_sem] Oper.semAt_some
set_option linter.unusedVariables false
set_option maxRecDepth 6000
set_option linter.unusedSimpArgs false

theorem Tryz.info64 : (Tryz.prog.info? 64).map (fun i => (i.zero, i.size, i.bytes)) = some (some (.agg #[.int .i64 0, .int .i64 0, .int .i64 0]), 3, 24) := by kernel_rfl

def flatL (ls : List Lf) : List Value := ls.flatMap Lf.vs
theorem flatL_append (a b : List Lf) : flatL (a ++ b) = flatL a ++ flatL b := by simp [flatL]
theorem flatL_one (l : Lf) : flatL [l] = l.vs := by simp [flatL]
theorem flatL_length (ls : List Lf) : (flatL ls).length = ls.length * 3 := by
  induction ls with
  | nil => rfl
  | cons p r ih => simp [flatL] at ih ⊢; omega
theorem flatL_get (ls : List Lf) (i : Nat) (l : Lf) (h : ls[i]? = some l) : (flatL ls)[i * 3]? = some (.int .i64 l.p) ∧ (flatL ls)[i * 3 + 1]? = some (.int .i64 l.f) ∧ (flatL ls)[i * 3 + 2]? = some (.int .i64 l.r) := by
  induction ls generalizing i with
  | nil => simp at h
  | cons q r ih =>
    cases i with
    | zero => simp at h; subst h; simp [flatL]
    | succ i =>
      have := ih i (by simpa using h)
      have e1 : (i + 1) * 3 = i * 3 + 1 + 1 + 1 := by omega
      rw [e1]
      simpa [flatL] using this

theorem append_leaf {w : World} (l : Lf) (v : Value) (n : Nat) (vs : List Value) (hown : w.ownsRow 0 64 3 v n vs) (hn : n ≤ 4294967296) :
    ∃ v' W', (∀ ty, (Builtin.append_ #[42, 42] ty #[v, .slice (some ⟨w.heap.size, 0, none⟩) 1 1]).run Tryz.prog (w.alloc (.cells #[.int .i64 l.p, .int .i64 l.f, .int .i64 l.r] 64)) = .ok v' W') ∧ W'.ownsRow 0 64 3 v' (n + 1) (vs ++ l.vs) ∧ Grew w v W' v' := by
  obtain ⟨i0, hi, hz0, hz1, hz2⟩ := info_parts Tryz.info64
  obtain ⟨v', W', h1, h2, h3, h4⟩ := append_new 42 64 i0 (.agg #[.int .i64 0, .int .i64 0, .int .i64 0]) 3 24 Tryz.underlying42 hi hz0 hz1 hz2 rfl (by omega) v n vs hown #[.int .i64 l.p, .int .i64 l.f, .int .i64 l.r] rfl (by
    intro y hy
    simp at hy
    rcases hy with rfl | rfl | rfl <;> rfl) (by unfold maxLen; omega) (by omega)
  exact ⟨v', W', h1, h2, h3, h4⟩

theorem owns_lt {w : World} {e : TypeId} {size n g : Nat} {v : Value} {vs : List Value} (h : w.ownsRow 0 e size v n vs) (hg : v.ownBlock = some g) : g < w.heap.size := by
  rcases h.2 with ⟨rfl, _⟩ | ⟨g', cap, cur, rfl, _, hgg, _⟩
  · simp [Value.ownBlock] at hg
  · simp [Value.ownBlock] at hg
    subst hg
    exact (Array.getElem?_eq_some_iff.1 hgg).1

def mark (b : Nat) : Deferred := { target := .collected b, args := #[] }
/-- These blocks are marks that hold no call. -/
def Marks (W : World) (bs : List Nat) : Prop := bs.Nodup ∧ ∀ b ∈ bs, W.heap[b]? = some (.deferred (some []))

theorem leaves_marks {fn : Func} {tmps : Array Value} {R : Ending → World → Prop} {F : Fence} {n : Nat} {P : Program} : ∀ (bs : List Nat) (w : World), Marks w bs →
    (∀ w', Keeps (· ∈ bs) w w' → LeavesIn F n P fn tmps R [] .returning w') → LeavesInM F n P fn tmps R (bs.map mark) .returning w
  | [], w, _, h => h w (Keeps.refl _ _)
  | b :: bs, w, hm, h => by
    have hb := hm.2 b (by simp)
    have hn := List.nodup_cons.1 hm.1
    have hK : Keeps (· = b) w (w.putObj b (.deferred none)) := ⟨rfl, rfl, rfl, by simp, fun k _ hne => World.putObj_heap_other hne⟩
    refine ⟨by simp, .inl ⟨b, _, rfl, run_takeDeferred hb, ?_⟩⟩
    refine leaves_marks bs _ ⟨hn.2, fun d hd => ?_⟩ fun w' hK' => h w' ?_
    · have hdb : d ≠ b := fun e => hn.1 (e ▸ hd)
      exact (hK.block d (Array.getElem?_eq_some_iff.1 (hm.2 d (by simp [hd]))).1 hdb).trans (hm.2 d (by simp [hd]))
    · exact (hK.mono fun k _ he => by simp [he]).trans hK' fun k _ he => by simp [he]

def noDefer (ops : Array Oper) : Bool := ops.all fun o => match o.op with | .defer _ => false | _ => true
theorem noDefer_of {ops : Array Oper} (h : noDefer ops = true) : ∀ (i : Nat) (o : Oper), ops[i]? = some o → ∀ (c : Call), o.op ≠ .defer c := by
  intro i o ho c hc
  unfold noDefer at h
  rw [Array.all_eq_true] at h
  obtain ⟨hi, he⟩ := Array.getElem?_eq_some_iff.1 ho
  have := h i hi
  rw [he, hc] at this
  simp at this

theorem wp_append_run {o : Oper} {a : Act} {K : Act → World → Prop} {Q : Exit → Act → World → Prop} {P : Program} {w : World} (s x : Operand) (t k : TypeId)
    (ho : o.op = .call { callee := .builtin .append, args := #[s, x], argTypes := #[t, k] }) (vs vx v' : Value) (w' : World) (hs : a.eval s = vs) (hx : a.eval x = vx)
    (hr : ∀ ty, (Builtin.append_ #[t, k] ty #[vs, vx]).run P w = .ok v' w') (h : K (a.put o.dst v') w') : Oper.wp P o a w K Q := by
  unfold Oper.wp execOp
  simp only [ho, resolve, invoke, builtin, Sem.run_bind, Sem.run_pure, Result.andThen_ok, List.map_toArray, List.map_cons, List.map_nil, hs, hx, hr]
  exact h

theorem wpListIn_append_run {F : Fence} {n : Nat} {P : Program} {w : World} {ops : Array Oper} {rest : List Oper} {o : Oper} {a : Act} {Q : Exit → Act → World → Prop} (hg : o.guard = none) (s x : Operand) (t k : TypeId)
    (hop : o.op = Op.call { callee := Callee.builtin Builtin.append, args := #[s, x], argTypes := #[t, k] }) (vs vx v' : Value) (w' : World) (hs : a.eval s = vs) (hx : a.eval x = vx)
    (hr : ∀ ty, (Builtin.append_ #[t, k] ty #[vs, vx]).run P w = .ok v' w') (h : wpListIn F n P ops Q rest (a.put o.dst v') w') : wpListIn F n P ops Q (o :: rest) a w := by
  refine wpListIn_plain hg fun K hK' => ?_
  unfold Oper.wpIn
  refine ⟨?_, ?_⟩
  · simp [Oper.about, hop, resolve, Target.leads, Sem.run_pure]
  · rw [Oper.semAt_plain F _ _ (by rw [hop]; intro c hc'; cases hc')]
    simp [execOp, hop, resolve, invoke, builtin, hs, hx, hr, Result.andThen]
    exact hK' _ _ h

/-- make([]Leaf, 0, n). -/
theorem make_leaves (w : World) (L : Nat) (hL : L ≤ 4096) : ∃ W, (Instr.makeSlice 42 (.int .i64 0) (.int .i64 L)).run Tryz.prog w = .ok (.slice (some ⟨w.heap.size, 0, none⟩) 0 L) W ∧ W.ownsRow 0 64 3 (.slice (some ⟨w.heap.size, 0, none⟩) 0 L) 0 [] ∧ Keeps (fun _ => False) w W ∧ W.heap.size = w.heap.size + 1 := by
  obtain ⟨i0, hi, hz0, hz1, hz2⟩ := info_parts Tryz.info64
  have h := run_make (P := Tryz.prog) w 42 64 i0 _ Tryz.underlying42 hi hz0 .i64 .i64 0 L (by omega) (by omega) (by rw [hz2]; omega) (by omega)
  rw [hz1] at h
  simp only [Int.toNat_zero, Int.toNat_natCast] at h
  exact ⟨_, h, World.ownsRow_made w _ L (Nat.zero_le _) (by unfold maxLen; omega) (by simp [madeCells]), (Keeps.refl _ w).alloc _, by simp⟩

/-- Where the walk through the shelf is. -/
structure RI (w X0 : World) (H : Nat) (ls : List Lf) (g : Nat) (X : World) : Prop where
  lo : X0.heap.size + 2 ≤ g
  row : ∃ v, Blk X H [v] 42 ∧ X.ownsRow 0 64 3 v ls.length (flatL ls) ∧ ∃ gv, v.ownBlock = some gv ∧ w.heap.size ≤ gv ∧ gv ≠ H ∧ (gv = w.heap.size ∨ g < gv)
  keeps : Keeps (fun b => b = H ∨ b = w.heap.size) X0 X

set_option maxRecDepth 20000 in
set_option maxHeartbeats 4000000 in
theorem leaves_walk (t s : Nat) (ls : List Lf) (w : World) (h1 : Blk w t [ptr s] 126) (hL : ls.length ≤ 4) (F0 : Nat → Prop) (hS : Sf w s 4 (kv ls) F0) :
    Calls Tryz.prog 63 #[ptr t] w fun r w' => ∃ v, r = .returned v ∧ w'.ownsRow 0 64 3 v ls.length (flatL ls) ∧ (∃ g, v.ownBlock = some g ∧ w.heap.size ≤ g) ∧ Keeps (fun _ => False) w w' := by
  have c0 := h1.cell (i := 0) rfl
  have H1 : Hid (Calls _ _ _ _ _) := len_any s 4 (kv ls) F0 w hS
  rw [show (kv ls).length = ls.length by simp [kv]] at H1
  obtain ⟨W1, hm1, hm2, hm3, hm4⟩ := make_leaves w ls.length (by omega)
  have HM : Hid ((Instr.makeSlice 42 (.int .i64 0) (.int .i64 ls.length)).run Tryz.prog w = .ok (.slice (some ⟨w.heap.size, 0, none⟩) 0 ls.length) W1) := hm1
  obtain ⟨L, hLL⟩ : ∃ L, L = ls.length := ⟨_, rfl⟩
  rw [← hLL] at H1 HM hm2
  obtain ⟨W2, hW2⟩ : ∃ W2, W2 = W1.alloc (.cells #[.slice (some ⟨w.heap.size, 0, none⟩) 0 L] 42) := ⟨_, rfl⟩
  have hK2 : Keeps (fun _ => False) W1 W2 := by rw [hW2]; exact (Keeps.refl _ W1).alloc _
  have hB2 : Blk W2 W1.heap.size [.slice (some ⟨w.heap.size, 0, none⟩) 0 L] 42 := by rw [hW2]; exact Blk.new W1 _ 42
  have hO2 : W2.ownsRow 0 64 3 (.slice (some ⟨w.heap.size, 0, none⟩) 0 L) 0 [] := owns_kept hm2 hK2 fun _ _ h => h
  have hKw : Keeps (fun _ => False) w W2 := hm3.trans hK2 fun _ _ h => h
  have hz2 : W2.heap.size = w.heap.size + 2 := by rw [hW2]; simp; omega
  have c1 := (h1.kept hKw fun h => h).cell (i := 0) rfl
  rw [hW2] at c1
  obtain ⟨X0, hX0⟩ : ∃ X0, X0 = W2.alloc (.cells #[ptr s] 122) := ⟨_, rfl⟩
  have HA : Hid (Calls Tryz.prog 99 #[ptr s] W2 _) := all_any (some ⟨s, 0, none⟩) W2
  rw [← hX0] at HA
  have hKx : Keeps (fun _ => False) W2 X0 := by rw [hX0]; exact (Keeps.refl _ W2).alloc _
  have hBx : Blk X0 W2.heap.size [ptr s] 122 := by rw [hX0]; exact Blk.new W2 _ 122
  have hzx : X0.heap.size = w.heap.size + 3 := by rw [hX0]; simp; omega
  have HW : Hid (W2 = W1.alloc (.cells #[.slice (some ⟨w.heap.size, 0, none⟩) 0 L] 42)) := hW2
  have hH : W1.heap.size = w.heap.size + 1 := hm4
  have HX : Hid (Blk X0 W1.heap.size [.slice (some ⟨w.heap.size, 0, none⟩) 0 L] 42 ∧ X0.ownsRow 0 64 3 (.slice (some ⟨w.heap.size, 0, none⟩) 0 L) 0 [] ∧ Keeps (fun _ => False) w X0 ∧ X0.heap.size = w.heap.size + 3 ∧ W1.heap.size = w.heap.size + 1 ∧ W2.heap.size = w.heap.size + 2 ∧ L = ls.length ∧ L ≤ 4 ∧ Blk X0 W2.heap.size [ptr s] 122) :=
    ⟨hB2.kept hKx fun h => h, owns_kept hO2 hKx fun _ _ h => h, hKw.trans hKx fun _ _ h => h, hzx, hm4, hz2, hLL, by omega, hBx⟩
  have HS : Hid (Sf w s 4 (kv ls) F0) := hS
  clear hm1 hm2 hm3 hm4 hLL hL hS h1 hK2 hB2 hO2 hKw hz2 hX0 hKx hBx hzx hW2 hH
  refine (callsIn_wide (n := 8)).1 ?_
  refine callsIn_of_wp_marks Tryz.func63 rfl trivial ?_ rfl
  refine wpIn_wide.2 ?_
  simp only [Tryz.ntmps63, List.size_toArray, List.length_cons, List.length_nil, Nat.reduceAdd, Nat.reduceSub, Array.replicate_succ, Array.replicate_zero, List.push_toArray, List.append_toArray, List.nil_append, List.cons_append]
  go_wp2_with fail
  refine H1.out.mono ?_
  rintro r w1 ⟨rfl, rfl⟩
  clear H1
  go_wp2_with (at_make; refine wpList_make_run rfl _ _ 42 rfl (.int .i64 0) (.int .i64 L) _ _ rfl rfl HM.out ?_; refine Hid.out ?_)
  unfold Hid
  clear HM c0
  go_wp2_with fail
  rw [← HW.out]
  refine HA.out.mono ?_
  rintro r w2 ⟨rfl, rfl⟩
  clear HA c1 HW
  obtain ⟨H, hH⟩ : ∃ H, H = W1.heap.size := ⟨_, rfl⟩
  obtain ⟨B1, hB1⟩ : ∃ B1, B1 = W2.heap.size := ⟨_, rfl⟩
  rw [← hH, ← hB1] at HX
  rw [← hH, ← hB1]
  clear hH hB1
  have HT : Hid (∀ X, Keeps (fun b => b = H ∨ b = w1.heap.size) w2 X → Keeps (fun _ => False) w1 X) := fun X hK => by
    obtain ⟨x1, x2, x3, x4, x5, x6, x7, x8, x9⟩ := HX.out
    exact x3.trans hK fun b hb h => by omega
  go_wp2_with fail
  refine (wpIn_wide (n := 8)).1 ?_
  refine range_list3 rfl (by omega) (gf := 147) (lb := #[.pointer (some ⟨B1, 0, none⟩)]) rfl trivial (enters_of Tryz.func147 (by kernel_rfl) rfl) (all_lists 7 B1 s 4 (kv ls))
    (fun X hK => ?good) (fun _ => rfl) (fun g i X => RI w1 w2 H (ls.take i) g X) (fun _ _ => False) ?kept (fun _ _ _ _ h => h) ?begin ?body ?done ?stop
  case good => exact ⟨(HX.out.2.2.2.2.2.2.2.2.kept hK fun h => h).cell rfl, F0, HS.out.kept (HX.out.2.2.1.trans hK fun _ _ h => h) fun _ _ h => h⟩
  case stop =>
    rintro c W h _
    exact h.elim
  case kept =>
    intro g i X X' hK h
    obtain ⟨x1, x2, x3, x4, x5, x6, x7, x8, x9⟩ := HX.out
    obtain ⟨h1, ⟨v, h2, h3, gv, h4, h5, h6, h7⟩, h8⟩ := h
    refine ⟨h1, ⟨v, h2.kept hK (by omega), owns_kept h3 hK fun k hk => ?_, gv, h4, h5, h6, h7⟩, h8.trans hK fun b hb he => by omega⟩
    rw [h4] at hk; cases hk
    omega
  case begin =>
    intro g X hK hg1 hg2
    obtain ⟨x1, x2, x3, x4, x5, x6, x7, x8, x9⟩ := HX.out
    refine ⟨hg1, ⟨_, x1.kept hK fun h => h, ?_, w1.heap.size, rfl, Nat.le_refl _, by omega, .inl rfl⟩, hK.mono fun _ _ h => h.elim⟩
    exact owns_kept x2 hK fun _ _ h => h
  case body =>
    intro l g i x X hx hR hgB hgX
    obtain ⟨k, q⟩ := x
    have hx' : ls[i]? = some q ∧ k = q.p := by
      unfold kv at hx
      rw [List.getElem?_map] at hx
      cases h : ls[i]? with
      | none => rw [h] at hx; simp at hx
      | some y => rw [h] at hx; simp at hx; exact ⟨by rw [hx.2], by rw [← hx.2]; exact hx.1.symm⟩
    obtain ⟨hx', rfl⟩ := hx'
    clear hx
    unfold encA
    gi_wp2
    refine ⟨(Keeps.refl _ X).alloc _, ?_⟩
    intro X2 hk2 hlt2 hR2
    have hBq : Blk X2 X.heap.size q.vs 64 := (Blk.new X _ 64).kept hk2 (by omega)
    obtain ⟨x1, x2, x3, x4, x5, x6, x7, x8, x9⟩ := HX.out
    obtain ⟨q1, ⟨v, q2, q3, gv, q4, q5, q6, q7⟩, q8⟩ := hR2
    have hi : i < ls.length := (List.getElem?_eq_some_iff.1 hx').1
    have hl : (ls.take i).length = i := by simp; omega
    rw [hl] at q3
    obtain ⟨v', W', happ, hown', hgr⟩ := append_leaf q v i _ q3 (by omega)
    obtain ⟨gw, capw, hv'⟩ : ∃ gw capw, v' = .slice (some ⟨gw, 0, none⟩) (i + 1) capw := by
      rcases hown'.2 with ⟨_, h⟩ | ⟨gv, cap, cur, rfl, _⟩
      · omega
      · exact ⟨gv, cap, rfl⟩
    obtain ⟨cv, hv⟩ : ∃ cv, v = .slice (some ⟨gv, 0, none⟩) i cv := by
      rcases q3.2 with ⟨rfl, _⟩ | ⟨g', cap, cur, rfl, _⟩
      · simp [Value.ownBlock] at q4
      · simp [Value.ownBlock] at q4
        subst q4
        exact ⟨cap, rfl⟩
    have hgw : gw = gv ∨ X2.heap.size ≤ gw := by
      rcases hgr.fresh with e | ⟨k, e, hk⟩
      · rw [hv', q4] at e; simp [Value.ownBlock] at e; exact .inl e
      · rw [hv'] at e; simp [Value.ownBlock] at e; exact .inr (by omega)
    have hkg : Keeps (fun k => k = gv) X2 W' := hgr.keeps.mono fun b _ he => by rw [q4] at he; cases he; rfl
    have hgX2 : g < X2.heap.size := Nat.lt_of_lt_of_le hgX (Nat.le_trans (by simp) hk2.size)
    have eH := q2.cell (i := 0) rfl
    have fH' := (q2.kept hkg fun h => q6 h.symm)
    have fH := fH'.frozen 0
    have dH := fH'.cell (i := 0) rfl
    have l0 := hBq.cell (i := 0) rfl
    have l1 := hBq.cell (i := 1) rfl
    have l2 := hBq.cell (i := 2) rfl
    have hKs : Keeps (fun k => k = H) W' (W'.setCell ⟨H, 0, none⟩ v') := (Keeps.refl _ W').setCell _ _ fun _ => rfl
    have HEND : Hid (KeptAt w2.heap.size g X2 (W'.setCell ⟨H, 0, none⟩ v') ∧ RI w1 w2 H (ls.take (i + 1)) g (W'.setCell ⟨H, 0, none⟩ v')) := by
      have hkk : ∀ b, b < X2.heap.size → b ≠ gv → b ≠ H → (W'.setCell ⟨H, 0, none⟩ v').heap[b]? = X2.heap[b]? := fun b hb h1 h2 =>
        (hKs.block b (Nat.lt_of_lt_of_le hb hkg.size) h2).trans (hkg.block b hb h1)
      have hz := q8.size
      refine ⟨⟨hkk _ (by omega) (by omega) (by omega), hkk _ (by omega) (by omega) (by omega), hkk _ (by omega) (by omega) (by omega)⟩, q1, ⟨v', ?_, ?_, gw, by rw [hv']; rfl, ?_, ?_, ?_⟩, ?_⟩
      · exact fH'.setCell 0 v'
      · have e1 : ls.take (i + 1) = ls.take i ++ [q] := by rw [List.take_add_one, hx']; rfl
        rw [e1, flatL_append, flatL_one, List.length_append, hl]
        refine owns_kept hown' hKs fun k hk he => ?_
        rw [hv'] at hk; simp [Value.ownBlock] at hk
        omega
      · omega
      · omega
      · omega
      · refine (q8.trans hkg fun b hb he => ?_).trans hKs fun b hb he => .inl he
        omega
    subst hv
    have HAP : Hid (∀ ty, (Builtin.append_ #[42, 42] ty #[.slice (some ⟨gv, 0, none⟩) i cv, .slice (some ⟨X2.heap.size, 0, none⟩) 1 1]).run Tryz.prog (X2.alloc (.cells #[.int .i64 q.p, .int .i64 q.f, .int .i64 q.r] 64)) = .ok v' W') := happ
    subst hv'
    clear happ hown' hgr hkg hgw hgX2 fH' hKs q1 q2 q3 q4 q5 q6 q7 q8 hBq x1 x2 x3 x4 x5 x6 x7 x8 x9 hR hgB hgX hlt2 hk2 hx' hi hl
    gi_wp2_with (gi_at_builtin; go_must (refine wpListIn_append_run rfl (.tmp 21) (.tmp 23) 42 42 rfl _ _ _ W' rfl rfl HAP.out ?_; refine Hid.out ?_))
    unfold Hid
    gi_wp2
    exact HEND.out
  case done =>
    intro g X hR hD
    obtain ⟨x1, x2, x3, x4, x5, x6, x7, x8, x9⟩ := HX.out
    obtain ⟨q1, ⟨v, q2, q3, gv, q4, q5, q6, q7⟩, q8⟩ := hR
    rw [show (kv ls).length = ls.length by simp [kv], List.take_length] at q3
    have hKX := HT.out X q8
    have hz := (Array.getElem?_eq_some_iff.1 hD).1
    have HE : Hid (X.ownsRow 0 64 3 v ls.length (flatL ls) ∧ (v.ownBlock = some gv ∧ w1.heap.size ≤ gv) ∧ Keeps (fun _ => False) w1 X ∧ gv ≠ w2.heap.size ∧ w1.heap.size ≤ w2.heap.size) := ⟨q3, ⟨q4, q5⟩, hKX, by omega, by omega⟩
    have HD : Hid (Marks X [w2.heap.size]) := ⟨by simp, by simpa using hD⟩
    have c0 := q2.cell (i := 0) rfl
    obtain ⟨D1, hD1⟩ : ∃ D1, D1 = w2.heap.size := ⟨_, rfl⟩
    rw [← hD1] at HE HD ⊢
    clear q1 q2 q3 q4 q5 q6 q7 q8 hKX hz hD x1 x2 x3 x4 x5 x6 x7 x8 x9 hD1
    gi_wp2
    go_wp2
    refine leaves_marks [D1] X HD.out fun w' hK => ?_
    obtain ⟨e1, e2, e3, e4, e5⟩ := HE.out
    refine ⟨_, results_tmp rfl _ _ _, v, rfl, owns_kept e1 hK fun k hk hm => ?_, ⟨gv, e2⟩, e3.trans hK fun b hb hm => ?_⟩
    · rw [e2.1] at hk; cases hk
      simp at hm; exact e4 hm
    · simp at hm; omega

theorem leaves_any (t : Nat) (ls : List Lf) (F : Nat → Prop) (w : World) (h : Tl w t ls F) :
    Calls Tryz.prog 63 #[ptr t] w fun r w' => ∃ v, r = .returned v ∧ w'.ownsRow 0 64 3 v ls.length (flatL ls) ∧ (∃ g, v.ownBlock = some g ∧ w.heap.size ≤ g) ∧ Keeps (fun _ => False) w w' := by
  have h4 := h.le
  obtain ⟨s, F0, h1, h2, h3, h4', h5, h6⟩ := h
  exact leaves_walk t s ls w h1 h4 F0 h2

end Go.Proofs.YtipejahmjdamjaaGreatDoor.Tl
namespace Go.Proofs.YtipejahmjdamjaaGreatDoor.Tl
open Go.ChangeShapes Go.WideShapes Go.ChangeAt Go.RowKit Go.Deep
set_option linter.unusedVariables false
set_option maxRecDepth 6000

theorem own : ownKnob Tryz.prog.godebug = none := by kernel_rfl
theorem laidOut : laidOutB Tryz.prog = true := by kernel_rfl
theorem wf_i64 {n : Int} (h : (Lit.int .i64 n).wf = true) : I64 n := by
  have : -9223372036854775808 ≤ n ∧ n ≤ 9223372036854775807 := by simpa [Lit.wf, IntKind.min, IntKind.max, IntKind.signed, IntKind.bits] using h
  exact this
theorem cells38 : Tryz.prog.cellsOf 64 = 3 := by kernel_rfl
theorem cells3 : Tryz.prog.cellsOf 3 = 1 := by kernel_rfl
theorem cells26 : Tryz.prog.cellsOf 42 = 1 := by kernel_rfl

instance : Inhabited Lf := ⟨⟨0, 0, 0⟩⟩
/-- Its numbers are ints. -/
def Lf.Fine (l : Lf) : Prop := I64 l.p ∧ I64 l.f ∧ I64 l.r

/-- A leaf lies there. -/
def LeafAt (w : World) (g o : Nat) (l : Lf) : Prop := w.cell? ⟨g, o, none⟩ = some (.int .i64 l.p) ∧ w.cell? ⟨g, o + 1, none⟩ = some (.int .i64 l.f) ∧ w.cell? ⟨g, o + 2, none⟩ = some (.int .i64 l.r)

/-- These leaves can be read at this address. -/
def SegL (w : World) (a : Option Addr) (ls : List Lf) : Prop :=
  ls = [] ∨ ∃ g o, a = some ⟨g, o, none⟩ ∧ ∀ j l, ls[j]? = some l → LeafAt w g (o + j * 3) l

theorem LeafAt.kept {S : Nat → Prop} {w w' : World} {g o : Nat} {l : Lf} (h : LeafAt w g o l) (hK : Keeps S w w') (hn : ¬ S g) : LeafAt w' g o l := by
  have hlt : g < w.heap.size := World.block_lt_of_cell? w ⟨g, o, none⟩ h.1
  have e : ∀ i, w'.cell? ⟨g, i, none⟩ = w.cell? ⟨g, i, none⟩ := fun i => World.cell?_of_block (w := w) (hK.block g hlt hn)
  exact ⟨(e _).trans h.1, (e _).trans h.2.1, (e _).trans h.2.2⟩
theorem LeafAt.lt {w : World} {g o : Nat} {l : Lf} (h : LeafAt w g o l) : g < w.heap.size := World.block_lt_of_cell? w ⟨g, o, none⟩ h.1

theorem SegL.kept {S : Nat → Prop} {w w' : World} {a : Option Addr} {ls : List Lf} (h : SegL w a ls) (hK : Keeps S w w') (hn : ∀ x, a = some x → ¬ S x.block) : SegL w' a ls := by
  rcases h with h | ⟨g, o, ha, hc⟩
  · exact .inl h
  · exact .inr ⟨g, o, ha, fun j l hj => (hc j l hj).kept hK (hn _ ha)⟩

theorem leaf_cell {H : Type} {enc : TypeId × Value → H} {W : World} {cs : List Value} {x : DataW H × List MemPlace} {fuel : Nat} (hl : cs.length = 3)
    (h : DataW.trod enc Tryz.prog W 0 (fun _ => true) true fuel 64 cs = some x) : ∃ l : Lf, cs = l.vs ∧ l.Fine := by
  obtain ⟨xs, n', _, _, _, hlenx, hfs⟩ := DataW.trod_struct Tryz.underlying64 h
  obtain ⟨y0, y1, y2, rfl⟩ : ∃ y0 y1 y2, xs = [y0, y1, y2] := by
    match xs, hlenx with
    | [y0, y1, y2], _ => exact ⟨y0, y1, y2, rfl⟩
  obtain ⟨c0, c1, c2, rfl⟩ : ∃ c0 c1 c2, cs = [c0, c1, c2] := by
    match cs, hl with
    | [c0, c1, c2], _ => exact ⟨c0, c1, c2, rfl⟩
  have g0 := hfs 0 _ rfl
  have g1 := hfs 1 _ rfl
  have g2 := hfs 2 _ rfl
  simp [cells3] at g0 g1 g2
  obtain ⟨K0, e0, _, w0⟩ := DataW.trod_int Tryz.underlying3 g0
  obtain ⟨K1, e1, _, w1⟩ := DataW.trod_int Tryz.underlying3 g1
  obtain ⟨K2, e2, _, w2⟩ := DataW.trod_int Tryz.underlying3 g2
  simp at e0 e1 e2
  subst e0 e1 e2
  exact ⟨⟨K0, K1, K2⟩, rfl, wf_i64 w0, wf_i64 w1, wf_i64 w2⟩

/-- A leaf that came in. -/
theorem leaf_in {H : Type} {enc : TypeId × Value → H} {W : World} {v : Value} {d : DataW H} {p : List MemPlace} {base : Nat} (hv : Value.okWide Tryz.prog W .any base 64 v)
    (h : DataW.Trod enc Tryz.prog W 0 (fun _ => true) true 64 v d p) : ∃ l : Lf, v = l.v ∧ l.Fine := by
  obtain ⟨cs, rfl, hsz⟩ := okWide_struct Tryz.underlying64 hv
  obtain ⟨fuel, hf⟩ := h
  have hf' : DataW.trod enc Tryz.prog W 0 (fun _ => true) true fuel 64 cs.toList = some (d, p) := hf
  obtain ⟨l, hl, hF⟩ := leaf_cell (by rw [Array.length_toList, hsz]; kernel_rfl) hf'
  exact ⟨l, by rw [← Array.toArray_toList (xs := cs), hl], hF⟩

/-- A list of leaves, by its cell. -/
theorem leaves_cell {H : Type} {enc : TypeId × Value → H} {W : World} {cs : List Value} {x : DataW H × List MemPlace} {fuel : Nat}
    (h : DataW.trod enc Tryz.prog W 0 (fun _ => true) true fuel 42 cs = some x) : ∃ a ls c, cs = [.slice a (List.length (α := Lf) ls) c] ∧ (ls.length ≤ c ∧ c ≤ maxLen) ∧ SegL W a ls ∧ ∀ l ∈ ls, l.Fine := by
  rcases open_slice Tryz.underlying42 h with ⟨hcs, _⟩ | ⟨x, len, cap, m, n, D, Pl, hcs, _, hl, hm, hmm, hx, hcell⟩
  · exact ⟨none, [], 0, hcs, ⟨Nat.zero_le _, Nat.zero_le _⟩, .inl rfl, fun l hl => by cases hl⟩
  · have hmc : m = cap := by simpa using hmm
    subst hmc
    have each : ∀ i, i < len → ∃ l : Lf, W.cell? (x.add (i * 3)) = some (.int .i64 l.p) ∧ W.cell? (x.add (i * 3 + 1)) = some (.int .i64 l.f) ∧ W.cell? (x.add (i * 3 + 2)) = some (.int .i64 l.r) ∧ l.Fine := by
      intro i hi
      obtain ⟨cs', h1, h2⟩ := hcell i (by omega)
      rw [cells38] at h1
      obtain ⟨_, hlen3, hc3⟩ := World.cells?_some h1
      obtain ⟨l, rfl, hF⟩ := leaf_cell hlen3 h2
      have q0 := hc3 0 (by omega)
      have q1 := hc3 1 (by omega)
      have q2 := hc3 2 (by omega)
      rw [add_add] at q0 q1 q2
      exact ⟨l, by simpa using q0, by simpa using q1, by simpa using q2, hF⟩
    obtain ⟨V, hV⟩ := choose_lt each
    refine ⟨some x, (List.range len).map V, m, by simp [hcs], by simp; omega, ?_, ?_⟩
    · by_cases h0 : len = 0
      · exact .inl (by simp [h0])
      · obtain ⟨b, off, spot⟩ := x
        have hc := (hV 0 (by omega)).1
        have hspot : spot = none := by simpa [Addr.add] using World.cell?_spot hc
        subst hspot
        refine .inr ⟨b, off, rfl, fun j l hj => ?_⟩
        have hj' : j < len := by
          have := (List.getElem?_eq_some_iff.1 hj).1
          simpa using this
        have e : l = V j := by simp [hj'] at hj; exact hj.symm
        subst e
        obtain ⟨h1, h2, h3, _⟩ := hV j hj'
        rw [addr_add] at h1 h2 h3
        exact ⟨h1, by rw [Nat.add_assoc]; exact h2, by rw [Nat.add_assoc]; exact h3⟩
    · intro l hl
      obtain ⟨i, hi, rfl⟩ := List.mem_map.1 hl
      exact (hV i (by simpa using hi)).2.2.2

/-- A list of leaves that came in. -/
theorem leaves_in {H : Type} {enc : TypeId × Value → H} {W : World} {v : Value} {d : DataW H} {p : List MemPlace} {base : Nat} (hv : Value.okWide Tryz.prog W .any base 42 v)
    (h : DataW.Trod enc Tryz.prog W 0 (fun _ => true) true 42 v d p) : ∃ a ls c, v = .slice a (List.length (α := Lf) ls) c ∧ (ls.length ≤ c ∧ c ≤ maxLen) ∧ SegL W a ls ∧ ∀ l ∈ ls, l.Fine := by
  obtain ⟨a0, len, cap, rfl⟩ := okWide_slice Tryz.underlying42 hv
  obtain ⟨fuel, hf⟩ := h
  obtain ⟨a, ls, c, hcs, hl, hs⟩ := leaves_cell hf
  simp [Value.cells] at hcs
  obtain ⟨rfl, rfl, rfl⟩ := hcs
  exact ⟨_, ls, _, rfl, hl, hs⟩

end Go.Proofs.YtipejahmjdamjaaGreatDoor.Tl
namespace Go.Proofs.YtipejahmjdamjaaGreatDoor.Tl
open Go.RowKit Go.Shelf
set_option linter.unusedVariables false
set_option maxRecDepth 6000

/-! ### Lists of leaves -/
theorem findT_some {p : Int} {ls : List Lf} (hn : (ls.map Lf.p).Nodup) {x : Lf} : findT p ls = some x ↔ x ∈ ls ∧ x.p = p := by
  constructor
  · intro h
    have h1 := List.mem_of_find?_eq_some h
    have h2 := List.find?_some h
    exact ⟨h1, by simpa using h2⟩
  · rintro ⟨hm, rfl⟩
    cases h : findT x.p ls with
    | none =>
      unfold findT at h
      rw [List.find?_eq_none] at h
      have := h x hm
      simp at this
    | some y =>
      have h1 := List.mem_of_find?_eq_some h
      have h2 : y.p = x.p := by simpa using List.find?_some h
      have : y = x := by
        induction ls with
        | nil => simp at hm
        | cons a r ih =>
          simp only [List.map_cons, List.nodup_cons] at hn
          rcases List.mem_cons.1 hm with rfl | hm'
          · rcases List.mem_cons.1 h1 with rfl | h1'
            · rfl
            · exact absurd (List.mem_map.2 ⟨y, h1', h2⟩) hn.1
          · rcases List.mem_cons.1 h1 with rfl | h1'
            · exact absurd (List.mem_map.2 ⟨x, hm', h2.symm⟩) hn.1
            · refine ih hn.2 hm' ?_ h1'
              unfold findT at h ⊢
              rw [List.find?_cons] at h
              have hne : (a.p == x.p) = false := by
                simp
                intro he
                exact hn.1 (List.mem_map.2 ⟨x, hm', he.symm⟩)
              rw [hne] at h
              exact h
      rw [this]
theorem findT_same {p : Int} {a b : List Lf} (ha : (a.map Lf.p).Nodup) (hb : (b.map Lf.p).Nodup) (h : ∀ x, x ∈ a ↔ x ∈ b) : findT p a = findT p b := by
  cases e : findT p a with
  | some x => exact ((findT_some hb).2 ⟨(h x).1 ((findT_some ha).1 e).1, ((findT_some ha).1 e).2⟩).symm
  | none =>
    cases e2 : findT p b with
    | none => rfl
    | some y =>
      have := (findT_some ha).2 ⟨(h y).2 ((findT_some hb).1 e2).1, ((findT_some hb).1 e2).2⟩
      rw [e] at this; cases this
theorem touchT_mem {p : Int} {ls : List Lf} (hn : (ls.map Lf.p).Nodup) (x : Lf) : x ∈ touchT p ls ↔ x ∈ ls := by
  unfold touchT
  cases h : findT p ls with
  | none => rfl
  | some y =>
    have hy := (findT_some hn).1 h
    simp only [List.mem_append, List.mem_singleton, wo, List.mem_filter]
    constructor
    · rintro (⟨h1, _⟩ | rfl)
      · exact h1
      · exact hy.1
    · intro hx
      by_cases hp : x.p = p
      · right
        have := (findT_some hn).2 ⟨hx, hp⟩
        rw [h] at this
        exact (Option.some.inj this).symm
      · exact .inl ⟨hx, by simpa using hp⟩

/-- What the last ones are, the latest first. -/
def nextL (l : Lf) (last : List Lf) : List Lf := (l :: wo l.p last).take 4
theorem putT_reverse (l : Lf) {last : List Lf} (h : last.length ≤ 4) : putT l last.reverse = (nextL l last).reverse := by
  have e : wo l.p last.reverse ++ [l] = (l :: wo l.p last).reverse := by
    rw [List.reverse_cons]; simp [wo, List.filter_reverse]
  have hle := wo_le l.p last
  unfold putT nextL
  rw [e]
  by_cases h5 : 4 < (l :: wo l.p last).reverse.length
  · rw [if_pos h5]
    rw [List.length_reverse] at h5
    have h6 : (l :: wo l.p last).length = 5 := by simp at h5 ⊢; omega
    rw [List.tail_reverse, List.dropLast_eq_take, h6]
  · rw [if_neg h5]
    rw [List.length_reverse] at h5
    rw [List.take_of_length_le (by omega)]
theorem nextL_le (l : Lf) (last : List Lf) : (nextL l last).length ≤ 4 := by
  unfold nextL
  rw [List.length_take]
  omega
theorem wo_take_succ (p : Int) (ls : List Lf) (k : Nat) (x : Lf) (h : ls[k]? = some x) : wo p (ls.take (k + 1)) = if x.p = p then wo p (ls.take k) else wo p (ls.take k) ++ [x] := by
  rw [List.take_add_one, h]
  unfold wo
  rw [List.filter_append]
  by_cases e : x.p = p <;> simp [e]
/-- Where the walk through the last ones stops. -/
theorem nextL_stop (l : Lf) (last : List Lf) (k : Nat) (h4 : (l :: wo l.p (last.take k)).length ≤ 4) (hs : last.length ≤ k ∨ 4 ≤ (l :: wo l.p (last.take k)).length) : nextL l last = l :: wo l.p (last.take k) := by
  unfold nextL
  rcases hs with h | h
  · rw [List.take_of_length_le (l := last) h] at h4 ⊢
    rw [List.take_of_length_le h4]
  · have e : l :: wo l.p last = (l :: wo l.p (last.take k)) ++ wo l.p (last.drop k) := by
      rw [List.cons_append]
      congr 1
      unfold wo
      rw [← List.filter_append, List.take_append_drop]
    rw [e, List.take_append_of_le_length h, List.take_of_length_le h4]
/-- The walk for a page. -/
theorem findT_take (p : Int) (ls : List Lf) (hn : (ls.map Lf.p).Nodup) (k : Nat) (x : Lf) (h : ls[k]? = some x) : findT p (ls.take (k + 1)) = if x.p = p then some x else findT p (ls.take k) := by
  have hm : x ∈ ls.take (k + 1) := by
    rw [List.take_add_one, h]; simp
  have hn1 : ((ls.take (k + 1)).map Lf.p).Nodup := hn.sublist ((List.take_sublist _ _).map _)
  have hn0 : ((ls.take k).map Lf.p).Nodup := hn.sublist ((List.take_sublist _ _).map _)
  by_cases e : x.p = p
  · rw [if_pos e]
    exact (findT_some hn1).2 ⟨hm, e⟩
  · rw [if_neg e, List.take_add_one, h]
    unfold findT
    rw [List.find?_append]
    simp [e]

/-! ### Leaves that are equal -/
theorem eq_leaf (l m : Lf) (w : World) : (Op.equalIn 10000 64 l.v m.v).run Tryz.prog w = .ok (decide (l = m)) w := by
  have hd : decide (l = m) = ((l.p == m.p) && (l.f == m.f) && (l.r == m.r)) := by
    cases l; cases m
    rw [Bool.eq_iff_iff]
    simp [and_assoc]
  rw [hd]
  cases h1 : l.p == m.p <;> cases h2 : l.f == m.f <;> cases h3 : l.r == m.r <;> simp [go_sem, h1, h2, h3, Result.andThen]

theorem neq_leaf (l m : Lf) (w : World) : (binOp .neq 64 l.v m.v).run Tryz.prog w = .ok (.bool (!decide (l = m))) w := by
  rw [run_neq_struct, eq_leaf]
  rfl
theorem eql_leaf (l m : Lf) (w : World) : (binOp .eql 64 l.v m.v).run Tryz.prog w = .ok (.bool (decide (l = m))) w := by
  rw [run_eql_struct, eq_leaf]
  rfl

end Go.Proofs.YtipejahmjdamjaaGreatDoor.Tl
namespace Go.Proofs.YtipejahmjdamjaaGreatDoor.Tl
open Go.RowKit Go.Shelf
set_option linter.unusedVariables false
set_option maxRecDepth 6000

/-- A row of leaves of one's own, with its block, none where there is none. -/
structure RowL (w : World) (v : Value) (ls : List Lf) : Prop where
  owns : w.ownsRow 0 64 3 v ls.length (flatL ls)

theorem row_at {w : World} {v : Value} {ls : List Lf} (h : w.ownsRow 0 64 3 v ls.length (flatL ls)) :
    (v = .slice none 0 0 ∧ ls = []) ∨ ∃ g cap, v = .slice (some ⟨g, 0, none⟩) ls.length cap ∧ v.ownBlock = some g ∧ g < w.heap.size ∧ ls.length ≤ cap ∧ (cap : Int) ≤ 9223372036854775807 ∧ ∀ j l, ls[j]? = some l → LeafAt w g (j * 3) l := by
  rcases h.2 with ⟨rfl, h2⟩ | ⟨g, cap, cur, rfl, _, hgg, h5, h6, _⟩
  · exact .inl ⟨rfl, List.length_eq_zero_iff.1 h2⟩
  · refine .inr ⟨g, cap, rfl, rfl, (Array.getElem?_eq_some_iff.1 hgg).1, h5, by unfold maxLen at h6; omega, fun j l hj => ?_⟩
    have hc := h.cells (g := g) rfl
    obtain ⟨h1, h2, h3⟩ := flatL_get ls j l hj
    have a1 := hc _ _ h1
    have a2 := hc _ _ h2
    have a3 := hc _ _ h3
    rw [addr_add, Nat.zero_add] at a1 a2 a3
    exact ⟨a1, a2, a3⟩

/-- The slice's value, whatever it is. -/
theorem row_val {w : World} {v : Value} {ls : List Lf} (h : w.ownsRow 0 64 3 v ls.length (flatL ls)) : ∃ a cap, v = .slice a ls.length cap ∧ ls.length ≤ cap ∧ (cap : Int) ≤ 9223372036854775807 ∧ (∀ x, a = some x → v.ownBlock = some x.block) ∧ SegL w a ls := by
  rcases row_at h with ⟨rfl, rfl⟩ | ⟨g, cap, rfl, h2, h3, h4, h5, h6⟩
  · exact ⟨none, 0, rfl, Nat.le_refl _, by omega, fun x h => by simp at h, .inl rfl⟩
  · exact ⟨some ⟨g, 0, none⟩, cap, rfl, h4, h5, fun x h => by simp at h; rw [h2, ← h], .inr ⟨g, 0, rfl, fun j l hj => by rw [Nat.zero_add]; exact h6 j l hj⟩⟩

/-- Where the walk is: the TLB holds the last ones, the latest last. -/
structure LI (w wr : World) (t : Nat) (v : Value) (last : List Lf) : Prop where
  keeps : Keeps (fun _ => False) w wr
  row : wr.ownsRow 0 64 3 v last.length (flatL last)
  le : last.length ≤ 4
  tl : ∃ F, Tl wr t last.reverse F ∧ (∀ b, F b → w.heap.size ≤ b) ∧ ∀ b, v.ownBlock = some b → w.heap.size ≤ b ∧ ¬ F b

theorem may_cases {x : Lf} (h : mayB x = false) : ¬ 0 ≤ x.p ∨ (0 ≤ x.p ∧ ¬ x.p < 256) ∨ (0 ≤ x.p ∧ x.p < 256 ∧ ¬ 0 ≤ x.f) ∨ (0 ≤ x.p ∧ x.p < 256 ∧ 0 ≤ x.f ∧ ¬ x.f < 1024) ∨ (0 ≤ x.p ∧ x.p < 256 ∧ 0 ≤ x.f ∧ x.f < 1024 ∧ ¬ 0 ≤ x.r) ∨
    (0 ≤ x.p ∧ x.p < 256 ∧ 0 ≤ x.f ∧ x.f < 1024 ∧ 0 ≤ x.r ∧ ¬ x.r < 8) := by
  simp [mayB, inB] at h
  omega

/-- A new block more. -/
theorem LI.kept {w wr wr' : World} {t : Nat} {v : Value} {last : List Lf} (h : LI w wr t v last) (hK : Keeps (fun _ => False) wr wr') : LI w wr' t v last := by
  obtain ⟨h1, h2, h3, F, h4, h5, h6⟩ := h
  exact ⟨h1.trans hK fun _ _ h => h, owns_kept h2 hK fun _ _ h => h, h3, F, h4.kept hK fun _ _ h => h, h5, h6⟩

theorem SegL.kept2 {S : Nat → Prop} {w w' : World} {a : Option Addr} {ls : List Lf} (h : SegL w a ls) (hK : Keeps S w w') (hn : ls ≠ [] → ∀ x, a = some x → ¬ S x.block) : SegL w' a ls := by
  by_cases e : ls = []
  · exact .inl e
  · exact h.kept hK (hn e)

/-- Where the walk through the pages is. -/
structure PI (w wr : World) (t : Nat) (a4 : Option Addr) (last : List Lf) : Prop where
  keeps : Keeps (fun _ => False) w wr
  seg : SegL wr a4 last
  tl : ∃ lsC F, Tl wr t lsC F ∧ (∀ x, x ∈ lsC ↔ x ∈ last) ∧ (∀ b, F b → w.heap.size ≤ b) ∧ (last ≠ [] → ∀ x, a4 = some x → ¬ F x.block)

end Go.Proofs.YtipejahmjdamjaaGreatDoor.Tl
