import Derived.Test.YtofjbkoojimmhaaGreatHt
import Derived.DeepKeys
import Derived.Deep.MidRow
namespace Go.Proofs.YtofjbkoojimmhaaGreat
open Go.RowKit Go.Shelf
open Mq
set_option linter.unusedVariables false
set_option maxRecDepth 6000
set_option linter.unusedSimpArgs false
theorem wf_u32n (n : Nat) (h : n < 4294967296) : (Lit.int .u32 (n : Int)).wf = true := by
 have h1 : IntKind.u32.min = 0 := rfl
 have h2 : IntKind.u32.max = 4294967295 := rfl
 simp only [Lit.wf, h1, h2, Bool.and_eq_true, decide_eq_true_eq]
 omega
theorem lit_one (d n : Nat) (h : n < 4294967296) : (Tryz.prog.keyLits (d + 1) 38 [.int .u32 (n : Int)]).isSome = true := by
 unfold Program.keyLits
 rw [show Tryz.prog.underlying 38 = some (.int .u32) from Tryz.underlying38]
 simp [wf_u32n n h]
theorem mapM_isSome {α β : Type} {f : α → Option β} : ∀ {l : List α}, (∀ a ∈ l, (f a).isSome = true) → (l.mapM f).isSome = true
 | [], _ => by simp
 | a :: l, h => by
  obtain ⟨b, hb⟩ := Option.isSome_iff_exists.1 (h a (by simp))
  obtain ⟨bs, hbs⟩ := Option.isSome_iff_exists.1 (mapM_isSome (l := l) fun x hx => h x (by simp [hx]))
  simp [hb, hbs]
theorem lits_arr (d : Nat) (rg : List UInt32) (h : rg.length = 16) : (Tryz.prog.keyLits (d + 2) 39 (wvs rg)).isSome = true := by
 unfold Program.keyLits
 rw [Tryz.underlying39]
 have hc : Tryz.prog.cellsOf 39 = 16 := by kernel_rfl
 have hc1 : Tryz.prog.cellsOf 38 = 1 := by kernel_rfl
 dsimp only
 rw [if_pos (by rw [hc, wvs_length, h]), Option.isSome_map]
 refine mapM_isSome fun i hi => ?_
 have hi' : i < rg.length := by rw [h]; simpa using hi
 rw [hc1, Nat.mul_one, show ((wvs rg).drop i).take 1 = [.int .u32 (rg[i].toNat : Int)] from ?_]
 ·
  exact lit_one d _ (rg[i].toNat_lt)
 ·
  rw [List.take_one, List.head?_drop, wvs_get rg i hi']; rfl
theorem key_ctx (ys : List UInt32) (h : ys.length = 17) : ∃ l, keyOf Tryz.prog 41 (.agg (wvs ys).toArray) = some l := by
 refine Option.isSome_iff_exists.1 ?_
 unfold keyOf
 rw [Tryz.underlying41]
 have hc : Tryz.prog.cellsOf 41 = 17 := by kernel_rfl
 dsimp only
 rw [if_pos]
 ·
  rw [Option.isSome_map]
  unfold Program.keyLits
  rw [Tryz.underlying41]
  dsimp only
  rw [if_pos ⟨by show (wvs ys).length = _; rw [hc, wvs_length, h], by kernel_rfl⟩, Option.isSome_map]
  refine mapM_isSome fun f hf => ?_
  have hc38 : Tryz.prog.cellsOf 39 = 16 := by kernel_rfl
  have hc37 : Tryz.prog.cellsOf 38 = 1 := by kernel_rfl
  have hsz : Tryz.prog.types.size = 223 + 2 := by kernel_rfl
  have hcs : (Value.agg (wvs ys).toArray).cells.toList = wvs ys := rfl
  rw [hcs, hsz]
  simp only [List.mem_cons, List.not_mem_nil, or_false] at hf
  rcases hf with rfl | rfl
  ·
   dsimp only
   rw [hc38, List.drop_zero, ← wvs_take]
   exact lits_arr 223 (ys.take 16) (by simp; omega)
  ·
   dsimp only
   rw [hc37, show ((wvs ys).drop 16).take 1 = [.int .u32 ((ys[16]'(by omega)).toNat : Int)] from ?_]
   ·
    exact lit_one 224 _ ((ys[16]'(by omega)).toNat_lt)
   ·
    rw [List.take_one, List.head?_drop, wvs_get ys 16 (by omega)]; rfl
 ·
  rw [show Tryz.prog.keyType 41 = true by kernel_rfl, Bool.true_and]
  unfold Value.formed
  rw [Tryz.underlying41]
  show ((wvs ys).toArray.size == Tryz.prog.cellsOf 41) = true
  rw [hc, List.size_toArray, wvs_length, h]; rfl
theorem eq_ctx (ys : List UInt32) (h : ys.length = 17) (w : World) : (Op.equal 41 (.agg (wvs ys).toArray) (.agg (wvs ys).toArray)).run Tryz.prog w = .ok true w := by
 obtain ⟨l, hl⟩ := key_ctx ys h
 obtain ⟨r, h1, h2⟩ := run_equal_deep (P := Tryz.prog) w (m := 5) (by omega) (k := 41) (by kernel_rfl) (by kernel_rfl) hl hl
 rw [h1, h2.2 rfl]
theorem neq_ctx (ys : List UInt32) (h : ys.length = 17) (w : World) : (binOp .neq 41 (.agg (wvs ys).toArray) (.agg (wvs ys).toArray)).run Tryz.prog w = .ok (.bool false) w := by
 simp only [binOp]
 simp [eq_ctx ys h]
theorem eql_ctx (ys : List UInt32) (h : ys.length = 17) (w : World) : (binOp .eql 41 (.agg (wvs ys).toArray) (.agg (wvs ys).toArray)).run Tryz.prog w = .ok (.bool true) w := by
 simp only [binOp]
 simp [eq_ctx ys h]
theorem wpList_load_on {P : Program} {ops : Array Oper} {rest : List Oper} {op : Oper} {a : Act} {w : World} {Q : Exit → Act → World → Prop} (hw : Region.wanted op (yielded ops a.tmps) = true) (ty : TypeId) (x : Operand) (ho : op.op = .load ty x)
  (g : Nat) (hx : a.eval x = .pointer (some ⟨g, 0, none⟩)) (t : TypeId) (cs : Array Value) (fr : Nat × Nat) (d : TypeDesc) (hg : w.heap[g]? = some (.cells cs t fr))
  (hu : P.underlying ty = some d) (hd : (match d with | .struct _ | .array _ _ => true | _ => false) = true) (hi : (P.info? ty).map (·.size) = some cs.size)
  (h : wpList P ops Q rest (a.put op.dst (.agg cs)) w) : wpList P ops Q (op :: rest) a w :=
 wpList_step fun K hK => by
  rw [if_pos hw]
  exact wp_load_row ty x ho g hx t cs fr d hg hu hd hi (hK _ _ h)
theorem wpList_cmp_on {P : Program} {ops : Array Oper} {rest : List Oper} {o : Oper} {a : Act} {w : World} {Q : Exit → Act → World → Prop} (hw : Region.wanted o (yielded ops a.tmps) = true) (ty : TypeId) (x y : Operand) (t2 : TypeId) (ho : o.op = .binOp .neq ty x y t2)
  (vx vy : Array Value) (v : Value) (hx : a.eval x = .agg vx) (hy : a.eval y = .agg vy) (hm : P.eqGuardType P.depth ty = false) (hr : (binOp .neq ty (.agg vx) (.agg vy)).run P w = .ok v w)
  (h : wpList P ops Q rest (a.put o.dst v) w) : wpList P ops Q (o :: rest) a w :=
 wpList_step fun K hK => by
  rw [if_pos hw]
  unfold Oper.wp execOp
  simp only [ho, hx, hy, Sem.run_bind, run_eqGuard_agg _ _ _ _ _ _ _ hm, hr, Result.andThen_ok, Sem.run_pure]
  exact hK _ _ h
theorem wpList_eql_on {P : Program} {ops : Array Oper} {rest : List Oper} {o : Oper} {a : Act} {w : World} {Q : Exit → Act → World → Prop} (hw : Region.wanted o (yielded ops a.tmps) = true) (ty : TypeId) (x y : Operand) (t2 : TypeId) (ho : o.op = .binOp .eql ty x y t2)
  (vx vy : Array Value) (v : Value) (hx : a.eval x = .agg vx) (hy : a.eval y = .agg vy) (hm : P.eqGuardType P.depth ty = false) (hr : (binOp .eql ty (.agg vx) (.agg vy)).run P w = .ok v w)
  (h : wpList P ops Q rest (a.put o.dst v) w) : wpList P ops Q (o :: rest) a w :=
 wpList_step fun K hK => by
  rw [if_pos hw]
  unfold Oper.wp execOp
  simp only [ho, hx, hy, Sem.run_bind, run_eqGuard_agg _ _ _ _ _ _ _ hm, hr, Result.andThen_ok, Sem.run_pure]
  exact hK _ _ h
end Go.Proofs.YtofjbkoojimmhaaGreat
