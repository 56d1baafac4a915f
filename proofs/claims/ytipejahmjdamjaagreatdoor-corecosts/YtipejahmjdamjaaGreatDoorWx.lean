import Derived.Test.YtipejahmjdamjaaGreatDoorWe
namespace Go.Proofs.YtipejahmjdamjaaGreatDoor
open Go.RowKit Go.Shelf
set_option linter.unusedVariables false
set_option maxRecDepth 6000

/-- What lies there while the answers are held against each other. -/
structure Bn (w wr : World) (X Y A b g b2 g2 n : Nat) (rg rgz : List UInt32) (pc pcz : Nat) (act : List Value) (xs xs7 : List UInt32) : Prop where
  x : Blk wr X (ctx rg pc) 40
  y : Blk wr Y (ctx rgz pcz) 40
  a : Blk wr A act 58
  m : Mn wr b g n xs7
  q : Mn wr b2 g2 n xs
  t : Is.Tabs wr
  k : Keeps (fun _ => False) w wr
theorem Bn.grown {w wr wr' : World} {X Y A b g b2 g2 n : Nat} {rg rgz : List UInt32} {pc pcz : Nat} {act : List Value} {xs xs7 : List UInt32} (h : Bn w wr X Y A b g b2 g2 n rg rgz pc pcz act xs xs7) (hK : Keeps (fun _ => False) wr wr') :
    Bn w wr' X Y A b g b2 g2 n rg rgz pc pcz act xs xs7 :=
  ⟨h.x.kept hK fun h => h, h.y.kept hK fun h => h, h.a.kept hK fun h => h, h.m.grown hK, h.q.grown hK, tabs_kept h.t hK fun _ h => h.elim, h.k.trans hK fun _ _ h => h⟩

theorem ctx_reg {rg : List UInt32} (pc j : Nat) (h : rg.length = 16) (hj : j < 16) : (ctx rg pc)[j]? = some (.int .u32 ((rg.getD j 0).toNat : Int)) := by
  unfold ctx
  rw [List.getElem?_append_left (by rw [wvs_length, h]; exact hj), wvs_get rg j (by omega), List.getD_eq_getElem?_getD, List.getElem?_eq_getElem (by omega)]
  rfl
theorem ctx_pc {rg : List UInt32} (pc : Nat) (h : rg.length = 16) : (ctx rg pc)[16]? = some (.int .u32 (pc : Int)) := by
  unfold ctx
  rw [List.getElem?_append_right (by rw [wvs_length, h]; omega), wvs_length, h]
  rfl

theorem wpList_load_on {P : Program} {ops : Array Oper} {rest : List Oper} {op : Oper} {a : Act} {w : World} {Q : Exit → Act → World → Prop} (hw : Region.wanted op (yielded ops a.tmps) = true) (ty : TypeId) (x : Operand) (ho : op.op = .load ty x)
    (b o : Nat) (hx : a.eval x = .pointer (some ⟨b, o, none⟩)) (cs : List Value) (d : TypeDesc) (hc : w.rangeAt b o cs)
    (hu : P.underlying ty = some d) (hd : d.isRow = true) (hi : (P.info? ty).map (·.size) = some cs.length)
    (h : wpList P ops Q rest (a.put op.dst (.agg cs.toArray)) w) : wpList P ops Q (op :: rest) a w :=
  wpList_step fun K hK => by
    rw [if_pos hw]
    exact wp_load_mid ty x ho b o hx cs d hc hu hd hi (hK _ _ h)

theorem wpList_neq_on {P : Program} {ops : Array Oper} {rest : List Oper} {o : Oper} {a : Act} {w : World} {Q : Exit → Act → World → Prop} (hw : Region.wanted o (yielded ops a.tmps) = true) (ty : TypeId) (x y : Operand) (t2 : TypeId) (ho : o.op = .binOp .neq ty x y t2)
    (vx vy : Array Value) (v : Value) (hx : a.eval x = .agg vx) (hy : a.eval y = .agg vy) (hm : P.eqGuardType P.depth ty = false) (hr : (binOp .neq ty (.agg vx) (.agg vy)).run P w = .ok v w)
    (h : wpList P ops Q rest (a.put o.dst v) w) : wpList P ops Q (o :: rest) a w :=
  wpList_step fun K hK => by
    rw [if_pos hw]
    unfold Oper.wp execOp
    simp only [ho, hx, hy, Sem.run_bind, run_eqGuard_agg _ _ _ _ _ _ _ hm, hr, Result.andThen_ok, Sem.run_pure]
    exact hK _ _ h

theorem lay_set (xs : List UInt32) (P : Nat) (v : UInt32) (h : P < xs.length) : lay xs P [v] = xs.set P v := by
  rw [List.set_eq_take_append_cons_drop, if_pos h]
  simp [lay]
theorem lay_other (xs : List UInt32) (P k : Nat) (v : UInt32) (hP : P < xs.length) (h : k ≠ P) : (lay xs P [v]).getD k 0 = xs.getD k 0 := by
  rw [lay_set xs P v hP]
  simp [List.getD, List.getElem?_set_ne (Ne.symm h)]
theorem lay_at (xs : List UInt32) (P : Nat) (v : UInt32) (h : P < xs.length) : (lay xs P [v]).getD P 0 = v := by
  rw [lay_set xs P v h]
  simp [List.getD, h]

theorem carry_word_lt (n : Nat) (rg : List UInt32) (pc c b root clock : Nat) (xs : List UInt32) (ls : List Tl.Lf) (st : Nat → List Int) (R : Nat × Mc) (hR : R = carryM n ⟨sp0 rg pc c b root clock, xs, ls, st⟩) : R.2.t.word < 4294967296 := by
  obtain ⟨t, et⟩ : ∃ t, t = sp0 rg pc c b root clock := ⟨_, rfl⟩
  have hc : t.word = 0 := by rw [et]; rfl
  rw [hR, ← et]
  unfold carryM
  dsimp only
  cases hn : rcP n xs t.root ls t.pc 4 with
  | none => show t.word < _; omega
  | some P =>
    dsimp only
    cases hd : Is.decOk (xs.getD P 0).toNat with
    | false => exact rg_lt (xs.getD P 0)
    | true =>
      simp only [if_true]
      obtain ⟨M2, eM⟩ : ∃ M2 : Mc, M2 = ⟨((t.fetched (t.cost + rcW ls t.pc + Ch.cost (P / 4) st) (xs.getD P 0).toNat).dec (xs.getD P 0).toNat).goes (wd (t.pc + 1)), xs, rcL n xs t.root ls t.pc, Ch.step (P / 4) st⟩ := ⟨_, rfl⟩
      have hp2 : M2.t.word < 4294967296 := by rw [eM]; exact rg_lt (xs.getD P 0)
      rw [← eM]
      have hS := (opM_same n M2).1.word
      by_cases h0 : (opM n M2).1 = 0
      · rw [if_pos h0]; show (opM n M2).2.t.word < _; omega
      · rw [if_neg h0]; omega

end Go.Proofs.YtipejahmjdamjaaGreatDoor
