import Derived.Test.YtipejahmjdamjaaGreatDoorWe
namespace Go.Proofs.YtipejahmjdamjaaGreatDoor
open Go.RowKit Go.Shelf
set_option linter.unusedVariables false
set_option maxRecDepth 6000

/-- What lies there while the answers are held against each other. -/
structure Bn (w wr : World) (X Y A b g b2 g2 n : Nat) (rg rgz : List UInt32) (pc pcz : Nat) (act : List Value) (xs xs7 : List UInt32) : Prop where
  x : Blk wr X (ctx rg pc) 40
  y : Blk wr Y (ctx rgz pcz) 40
  a : Blk wr A act 58
  m : Mn wr b g n xs7
  q : Mn wr b2 g2 n xs
  t : Is.Tabs wr
  k : Keeps (fun _ => False) w wr
theorem Bn.grown {w wr wr' : World} {X Y A b g b2 g2 n : Nat} {rg rgz : List UInt32} {pc pcz : Nat} {act : List Value} {xs xs7 : List UInt32} (h : Bn w wr X Y A b g b2 g2 n rg rgz pc pcz act xs xs7) (hK : Keeps (fun _ => False) wr wr') :
    Bn w wr' X Y A b g b2 g2 n rg rgz pc pcz act xs xs7 :=
  ⟨h.x.kept hK fun h => h, h.y.kept hK fun h => h, h.a.kept hK fun h => h, h.m.grown hK, h.q.grown hK, tabs_kept h.t hK fun _ h => h.elim, h.k.trans hK fun _ _ h => h⟩

theorem ctx_reg {rg : List UInt32} (pc j : Nat) (h : rg.length = 16) (hj : j < 16) : (ctx rg pc)[j]? = some (.int .u32 ((rg.getD j 0).toNat : Int)) := by
  unfold ctx
  rw [List.getElem?_append_left (by rw [wvs_length, h]; exact hj), wvs_get rg j (by omega), List.getD_eq_getElem?_getD, List.getElem?_eq_getElem (by omega)]
  rfl
theorem ctx_pc {rg : List UInt32} (pc : Nat) (h : rg.length = 16) : (ctx rg pc)[16]? = some (.int .u32 (pc : Int)) := by
  unfold ctx
  rw [List.getElem?_append_right (by rw [wvs_length, h]; omega), wvs_length, h]
  rfl

theorem wpList_load_on {P : Program} {ops : Array Oper} {rest : List Oper} {op : Oper} {a : Act} {w : World} {Q : Exit → Act → World → Prop} (hw : Region.wanted op (yielded ops a.tmps) = true) (ty : TypeId) (x : Operand) (ho : op.op = .load ty x)
    (b o : Nat) (hx : a.eval x = .pointer (some ⟨b, o, none⟩)) (cs : List Value) (d : TypeDesc) (hc : w.rangeAt b o cs)
    (hu : P.underlying ty = some d) (hd : d.isRow = true) (hi : (P.info? ty).map (·.size) = some cs.length)
    (h : wpList P ops Q rest (a.put op.dst (.agg cs.toArray)) w) : wpList P ops Q (op :: rest) a w :=
  wpList_step fun K hK => by
    rw [if_pos hw]
    exact wp_load_mid ty x ho b o hx cs d hc hu hd hi (hK _ _ h)

theorem wpList_neq_on {P : Program} {ops : Array Oper} {rest : List Oper} {o : Oper} {a : Act} {w : World} {Q : Exit → Act → World → Prop} (hw : Region.wanted o (yielded ops a.tmps) = true) (ty : TypeId) (x y : Operand) (t2 : TypeId) (ho : o.op = .binOp .neq ty x y t2)
    (vx vy : Array Value) (v : Value) (hx : a.eval x = .agg vx) (hy : a.eval y = .agg vy) (hm : P.eqGuardType P.depth ty = false) (hr : (binOp .neq ty (.agg vx) (.agg vy)).run P w = .ok v w)
    (h : wpList P ops Q rest (a.put o.dst v) w) : wpList P ops Q (o :: rest) a w :=
  wpList_step fun K hK => by
    rw [if_pos hw]
    unfold Oper.wp execOp
    simp only [ho, hx, hy, Sem.run_bind, run_eqGuard_agg _ _ _ _ _ _ _ hm, hr, Result.andThen_ok, Sem.run_pure]
    exact hK _ _ h

theorem lay_set (xs : List UInt32) (P : Nat) (v : UInt32) (h : P < xs.length) : lay xs P [v] = xs.set P v := by
  rw [List.set_eq_take_append_cons_drop, if_pos h]
  simp [lay]
theorem lay_other (xs : List UInt32) (P k : Nat) (v : UInt32) (hP : P < xs.length) (h : k ≠ P) : (lay xs P [v]).getD k 0 = xs.getD k 0 := by
  rw [lay_set xs P v hP]
  simp [List.getD, List.getElem?_set_ne (Ne.symm h)]
theorem lay_at (xs : List UInt32) (P : Nat) (v : UInt32) (h : P < xs.length) : (lay xs P [v]).getD P 0 = v := by
  rw [lay_set xs P v h]
  simp [List.getD, h]

theorem carry_word_lt (n : Nat) (rg : List UInt32) (pc c b root clock : Nat) (xs : List UInt32) (ls : List Tl.Lf) (st : Nat → List Int) (R : Nat × Mc) (hR : R = carryM n ⟨sp0 rg pc c b root clock, xs, ls, st⟩) : R.2.t.word < 4294967296 := by
  obtain ⟨t, et⟩ : ∃ t, t = sp0 rg pc c b root clock := ⟨_, rfl⟩
  have hc : t.word = 0 := by rw [et]; rfl
  rw [hR, ← et]
  unfold carryM
  dsimp only
  cases hn : rcP n xs t.root ls t.pc 4 with
  | none => show t.word < _; omega
  | some P =>
    dsimp only
    cases hd : Is.decOk (xs.getD P 0).toNat with
    | false => exact rg_lt (xs.getD P 0)
    | true =>
      simp only [if_true]
      obtain ⟨M2, eM⟩ : ∃ M2 : Mc, M2 = ⟨((t.fetched (t.cost + rcW ls t.pc + Ch.cost (P / 4) st) (xs.getD P 0).toNat).dec (xs.getD P 0).toNat).goes (wd (t.pc + 1)), xs, rcL n xs t.root ls t.pc, Ch.step (P / 4) st⟩ := ⟨_, rfl⟩
      have hp2 : M2.t.word < 4294967296 := by rw [eM]; exact rg_lt (xs.getD P 0)
      rw [← eM]
      have hS := (opM_same n M2).1.word
      by_cases h0 : (opM n M2).1 = 0
      · rw [if_pos h0]; show (opM n M2).2.t.word < _; omega
      · rw [if_neg h0]; omega

set_option maxHeartbeats 16000000 in
theorem walls_go (a : Option Addr) (cp n root clock : Nat) (xs rg : List UInt32) (pc : Nat) (w : World) (hx : SegW w a xs) (hn : xs.length = n * 16) (h1 : 1 ≤ n) (h2 : n ≤ 1024) (hr : root < n) (hg : rg.length = 16) (hp : pc < 4294967296) (hk : clock < 4294967296) (hT : Is.Tabs w) :
    Calls Tryz.prog 6 #[.slice a xs.length cp, .int .i64 root, .agg (ctx rg pc).toArray, .int .u32 clock] w fun e w' => e = .returned (.bool true) ∧ Keeps (fun _ => False) w w' := by
  obtain ⟨W, hW⟩ : ∃ W, W = w.alloc (.cells (ctx rg pc).toArray 40) := ⟨_, rfl⟩
  have hK0 : Keeps (fun _ => False) w W := by rw [hW]; exact (Keeps.refl _ w).alloc _
  have hBX : Blk W w.heap.size (ctx rg pc) 40 := by rw [hW]; exact Blk.new w _ 40
  obtain ⟨X, eX⟩ : ∃ X, X = w.heap.size := ⟨_, rfl⟩
  rw [← eX] at hBX
  have hxW := hx.kept hK0 fun _ _ h => h
  have H1 : Hid (Calls _ _ _ _ _) := of_yes a cp xs n W hxW hn h1 h2
  have HW : Hid (W = w.alloc (.cells (ctx rg pc).toArray 40)) := hW
  have H0 : Hid (Keeps (fun _ => False) w W ∧ Blk W X (ctx rg pc) 40 ∧ X = w.heap.size ∧ Is.Tabs w ∧ X < W.heap.size) := ⟨hK0, hBX, eX, hT, hBX.lt⟩
  have HQ : Hid (xs.length = n * 16 ∧ 1 ≤ n ∧ n ≤ 1024 ∧ root < n ∧ rg.length = 16 ∧ pc < 4294967296 ∧ clock < 4294967296) := ⟨hn, h1, h2, hr, hg, hp, hk⟩
  obtain ⟨L, eL⟩ : ∃ L, L = xs.length := ⟨_, rfl⟩
  rw [← eL] at H1 ⊢
  have HL : Hid (L = xs.length) := eL
  have HX : Hid (w.heap.size = X) := eX.symm
  clear hx hn h1 h2 hr hg hp hk hT hW hK0 hBX hxW eL eX
  go_enter Tryz.func6, Tryz.ntmps6
  go_upto_region 1 with fail
  rw [← HW.out, HX.out]
  go_wp2_with fail
  refine H1.out.mono ?_
  rintro e w1 ⟨b, rfl, hM1, hb1, hK1⟩
  obtain ⟨g, eg⟩ : ∃ g, g = W.heap.size := ⟨_, rfl⟩
  rw [← eg] at hM1
  have H2 : Hid (Calls _ _ _ _ _) := clone_any b g n xs w1 hM1
  have H3 : Hid (Mn w1 b g n xs ∧ g = W.heap.size ∧ W.heap.size ≤ b ∧ Keeps (fun _ => False) W w1) := ⟨hM1, eg, hb1, hK1⟩
  clear hM1 eg hb1 hK1 H1
  go_wp2_with fail
  refine H2.out.mono ?_
  rintro e w2 ⟨b2, rfl, hM2, hb2, hK2⟩
  obtain ⟨g2, eg2⟩ : ∃ g2, g2 = w1.heap.size := ⟨_, rfl⟩
  rw [← eg2] at hM2
  have h2w : 2 ≤ w2.heap.size := by
    have z1 := tabs_two H0.out.2.2.2.1
    have z2 := H0.out.1.size
    have z3 := H3.out.2.2.2.size
    have z4 := hK2.size
    omega
  have H4 : Hid (Calls _ _ _ _ _) := new_core w2 h2w
  have H5 : Hid (Mn w2 b2 g2 n xs ∧ g2 = w1.heap.size ∧ w1.heap.size ≤ b2 ∧ Keeps (fun _ => False) w1 w2) := ⟨hM2, eg2, hb2, hK2⟩
  clear hM2 eg2 hb2 hK2 h2w H2
  go_wp2_with fail
  refine H4.out.mono ?_
  rintro e w3 ⟨c, tb, cb, FT, FC, rfl, hC, hnw, hK3⟩
  have hKW3 : Keeps (fun _ => False) W w3 := (H3.out.2.2.2.trans H5.out.2.2.2 fun _ _ h => h).trans hK3 fun _ _ h => h
  have HRa : Hid (w3.rangeAt X 0 (ctx rg pc) ∧ (Tryz.prog.info? 40).map (·.size) = some (ctx rg pc).length) := ⟨fun j v hv => by rw [Nat.zero_add]; exact (H0.out.2.1.kept hKW3 fun h => h).cell hv, by rw [ctx_len HQ.out.2.2.2.2.1]; kernel_rfl⟩
  have H6 : Hid (Calls _ _ _ _ _) := set_any c tb cb (List.replicate 16 0) rg 0 pc [] (fun _ => []) FT FC w3 hC HQ.out.2.2.2.2.1 HQ.out.2.2.2.2.2.1
  have H7 : Hid ((∀ k, (k = c ∨ FT k ∨ FC k) → w2.heap.size ≤ k) ∧ Keeps (fun _ => False) w2 w3 ∧ Keeps (fun _ => False) W w3) := ⟨hnw, hK3, hKW3⟩
  clear hC hnw hK3 hKW3 H4
  go_wp2_with (refine wpList_load_mid rfl 40 (.tmp 6) rfl X 0 rfl (ctx rg pc) _ HRa.out.1 Tryz.underlying40 rfl HRa.out.2 ?_; refine Hid.out ?_)
  unfold Hid
  go_wp2_with fail
  refine H6.out.mono ?_
  rintro e w4 ⟨rfl, hC4, hK4⟩
  obtain ⟨R, eR⟩ : ∃ R, R = carryM n ⟨sp0 rg pc c b root clock, xs, [], fun _ => []⟩ := ⟨_, rfl⟩
  have hP := carry_P n rg pc c b root clock xs (fun _ => []) HQ.out.2.2.2.1
  rw [← eR] at hP
  have hcm := carry_cm n ⟨sp0 rg pc c b root clock, xs, [], fun _ => []⟩
  rw [← eR] at hcm
  -- where all lies
  have s0 := H0.out.2.2.2.2
  have s1 := H3.out.2.2.2.size
  have s2 := H5.out.2.2.2.size
  have s3 := H7.out.2.1.size
  have s4 := hK4.size
  have l1 : b < w1.heap.size ∧ g < w1.heap.size := ⟨H3.out.1.mm.blk.lt, H3.out.1.mm.row.lt⟩
  have l2 : b2 < w2.heap.size ∧ g2 < w2.heap.size := ⟨H5.out.1.mm.blk.lt, H5.out.1.mm.row.lt⟩
  have hnw := H7.out.1
  have hcl : w2.heap.size ≤ c := hnw c (.inl rfl)
  have e1 := H3.out.2.1
  have e2 := H3.out.2.2.1
  have e3 := H5.out.2.1
  have e4 := H5.out.2.2.1
  have hM4 : Mn w4 b g n xs := ((H3.out.1.grown H5.out.2.2.2).grown H7.out.2.1).kept hK4 (by show ¬ b = c; omega) (by show ¬ g = c; omega)
  have hQ4 : Mn w4 b2 g2 n xs := (H5.out.1.grown H7.out.2.1).kept hK4 (by show ¬ b2 = c; omega) (by show ¬ g2 = c; omega)
  have hX4 : Blk w4 X (ctx rg pc) 40 := (H0.out.2.1.kept H7.out.2.2 fun h => h).kept hK4 (by show ¬ X = c; omega)
  have hT4 : Is.Tabs w4 := tabs_kept (tabs_kept (tabs_kept H0.out.2.2.2.1 H0.out.1 fun _ h => h.elim) H7.out.2.2 fun _ h => h.elim) hK4 fun k e => hC4.two k (.inl e)
  have hap : ∀ k, (k = c ∨ FT k ∨ FC k) → k ≠ b ∧ k ≠ g := fun k hk => by have := hnw k hk; exact ⟨by omega, by omega⟩
  have H8 := step_any c tb cb b g n root clock rg pc [] (fun _ => []) FT FC xs w4 hC4 hM4 hap hT4 (by have := tabs_two H0.out.2.2.2.1; have := H0.out.1.size; omega) HQ.out.2.2.2.1 HQ.out.2.2.2.2.2.2 R eR
  obtain ⟨rt, t7, xs7, ls7, st7⟩ := R
  dsimp only at H8 hP hcm
  obtain ⟨K, eK⟩ : ∃ K, K = t7.cost + (if rt = 0 then 0 else 10) := ⟨_, rfl⟩
  obtain ⟨cl, ecl⟩ : ∃ cl, cl = t7.call := ⟨_, rfl⟩
  obtain ⟨x, ex⟩ : ∃ x, x = t7.word := ⟨_, rfl⟩
  obtain ⟨rd, erd⟩ : ∃ rd, rd = t7.rd := ⟨_, rfl⟩
  obtain ⟨ad, ead⟩ : ∃ ad, ad = t7.addr := ⟨_, rfl⟩
  obtain ⟨vl, evl⟩ : ∃ vl, vl = t7.val := ⟨_, rfl⟩
  obtain ⟨rgz, erg⟩ : ∃ rgz, rgz = (if rt = 0 then t7.rg else rg) := ⟨_, rfl⟩
  obtain ⟨pcz, epc⟩ : ∃ pcz, pcz = (if rt = 0 then t7.pc else pc) := ⟨_, rfl⟩
  replace H8 : Hid (Calls Tryz.prog 26 #[ptr c, ptr b, .int .i64 root, .int .u32 clock] w4 fun e w' => e = .returned (.tuple #[.agg #[.int .i64 K, .int .i64 rt, .int .i64 cl, .int .u32 pc, .int .u32 x, .bool rd, .int .u32 ad, .int .u32 vl], .int .i64 0]) ∧ Stepped w4 w' c tb cb b g n FT FC rgz pcz xs7 ls7 st7) := by
    refine H8.mono fun e w' ⟨q1, q2⟩ => ⟨?_, by rw [erg, epc]; exact q2⟩
    rw [q1, eK, ecl, ex, erd, ead, evl]
    have e0 : t7.apc = pc := hcm.2.2
    simp only [actCells, e0]
  have hcost := hP.lo
  have hcost2 := hP.hi
  rw [← eK] at hcost hcost2
  have HP : Hid ((∃ i v, rgz = rg.set i v) ∧ (rt ≠ 0 → rd = false ∧ cl = -1 ∧ xs7 = xs ∧ rgz = rg ∧ pcz = pc) ∧ (xs7 = xs ∨ (rt = 0 ∧ x / 67108864 = 20 ∧ ∃ P, addrE n xs root (toW rg x) 2 = 0 ∧ addrV n xs root (toW rg x) 2 = P ∧ P < n * 16 ∧ xs7 = lay xs P [rg.getD (x / 4194304 % 16) 0])) ∧ x < 4294967296) := by
    refine ⟨?_, fun h => ?_, ?_, ?_⟩
    · obtain ⟨i, v, hi⟩ := hP.rgs
      by_cases h0 : rt = 0
      · exact ⟨i, v, by rw [erg, if_pos h0]; exact hi⟩
      · exact ⟨rg.length, 0, by rw [erg, if_neg h0, set_far]⟩
    · obtain ⟨q1, q2, q3⟩ := hP.trap h
      exact ⟨by rw [erd]; exact q1, by rw [ecl]; exact q2, q3, by rw [erg, if_neg h], by rw [epc, if_neg h]⟩
    · rw [ex]; exact hP.ws
    · rw [ex]; exact carry_word_lt _ _ _ _ _ _ _ _ _ _ _ eR
  have H9 : Hid (CoreAt w4 c tb cb rg pc [] (fun _ => []) FT FC ∧ Mn w4 b g n xs ∧ Mn w4 b2 g2 n xs ∧ Blk w4 X (ctx rg pc) 40 ∧ Is.Tabs w4 ∧ (∀ k, (k = c ∨ FT k ∨ FC k) → k ≠ b2 ∧ k ≠ g2 ∧ k ≠ X ∧ w.heap.size ≤ k) ∧ g ≠ b2 ∧ g ≠ g2 ∧ g ≠ X ∧ w.heap.size ≤ g ∧ 2 ≤ g ∧ Keeps (fun _ => False) w w4) := by
    have zz := tabs_two H0.out.2.2.2.1
    have zw := H0.out.1.size
    have zx := H0.out.2.2.1
    refine ⟨hC4, hM4, hQ4, hX4, hT4, fun k hk => ?_, by omega, by omega, by omega, by omega, by omega, ((H0.out.1.trans H7.out.2.2 fun _ _ h => h).trans hK4 fun k hk' e => by omega)⟩
    have := hnw k hk
    exact ⟨by omega, by omega, by omega, by omega⟩
  clear hC4 hK4 eR hP hcm s0 s1 s2 s3 s4 l1 l2 hnw hcl e1 e2 e3 e4 hM4 hQ4 hX4 hT4 hap eK ecl ex erd ead evl erg epc H6 HRa
  go_wp2_with fail
  refine H8.out.mono ?_
  rintro e w5 ⟨rfl, hS⟩
  obtain ⟨⟨FT', FC', hC5, f1, f2, hap5⟩, hM5, hK5⟩ := hS
  obtain ⟨hC4, hM4, hQ4, hX4, hT4, hfar, n1, n2, n3, n4, n5, hk4⟩ := H9.out
  have hQ5 : Mn w5 b2 g2 n xs := hQ4.kept hK5 (fun e => e.elim (fun e => (hfar b2 (.inl e)).1 rfl) fun e => e.elim (fun e => n1 e.symm) fun e => e.elim (fun e => (hfar b2 (.inr (.inl e))).1 rfl) fun e => (hfar b2 (.inr (.inr e))).1 rfl) (fun e => e.elim (fun e => (hfar g2 (.inl e)).2.1 rfl) fun e => e.elim (fun e => n2 e.symm) fun e => e.elim (fun e => (hfar g2 (.inr (.inl e))).2.1 rfl) fun e => (hfar g2 (.inr (.inr e))).2.1 rfl)
  have hX5 : Blk w5 X (ctx rg pc) 40 := hX4.kept hK5 fun e => e.elim (fun e => (hfar X (.inl e)).2.2.1 rfl) fun e => e.elim (fun e => n3 e.symm) fun e => e.elim (fun e => (hfar X (.inr (.inl e))).2.2.1 rfl) fun e => (hfar X (.inr (.inr e))).2.2.1 rfl
  have hT5 : Is.Tabs w5 := Stepped.tabs ⟨⟨FT', FC', hC5, f1, f2, hap5⟩, hM5, hK5⟩ hT4 hC4.two n5
  have hk5 : Keeps (fun _ => False) w w5 := hk4.trans hK5 fun k hk e => e.elim (fun e => by have := (hfar k (.inl e)).2.2.2; omega) fun e => e.elim (fun e => by omega) fun e => e.elim (fun e => by have := (hfar k (.inr (.inl e))).2.2.2; omega) fun e => by have := (hfar k (.inr (.inr e))).2.2.2; omega
  have ha : Keeps (fun _ => False) w5 (w5.alloc (.cells #[.int .i64 K, .int .i64 rt, .int .i64 cl, .int .u32 pc, .int .u32 x, .bool rd, .int .u32 ad, .int .u32 vl] 58)) := (Keeps.refl _ w5).alloc _
  have HCx : Hid (Calls _ _ _ _ _) := context_any c tb cb rgz pcz ls7 st7 FT' FC' (w5.alloc (.cells #[.int .i64 K, .int .i64 rt, .int .i64 cl, .int .u32 pc, .int .u32 x, .bool rd, .int .u32 ad, .int .u32 vl] 58)) (hC5.kept ha fun _ _ h => h)
  have Hz : Hid (rgz.length = 16 ∧ pcz < 4294967296) := ⟨hC5.len, hC5.pcl⟩
  have H10 : Hid (Blk (w5.alloc (.cells #[.int .i64 K, .int .i64 rt, .int .i64 cl, .int .u32 pc, .int .u32 x, .bool rd, .int .u32 ad, .int .u32 vl] 58)) X (ctx rg pc) 40 ∧ Blk (w5.alloc (.cells #[.int .i64 K, .int .i64 rt, .int .i64 cl, .int .u32 pc, .int .u32 x, .bool rd, .int .u32 ad, .int .u32 vl] 58)) w5.heap.size [.int .i64 K, .int .i64 rt, .int .i64 cl, .int .u32 pc, .int .u32 x, .bool rd, .int .u32 ad, .int .u32 vl] 58 ∧ Mn (w5.alloc (.cells #[.int .i64 K, .int .i64 rt, .int .i64 cl, .int .u32 pc, .int .u32 x, .bool rd, .int .u32 ad, .int .u32 vl] 58)) b g n xs7 ∧ Mn (w5.alloc (.cells #[.int .i64 K, .int .i64 rt, .int .i64 cl, .int .u32 pc, .int .u32 x, .bool rd, .int .u32 ad, .int .u32 vl] 58)) b2 g2 n xs ∧ Is.Tabs (w5.alloc (.cells #[.int .i64 K, .int .i64 rt, .int .i64 cl, .int .u32 pc, .int .u32 x, .bool rd, .int .u32 ad, .int .u32 vl] 58)) ∧ Keeps (fun _ => False) w (w5.alloc (.cells #[.int .i64 K, .int .i64 rt, .int .i64 cl, .int .u32 pc, .int .u32 x, .bool rd, .int .u32 ad, .int .u32 vl] 58))) :=
    ⟨hX5.kept ha fun h => h, Blk.new w5 _ 58, hM5.grown ha, hQ5.grown ha, tabs_kept hT5 ha fun _ h => h.elim, hk5.alloc _⟩
  clear hC5 f1 f2 hap5 hM5 hK5 hC4 hM4 hQ4 hX4 hT4 hfar n1 n2 n3 n4 n5 hk4 hQ5 hX5 hT5 hk5 ha H8
  go_wp2_with fail
  refine HCx.out.mono ?_
  rintro e w6 ⟨rfl, hK6⟩
  have hBY : Blk (w6.alloc (.cells #[.int .u32 0, .int .u32 0, .int .u32 0, .int .u32 0, .int .u32 0, .int .u32 0, .int .u32 0, .int .u32 0, .int .u32 0, .int .u32 0, .int .u32 0, .int .u32 0, .int .u32 0, .int .u32 0, .int .u32 0, .int .u32 0, .int .u32 0] 40)) w6.heap.size [.int .u32 0, .int .u32 0, .int .u32 0, .int .u32 0, .int .u32 0, .int .u32 0, .int .u32 0, .int .u32 0, .int .u32 0, .int .u32 0, .int .u32 0, .int .u32 0, .int .u32 0, .int .u32 0, .int .u32 0, .int .u32 0, .int .u32 0] 40 := Blk.new w6 _ 40
  have hl17 : (ctx rgz pcz).length = 17 := ctx_len Hz.out.1 _
  have HTh : Hid ((w6.alloc (.cells #[.int .u32 0, .int .u32 0, .int .u32 0, .int .u32 0, .int .u32 0, .int .u32 0, .int .u32 0, .int .u32 0, .int .u32 0, .int .u32 0, .int .u32 0, .int .u32 0, .int .u32 0, .int .u32 0, .int .u32 0, .int .u32 0, .int .u32 0] 40)).there w6.heap.size 0 (ctx rgz pcz).toArray.size ∧ (Tryz.prog.info? 40).map (·.size) = some (ctx rgz pcz).toArray.size ∧ (ctx rgz pcz).toArray.all (·.oneCell') = true) := by
    refine ⟨fun j hj => ⟨?_, hBY.frozen _⟩, by rw [List.size_toArray, hl17]; kernel_rfl, all_oneCell_toArray (ctx_one _ _)⟩
    have hj' : j < 17 := by simpa [hl17] using hj
    rw [hBY.cell (List.getElem?_eq_getElem (by simpa using hj'))]
    rfl
  have hB2 := blk_setCells (b := w6.heap.size) (t := 40) (ctx rgz pcz) [.int .u32 0, .int .u32 0, .int .u32 0, .int .u32 0, .int .u32 0, .int .u32 0, .int .u32 0, .int .u32 0, .int .u32 0, .int .u32 0, .int .u32 0, .int .u32 0, .int .u32 0, .int .u32 0, .int .u32 0, .int .u32 0, .int .u32 0] [] [] _ hBY (by rw [hl17]; rfl)
  obtain ⟨W6, hW6⟩ : ∃ W6, W6 = (w6.alloc (.cells #[.int .u32 0, .int .u32 0, .int .u32 0, .int .u32 0, .int .u32 0, .int .u32 0, .int .u32 0, .int .u32 0, .int .u32 0, .int .u32 0, .int .u32 0, .int .u32 0, .int .u32 0, .int .u32 0, .int .u32 0, .int .u32 0, .int .u32 0] 40)).setCells w6.heap.size 0 (ctx rgz pcz).toArray.toList := ⟨_, rfl⟩
  have kk6 : Keeps (fun _ => False) w6 W6 := by
    rw [hW6]
    exact ((Keeps.refl (fun _ => False) w6).alloc _).trans (keeps_setCells w6.heap.size _ 0 _) fun k hk e => by omega
  have kk : Keeps (fun _ => False) (w5.alloc (.cells #[.int .i64 K, .int .i64 rt, .int .i64 cl, .int .u32 pc, .int .u32 x, .bool rd, .int .u32 ad, .int .u32 vl] 58)) W6 := hK6.trans kk6 fun _ _ h => h
  obtain ⟨Y, eY⟩ : ∃ Y, Y = w6.heap.size := ⟨_, rfl⟩
  obtain ⟨A, eA⟩ : ∃ A, A = w5.heap.size := ⟨_, rfl⟩
  have hBn : Bn w W6 X Y A b g b2 g2 n rg rgz pc pcz [.int .i64 K, .int .i64 rt, .int .i64 cl, .int .u32 pc, .int .u32 x, .bool rd, .int .u32 ad, .int .u32 vl] xs xs7 := by
    obtain ⟨q1, q2, q3, q4, q5, q6⟩ := H10.out
    refine ⟨q1.kept kk fun h => h, ?_, by rw [eA]; exact q2.kept kk fun h => h, q3.grown kk, q4.grown kk, tabs_kept q5 kk fun _ h => h.elim, q6.trans kk fun _ _ h => h⟩
    rw [eY, hW6]
    simpa using hB2
  have HBn : Hid (Bn w W6 X Y A b g b2 g2 n rg rgz pc pcz [.int .i64 K, .int .i64 rt, .int .i64 cl, .int .u32 pc, .int .u32 x, .bool rd, .int .u32 ad, .int .u32 vl] xs xs7) := hBn
  have HW6 : Hid (W6 = (w6.alloc (.cells #[.int .u32 0, .int .u32 0, .int .u32 0, .int .u32 0, .int .u32 0, .int .u32 0, .int .u32 0, .int .u32 0, .int .u32 0, .int .u32 0, .int .u32 0, .int .u32 0, .int .u32 0, .int .u32 0, .int .u32 0, .int .u32 0, .int .u32 0] 40)).setCells w6.heap.size 0 (ctx rgz pcz).toArray.toList) := hW6
  have HYA : Hid (w6.heap.size = Y ∧ w5.heap.size = A) := ⟨eY.symm, eA.symm⟩
  clear hBY hl17 hB2 hW6 kk6 kk eY eA hBn hK6 HCx
  go_upto_region 11 with (refine wpList_store_mid rfl 40 (.tmp 14) (.tmp 83) rfl w6.heap.size 0 (ctx rgz pcz).toArray rfl rfl HTh.out.1 HTh.out.2.1 HTh.out.2.2 ?_; refine Hid.out ?_)
  unfold Hid
  go_upto_region 11 with fail
  rw [← HW6.out, HYA.out.1, HYA.out.2]
  clear HTh HW6 HYA
  obtain ⟨f, ef⟩ : ∃ f : Nat → Bool, f = fun j => decide ((rgz.getD j 0).toNat ≠ (rg.getD j 0).toNat) := ⟨_, rfl⟩
  have Hf : Hid (f = fun j => decide ((rgz.getD j 0).toNat ≠ (rg.getD j 0).toNat)) := ef
  clear ef
  go_wp2
  go_loopw [15, 16] (fun ch i wr => ∃ j : Nat, j ≤ 16 ∧ i = .int .i64 j ∧ ch = .int .i64 (dif f j : Nat) ∧ Bn w wr X Y A b g b2 g2 n rg rgz pc pcz [.int .i64 K, .int .i64 rt, .int .i64 cl, .int .u32 pc, .int .u32 x, .bool rd, .int .u32 ad, .int .u32 vl] xs xs7)
    (fun _ i _ => 16 - (Ch.intOf i).toNat)
  case atStart => exact ⟨0, by omega, rfl, rfl, HBn.out⟩
  case round =>
    obtain ⟨j, hj, rfl, rfl, hB⟩ := hrel
    have HB : Hid (Bn w wr X Y A b g b2 g2 n rg rgz pc pcz [.int .i64 K, .int .i64 rt, .int .i64 cl, .int .u32 pc, .int .u32 x, .bool rd, .int .u32 ad, .int .u32 vl] xs xs7) := hB
    have hd16 := dif_le (f := f) j
    by_cases hlt : j < 16
    · have c1 := hB.y.cell (ctx_reg pcz j Hz.out.1 hlt)
      have c2 := hB.x.cell (ctx_reg pc j HQ.out.2.2.2.2.1 hlt)
      have hs : dif f (j + 1) = if f j then dif f j + 1 else dif f j := rfl
      have hfj : f j = decide ((rgz.getD j 0).toNat ≠ (rg.getD j 0).toNat) := by rw [Hf.out]
      obtain ⟨v1, e1⟩ : ∃ v1, v1 = (rgz.getD j 0).toNat := ⟨_, rfl⟩
      obtain ⟨v2, e2⟩ : ∃ v2, v2 = (rg.getD j 0).toNat := ⟨_, rfl⟩
      rw [← e1] at c1 hfj
      rw [← e2] at c2 hfj
      have hji : (j : Int) < 16 := by omega
      obtain ⟨D, eD⟩ : ∃ D, D = dif f j := ⟨_, rfl⟩
      rw [← eD] at hs hd16 ⊢
      have hDi : (D : Int) ≤ 16 := by omega
      clear hB e1 e2 eD
      by_cases hv : v1 = v2
      · have HD : Hid (dif f (j + 1) = D) := by show _ = _; rw [hs, hfj]; simp [hv]
        subst hv
        clear hs hfj
        go_wp2_with fail
        go_quiet (fail)
        go_wp2
        go_roundw
        case rel => exact ⟨j + 1, by omega, by go_num, by rw [HD.out], HB.out.grown ((Keeps.refl _ wr).drewN _)⟩
        case measure => simp [Ch.intOf]; omega
      · have HD : Hid (dif f (j + 1) = D + 1) := by show _ = _; rw [hs, hfj]; simp [hv]
        have g1 : (v1 != v2) = true := by simpa using hv
        have g2 : ((v1 : Int) != (v2 : Int)) = true := by simp; omega
        clear hs hfj hv
        go_wp2_with fail
        go_quiet (fail)
        go_wp2
        go_roundw
        case rel => exact ⟨j + 1, by omega, by go_num, by rw [HD.out]; go_num, HB.out.grown ((Keeps.refl _ wr).drewN _)⟩
        case measure => simp [Ch.intOf]; omega
    · obtain rfl : j = 16 := by omega
      have hB0 := hB
      have hD1 : dif f 16 ≤ 1 := by
        obtain ⟨i, v, hi⟩ := HP.out.1
        have := dif_one (f := f) (P := i) (fun j hj => by
          rw [Hf.out] at hj
          simp only [ne_eq, decide_not, Bool.not_eq_true', decide_eq_false_iff_not] at hj
          rw [hi] at hj
          by_cases e : i = j
          · exact e.symm
          · exact absurd (by simp [List.getD, List.getElem?_set_ne e]) hj) 16
        omega
      obtain ⟨D, eD⟩ : ∃ D, D = dif f 16 := ⟨_, rfl⟩
      rw [← eD] at hD1 ⊢
      have k0 : wr.cell? ⟨A, 0, none⟩ = some (.int .i64 K) := hB.a.cell rfl
      have k1 : wr.cell? ⟨A, 1, none⟩ = some (.int .i64 rt) := hB.a.cell rfl
      have k2 : wr.cell? ⟨A, 2, none⟩ = some (.int .i64 cl) := hB.a.cell rfl
      have k3 : wr.cell? ⟨A, 3, none⟩ = some (.int .u32 pc) := hB.a.cell rfl
      have k5 : wr.cell? ⟨A, 5, none⟩ = some (.bool rd) := hB.a.cell rfl
      have k16 : wr.cell? ⟨X, 16, none⟩ = some (.int .u32 pc) := hB.x.cell (ctx_pc pc HQ.out.2.2.2.2.1)
      have gA : decide (1 < D) = false := decide_eq_false (by omega)
      have gA' : decide ((1 : Int) < D) = false := decide_eq_false (by omega)
      have gK : decide (K < 2) = false := decide_eq_false (by omega)
      have gK' : decide (37 < K) = false := decide_eq_false (by omega)
      have H11 : Hid (Calls _ _ _ _ _) := words_any b2 g2 xs wr hB.q.mm
      have hKz : K < 100 := by omega
      have hDz : (D : Int) ≤ 1 := by omega
      have HQ2 : Hid (xs7.length = L) := by show _ = _; rw [hB.m.len, HL.out, HQ.out.1]
      rw [← HL.out] at H11
      have hL16 : (L : Int) ≤ 16384 := by have h1 := HL.out; have h2 := HQ.out.1; have h3 := HQ.out.2.2.1; omega
      have HcostK : Hid (2 ≤ K ∧ K ≤ 37) := ⟨hcost, hcost2⟩
      clear hB hB0 hd16 hlt hj eD hcost hcost2 hD1
      have hkey : rt = 0 ∨ (rt ≠ 0 ∧ rgz = rg ∧ pcz = pc ∧ rd = false ∧ cl = -1) := by
        by_cases h0 : rt = 0
        · exact .inl h0
        · obtain ⟨q1, q2, q3, q4, q5⟩ := HP.out.2.1 h0
          exact .inr ⟨h0, q4, q5, q1, q2⟩
      rcases hkey with h0 | ⟨h0, e1, e2, e3, e4⟩
      · have g3 : ((rt : Int) != 0) = false := by simpa using h0
        clear h0
        go_wp2_with fail
        refine H11.out.mono ?_
        rintro e w7 ⟨rfl, hBo, hK7⟩
        obtain ⟨Go, eGo⟩ : ∃ Go, Go = wr.heap.size := ⟨_, rfl⟩
        rw [← eGo] at hBo ⊢
        have hB7 := HB.out.grown hK7
        have H12 := words_any b g xs7 w7 hB7.m.mm
        rw [HQ2.out] at H12
        replace H12 : Hid (Calls Tryz.prog 33 #[ptr b] w7 fun e w' => e = .returned (.slice (some ⟨w7.heap.size, 0, none⟩) L L) ∧ Blk w' w7.heap.size (wvs xs7) 37 ∧ Keeps (fun _ => False) w7 w') := H12
        have H13 : Hid (Bn w w7 X Y A b g b2 g2 n rg rgz pc pcz [.int .i64 K, .int .i64 rt, .int .i64 cl, .int .u32 pc, .int .u32 x, .bool rd, .int .u32 ad, .int .u32 vl] xs xs7 ∧ Blk w7 Go (wvs xs) 37) := ⟨hB7, hBo⟩
        clear hBo hK7 hB7 eGo H11 k0 k1 k2 k3 k5 k16
        go_wp2_with fail
        refine H12.out.mono ?_
        rintro e w8 ⟨rfl, hBn8, hK8⟩
        obtain ⟨Gn, eGn⟩ : ∃ Gn, Gn = w7.heap.size := ⟨_, rfl⟩
        rw [← eGn] at hBn8 ⊢
        have H14 : Hid (Bn w w8 X Y A b g b2 g2 n rg rgz pc pcz [.int .i64 K, .int .i64 rt, .int .i64 cl, .int .u32 pc, .int .u32 x, .bool rd, .int .u32 ad, .int .u32 vl] xs xs7 ∧ Blk w8 Go (wvs xs) 37 ∧ Blk w8 Gn (wvs xs7) 37) := ⟨H13.out.1.grown hK8, H13.out.2.kept hK8 fun h => h, hBn8⟩
        clear hBn8 hK8 eGn H12
        obtain ⟨f2, ef2⟩ : ∃ f2 : Nat → Bool, f2 = fun j => decide ((xs.getD j 0).toNat ≠ (xs7.getD j 0).toNat) := ⟨_, rfl⟩
        have Hf2 : Hid (f2 = fun j => decide ((xs.getD j 0).toNat ≠ (xs7.getD j 0).toNat)) := ef2
        clear ef2
        go_wp2
        go_loopw [17, 18, 21] (fun wn at' i wr => ∃ j : Nat, j ≤ L ∧ i = .int .i64 j ∧ wn = .int .i64 (dif f2 j : Nat) ∧ at' = .int .i64 (lst f2 j : Nat) ∧ Bn w wr X Y A b g b2 g2 n rg rgz pc pcz [.int .i64 K, .int .i64 rt, .int .i64 cl, .int .u32 pc, .int .u32 x, .bool rd, .int .u32 ad, .int .u32 vl] xs xs7 ∧ Blk wr Go (wvs xs) 37 ∧ Blk wr Gn (wvs xs7) 37)
          (fun _ _ i _ => L - (Ch.intOf i).toNat)
        case atStart => exact ⟨0, by omega, rfl, rfl, rfl, H14.out⟩
        case round =>
          obtain ⟨j, hj, rfl, rfl, rfl, hB, hBo, hBn⟩ := hrel
          have HB' : Hid (Bn w wr X Y A b g b2 g2 n rg rgz pc pcz [.int .i64 K, .int .i64 rt, .int .i64 cl, .int .u32 pc, .int .u32 x, .bool rd, .int .u32 ad, .int .u32 vl] xs xs7 ∧ Blk wr Go (wvs xs) 37 ∧ Blk wr Gn (wvs xs7) 37) := ⟨hB, hBo, hBn⟩
          have hdj := dif_le (f := f2) j
          have hlj := lst_le (f := f2) j
          by_cases hlt : j < L
          · have hj1 : j < xs.length := by have := HL.out; omega
            have hj2 : j < xs7.length := by have := HQ2.out; omega
            have c1 := hBo.cell (wvs_get xs j hj1)
            have c2 := hBn.cell (wvs_get xs7 j hj2)
            rw [← getD_toNat xs j hj1] at c1
            rw [← getD_toNat xs7 j hj2] at c2
            have hs : dif f2 (j + 1) = if f2 j then dif f2 j + 1 else dif f2 j := rfl
            have hs' : lst f2 (j + 1) = if f2 j then j else lst f2 j := rfl
            have hfj : f2 j = decide ((xs.getD j 0).toNat ≠ (xs7.getD j 0).toNat) := by rw [Hf2.out]
            obtain ⟨v1, e1⟩ : ∃ v1, v1 = (xs.getD j 0).toNat := ⟨_, rfl⟩
            obtain ⟨v2, e2⟩ : ∃ v2, v2 = (xs7.getD j 0).toNat := ⟨_, rfl⟩
            rw [← e1] at c1 hfj
            rw [← e2] at c2 hfj
            obtain ⟨D2, eD2⟩ : ∃ D2, D2 = dif f2 j := ⟨_, rfl⟩
            obtain ⟨T2, eT2⟩ : ∃ T2, T2 = lst f2 j := ⟨_, rfl⟩
            rw [← eD2] at hs hdj ⊢
            rw [← eT2] at hs' hlj ⊢
            have hDi : (D2 : Int) ≤ 16384 := by omega
            have hTi : (T2 : Int) ≤ 16384 := by omega
            have hji : (j : Int) < L := by omega
            clear hB hBo hBn e1 e2 eD2 eT2 hj1 hj2
            by_cases hv : v1 = v2
            · have HD : Hid (dif f2 (j + 1) = D2 ∧ lst f2 (j + 1) = T2) := ⟨by rw [hs, hfj]; simp [hv], by rw [hs', hfj]; simp [hv]⟩
              subst hv
              clear hs hfj hs'
              go_wp2_with fail
              go_quiet (fail)
              go_wp2
              go_roundw
              case rel => exact ⟨j + 1, by omega, by go_num, by rw [HD.out.1], by rw [HD.out.2], HB'.out.1.grown ((Keeps.refl _ wr).drewN _), HB'.out.2.1.drewN _, HB'.out.2.2.drewN _⟩
              case measure => simp [Ch.intOf]; omega
            · have HD : Hid (dif f2 (j + 1) = D2 + 1 ∧ lst f2 (j + 1) = j) := ⟨by rw [hs, hfj]; simp [hv], by rw [hs', hfj]; simp [hv]⟩
              have g1 : (v1 != v2) = true := by simpa using hv
              have g2 : ((v1 : Int) != (v2 : Int)) = true := by simp; omega
              clear hs hfj hs' hv
              go_wp2_with fail
              go_quiet (fail)
              go_wp2
              go_roundw
              case rel => exact ⟨j + 1, by omega, by go_num, by rw [HD.out.1]; go_num, by rw [HD.out.2], HB'.out.1.grown ((Keeps.refl _ wr).drewN _), HB'.out.2.1.drewN _, HB'.out.2.2.drewN _⟩
              case measure => simp [Ch.intOf]; omega
          · obtain rfl : j = L := by omega
            have hcases : dif f2 j = 0 ∨ (dif f2 j = 1 ∧ rt = 0 ∧ x / 67108864 = 20 ∧ addrE n xs root (toW rg x) 2 = 0 ∧ addrV n xs root (toW rg x) 2 = lst f2 j ∧ lst f2 j < j ∧ (xs7.getD (lst f2 j) 0) = rg.getD (x / 4194304 % 16) 0) := by
              rcases HP.out.2.2.1 with e | ⟨e0, e1, P, e2, e3, e4, e5⟩
              · left
                have := dif_one (f := f2) (P := 0) (fun k hk => by
                  rw [Hf2.out, e] at hk
                  simp at hk) j
                rcases this with h | ⟨_, _, _, h⟩
                · exact h
                · rw [Hf2.out, e] at h; simp at h
              · have := dif_one (f := f2) (P := P) (fun k hk => by
                  rw [Hf2.out, e5] at hk
                  by_cases e : k = P
                  · exact e
                  · exfalso
                    have hlo := lay_other xs P k (rg.getD (x / 4194304 % 16) 0) (by have h1 := HL.out; have h2 := HQ.out.1; omega) e
                    dsimp only at hk
                    rw [hlo] at hk
                    simp at hk) j
                rcases this with h | ⟨h1, h2, h3, h4⟩
                · exact .inl h
                · refine .inr ⟨h1, e0, e1, e2, by rw [e3, h2], by rw [h2]; exact h3, ?_⟩
                  rw [h2, e5]
                  exact lay_at xs P _ (by have h1 := HL.out; omega)
            have HAw : Hid (Calls Tryz.prog 12 #[] wr fun e w' => e = .returned (.bool true) ∧ Keeps (fun _ => False) wr w') := awake_any wr hB.t
            rcases hcases with h0 | ⟨h1, hrt, hx20, ha1, ha2, hl, hval⟩
            · rw [h0]
              clear hB hBo hBn hdj hlj hlt
              go_wp2_with fail
              refine HAw.out.mono ?_
              rintro e w9 ⟨rfl, hK9⟩
              have HE : Hid (Keeps (fun _ => False) w w9) := HB'.out.1.k.trans hK9 fun _ _ h => h
              clear hK9 HAw
              go_wp2
              go_ret
              exact ⟨rfl, HE.out⟩
            · obtain ⟨xi, exi⟩ : ∃ xi, xi = x % 262144 := ⟨_, rfl⟩
              obtain ⟨xb, exb⟩ : ∃ xb, xb = x / 262144 % 16 := ⟨_, rfl⟩
              obtain ⟨xa, exa⟩ : ∃ xa, xa = x / 4194304 % 16 := ⟨_, rfl⟩
              have q1 : (x : Int) % 262144 = (xi : Int) := by omega
              have q2 : (x : Int) / 262144 % 16 = (xb : Int) := by omega
              obtain ⟨xq, exq⟩ : ∃ xq, xq = x / 4194304 := ⟨_, rfl⟩
              have q3 : (x : Int) / 4194304 = (xq : Int) := by omega
              have q3b : (xq : Int) % 16 = (xa : Int) := by omega
              have q3c : (xq : Int).tmod 16 = (xa : Int) := by rw [Int.tmod_eq_emod_of_nonneg (by omega)]; exact q3b
              clear exq
              have q4 : (x : Int) / 67108864 = 20 := by omega
              have hxb : (xb : Int) < 16 := by omega
              have hxa : (xa : Int) < 16 := by omega
              have hxi : (xi : Int) < 262144 := by omega
              have k1 : wr.cell? ⟨A, 1, none⟩ = some (.int .i64 rt) := hB.a.cell rfl
              have k4 : wr.cell? ⟨A, 4, none⟩ = some (.int .u32 x) := hB.a.cell rfl
              have kb := hB.x.cell (ctx_reg pc xb HQ.out.2.2.2.2.1 (by omega))
              have ka := hB.x.cell (ctx_reg pc xa HQ.out.2.2.2.2.1 (by omega))
              rw [exa.symm] at hval
              obtain ⟨T2, eT2⟩ : ∃ T2, T2 = lst f2 j := ⟨_, rfl⟩
              rw [← eT2] at ha2 hl hval hlj ⊢
              rw [h1]
              have hj2 : T2 < xs7.length := by have := HQ2.out; omega
              have kn := hBn.cell (wvs_get xs7 T2 hj2)
              rw [← getD_toNat xs7 T2 hj2, hval] at kn
              obtain ⟨va, eva⟩ : ∃ va, va = (rg.getD xa 0).toNat := ⟨_, rfl⟩
              obtain ⟨vb, evb⟩ : ∃ vb, vb = (rg.getD xb 0).toNat := ⟨_, rfl⟩
              rw [← eva] at ka kn
              rw [← evb] at kb
              obtain ⟨tw, etw⟩ : ∃ tw, tw = toW rg x := ⟨_, rfl⟩
              rw [← etw] at ha1 ha2
              have htw : (tw : Int) = ((vb : Int) + (Is.sgn18 (xi : Int)) % 4294967296) % 4294967296 := by
                rw [etw, toW, wd_cast, wd_cast, ← exb, ← exi, ← evb]
              have Htw : Hid ((tw : Int) = ((vb : Int) + (Is.sgn18 (xi : Int)) % 4294967296) % 4294967296) := htw
              have HAd := address_any b2 g2 n xs root tw 2 wr hB.q
              rw [ha1, ha2] at HAd
              replace HAd : Hid (Calls Tryz.prog 35 #[ptr b2, .int .i64 root, .int .i64 tw, .int .i64 2] wr fun e w' => e = .returned (.tuple #[.int .i64 T2, .int .i64 0]) ∧ Keeps (fun _ => False) wr w') := HAd
              have hTL : (T2 : Int) < j := by omega
              have hvb : vb < 4294967296 := by rw [evb]; exact rg_lt _
              have HS : Hid (wr.cell? ⟨Gn, T2, none⟩ = some (.int .u32 va) ∧ wr.cell? ⟨A, 4, none⟩ = some (.int .u32 x) ∧ wr.cell? ⟨X, xa, none⟩ = some (.int .u32 va)) := ⟨kn, k4, ka⟩
              have Hx4 : Hid (x < 4294967296) := HP.out.2.2.2
              have hxz : (x : Int) < 4294967296 := by have := HP.out.2.2.2; omega
              subst hrt
              clear hB hBo hBn hdj hlj hlt exi exb exa eT2 hj2 eva evb etw ha1 ha2 hval kn ka h1 hl hx20 htw HAw
              by_cases hi : 131072 ≤ xi
              · have gi : decide ((131072 : Int) ≤ xi) = true := decide_eq_true (by omega)
                have gi' : decide (131072 ≤ xi) = true := decide_eq_true (by omega)
                go_wp2_with fail
                rw [show ((vb : Int) + ((xi : Int) - 262144)) % 4294967296 = (tw : Int) by rw [Htw.out]; unfold Is.sgn18; rw [if_pos (by omega)]; omega]
                refine HAd.out.mono ?_
                rintro e w9 ⟨rfl, hK9⟩
                have hS : w9.cell? ⟨Gn, T2, none⟩ = some (.int .u32 va) ∧ w9.cell? ⟨A, 4, none⟩ = some (.int .u32 x) ∧ w9.cell? ⟨X, xa, none⟩ = some (.int .u32 va) := ⟨Ch.cell_kept HS.out.1 hK9 fun h => h, Ch.cell_kept HS.out.2.1 hK9 fun h => h, Ch.cell_kept HS.out.2.2 hK9 fun h => h⟩
                have HAw9 : Hid (Calls Tryz.prog 12 #[] w9.drew fun e w' => e = .returned (.bool true) ∧ Keeps (fun _ => False) w9.drew w') := awake_any w9.drew (tabs_kept HB'.out.1.t ((hK9.trans ((Keeps.refl (fun _ => False) w9).drewN 1) fun _ _ h => h)) fun _ h => h.elim)
                have HK9 : Hid (Keeps (fun _ => False) w w9) := HB'.out.1.k.trans hK9 fun _ _ h => h
                clear hK9 HAd k1 k4 kb
                go_wp2_with fail
                obtain ⟨hS1, hS2, hS3⟩ := hS
                refine Ch.region_tail 22 (by kernel_rfl) ?_
                simp only [List.take_succ_cons, List.take_zero, List.drop_succ_cons, List.drop_zero]
                repeat still_step
                refine wpStill_nil ?_
                go_wp2_with fail
                refine HAw9.out.mono ?_
                rintro e w10 ⟨rfl, hK10⟩
                have HE : Hid (Keeps (fun _ => False) w w10) := HK9.out.trans (((Keeps.refl (fun _ => False) w9).drew).trans hK10 fun _ _ h => h) fun _ _ h => h
                clear hK10
                clear hS1 hS2 hS3
                go_wp2
                go_ret
                exact ⟨rfl, HE.out⟩
              · have gi : decide ((131072 : Int) ≤ xi) = false := decide_eq_false (by omega)
                have gi' : decide (131072 ≤ xi) = false := decide_eq_false (by omega)
                go_wp2_with fail
                rw [show ((vb : Int) + (xi : Int)) % 4294967296 = (tw : Int) by rw [Htw.out]; unfold Is.sgn18; rw [if_neg (by omega)]; omega]
                refine HAd.out.mono ?_
                rintro e w9 ⟨rfl, hK9⟩
                have hS : w9.cell? ⟨Gn, T2, none⟩ = some (.int .u32 va) ∧ w9.cell? ⟨A, 4, none⟩ = some (.int .u32 x) ∧ w9.cell? ⟨X, xa, none⟩ = some (.int .u32 va) := ⟨Ch.cell_kept HS.out.1 hK9 fun h => h, Ch.cell_kept HS.out.2.1 hK9 fun h => h, Ch.cell_kept HS.out.2.2 hK9 fun h => h⟩
                have HAw9 : Hid (Calls Tryz.prog 12 #[] w9.drew fun e w' => e = .returned (.bool true) ∧ Keeps (fun _ => False) w9.drew w') := awake_any w9.drew (tabs_kept HB'.out.1.t ((hK9.trans ((Keeps.refl (fun _ => False) w9).drewN 1) fun _ _ h => h)) fun _ h => h.elim)
                have HK9 : Hid (Keeps (fun _ => False) w w9) := HB'.out.1.k.trans hK9 fun _ _ h => h
                clear hK9 HAd k1 k4 kb
                go_wp2_with fail
                obtain ⟨hS1, hS2, hS3⟩ := hS
                refine Ch.region_tail 22 (by kernel_rfl) ?_
                simp only [List.take_succ_cons, List.take_zero, List.drop_succ_cons, List.drop_zero]
                repeat still_step
                refine wpStill_nil ?_
                go_wp2_with fail
                refine HAw9.out.mono ?_
                rintro e w10 ⟨rfl, hK10⟩
                have HE : Hid (Keeps (fun _ => False) w w10) := HK9.out.trans (((Keeps.refl (fun _ => False) w9).drew).trans hK10 fun _ _ h => h) fun _ _ h => h
                clear hK10
                clear hS1 hS2 hS3
                go_wp2
                go_ret
                exact ⟨rfl, HE.out⟩
      · have g3 : ((rt : Int) != 0) = true := by simpa using h0
        have hYc := HB.out.y
        rw [e1, e2] at hYc
        have HLX : Hid (wr.rangeAt X 0 (ctx rg pc) ∧ wr.rangeAt Y 0 (ctx rg pc) ∧ (Tryz.prog.info? 40).map (·.size) = some (ctx rg pc).length) := ⟨fun j v hv => by rw [Nat.zero_add]; exact HB.out.x.cell hv, fun j v hv => by rw [Nat.zero_add]; exact hYc.cell hv, by rw [ctx_len HQ.out.2.2.2.2.1]; kernel_rfl⟩
        have HNE : Hid (_ = _) := neq_ctx rg pc HQ.out.2.2.2.2.1 HQ.out.2.2.2.2.2.1 wr
        clear h0 hYc e1 e2
        go_upto_region 21 with (refine wpList_load_on rfl 40 (.tmp 14) rfl Y 0 rfl (ctx rg pc) _ HLX.out.2.1 Tryz.underlying40 rfl HLX.out.2.2 ?_; refine Hid.out ?_)
        unfold Hid
        go_upto_region 21 with (refine wpList_load_on rfl 40 (.tmp 6) rfl X 0 rfl (ctx rg pc) _ HLX.out.1 Tryz.underlying40 rfl HLX.out.2.2 ?_; refine Hid.out ?_)
        unfold Hid
        clear HLX
        go_upto_region 21 with (refine wpList_neq_on rfl 40 (.tmp 122) (.tmp 123) 40 rfl _ _ _ rfl rfl (by kernel_rfl) HNE.out ?_; refine Hid.out ?_)
        unfold Hid
        go_upto_region 21 with fail
        clear HNE e3 e4 g3
        go_wp2_with fail
        refine H11.out.mono ?_
        rintro e w7 ⟨rfl, hBo, hK7⟩
        obtain ⟨Go, eGo⟩ : ∃ Go, Go = wr.heap.size := ⟨_, rfl⟩
        rw [← eGo] at hBo ⊢
        have hB7 := HB.out.grown hK7
        have H12 := words_any b g xs7 w7 hB7.m.mm
        rw [HQ2.out] at H12
        replace H12 : Hid (Calls Tryz.prog 33 #[ptr b] w7 fun e w' => e = .returned (.slice (some ⟨w7.heap.size, 0, none⟩) L L) ∧ Blk w' w7.heap.size (wvs xs7) 37 ∧ Keeps (fun _ => False) w7 w') := H12
        have H13 : Hid (Bn w w7 X Y A b g b2 g2 n rg rgz pc pcz [.int .i64 K, .int .i64 rt, .int .i64 cl, .int .u32 pc, .int .u32 x, .bool rd, .int .u32 ad, .int .u32 vl] xs xs7 ∧ Blk w7 Go (wvs xs) 37) := ⟨hB7, hBo⟩
        clear hBo hK7 hB7 eGo H11 k0 k1 k2 k3 k5 k16
        go_wp2_with fail
        refine H12.out.mono ?_
        rintro e w8 ⟨rfl, hBn8, hK8⟩
        obtain ⟨Gn, eGn⟩ : ∃ Gn, Gn = w7.heap.size := ⟨_, rfl⟩
        rw [← eGn] at hBn8 ⊢
        have H14 : Hid (Bn w w8 X Y A b g b2 g2 n rg rgz pc pcz [.int .i64 K, .int .i64 rt, .int .i64 cl, .int .u32 pc, .int .u32 x, .bool rd, .int .u32 ad, .int .u32 vl] xs xs7 ∧ Blk w8 Go (wvs xs) 37 ∧ Blk w8 Gn (wvs xs7) 37) := ⟨H13.out.1.grown hK8, H13.out.2.kept hK8 fun h => h, hBn8⟩
        clear hBn8 hK8 eGn H12
        obtain ⟨f2, ef2⟩ : ∃ f2 : Nat → Bool, f2 = fun j => decide ((xs.getD j 0).toNat ≠ (xs7.getD j 0).toNat) := ⟨_, rfl⟩
        have Hf2 : Hid (f2 = fun j => decide ((xs.getD j 0).toNat ≠ (xs7.getD j 0).toNat)) := ef2
        clear ef2
        go_wp2
        go_loopw [17, 18, 21] (fun wn at' i wr => ∃ j : Nat, j ≤ L ∧ i = .int .i64 j ∧ wn = .int .i64 (dif f2 j : Nat) ∧ at' = .int .i64 (lst f2 j : Nat) ∧ Bn w wr X Y A b g b2 g2 n rg rgz pc pcz [.int .i64 K, .int .i64 rt, .int .i64 cl, .int .u32 pc, .int .u32 x, .bool rd, .int .u32 ad, .int .u32 vl] xs xs7 ∧ Blk wr Go (wvs xs) 37 ∧ Blk wr Gn (wvs xs7) 37)
          (fun _ _ i _ => L - (Ch.intOf i).toNat)
        case atStart => exact ⟨0, by omega, rfl, rfl, rfl, H14.out⟩
        case round =>
          obtain ⟨j, hj, rfl, rfl, rfl, hB, hBo, hBn⟩ := hrel
          have HB' : Hid (Bn w wr X Y A b g b2 g2 n rg rgz pc pcz [.int .i64 K, .int .i64 rt, .int .i64 cl, .int .u32 pc, .int .u32 x, .bool rd, .int .u32 ad, .int .u32 vl] xs xs7 ∧ Blk wr Go (wvs xs) 37 ∧ Blk wr Gn (wvs xs7) 37) := ⟨hB, hBo, hBn⟩
          have hdj := dif_le (f := f2) j
          have hlj := lst_le (f := f2) j
          by_cases hlt : j < L
          · have hj1 : j < xs.length := by have := HL.out; omega
            have hj2 : j < xs7.length := by have := HQ2.out; omega
            have c1 := hBo.cell (wvs_get xs j hj1)
            have c2 := hBn.cell (wvs_get xs7 j hj2)
            rw [← getD_toNat xs j hj1] at c1
            rw [← getD_toNat xs7 j hj2] at c2
            have hs : dif f2 (j + 1) = if f2 j then dif f2 j + 1 else dif f2 j := rfl
            have hs' : lst f2 (j + 1) = if f2 j then j else lst f2 j := rfl
            have hfj : f2 j = decide ((xs.getD j 0).toNat ≠ (xs7.getD j 0).toNat) := by rw [Hf2.out]
            obtain ⟨v1, e1⟩ : ∃ v1, v1 = (xs.getD j 0).toNat := ⟨_, rfl⟩
            obtain ⟨v2, e2⟩ : ∃ v2, v2 = (xs7.getD j 0).toNat := ⟨_, rfl⟩
            rw [← e1] at c1 hfj
            rw [← e2] at c2 hfj
            obtain ⟨D2, eD2⟩ : ∃ D2, D2 = dif f2 j := ⟨_, rfl⟩
            obtain ⟨T2, eT2⟩ : ∃ T2, T2 = lst f2 j := ⟨_, rfl⟩
            rw [← eD2] at hs hdj ⊢
            rw [← eT2] at hs' hlj ⊢
            have hDi : (D2 : Int) ≤ 16384 := by omega
            have hTi : (T2 : Int) ≤ 16384 := by omega
            have hji : (j : Int) < L := by omega
            clear hB hBo hBn e1 e2 eD2 eT2 hj1 hj2
            by_cases hv : v1 = v2
            · have HD : Hid (dif f2 (j + 1) = D2 ∧ lst f2 (j + 1) = T2) := ⟨by rw [hs, hfj]; simp [hv], by rw [hs', hfj]; simp [hv]⟩
              subst hv
              clear hs hfj hs'
              go_wp2_with fail
              go_quiet (fail)
              go_wp2
              go_roundw
              case rel => exact ⟨j + 1, by omega, by go_num, by rw [HD.out.1], by rw [HD.out.2], HB'.out.1.grown ((Keeps.refl _ wr).drewN _), HB'.out.2.1.drewN _, HB'.out.2.2.drewN _⟩
              case measure => simp [Ch.intOf]; omega
            · have HD : Hid (dif f2 (j + 1) = D2 + 1 ∧ lst f2 (j + 1) = j) := ⟨by rw [hs, hfj]; simp [hv], by rw [hs', hfj]; simp [hv]⟩
              have g1 : (v1 != v2) = true := by simpa using hv
              have g2 : ((v1 : Int) != (v2 : Int)) = true := by simp; omega
              clear hs hfj hs' hv
              go_wp2_with fail
              go_quiet (fail)
              go_wp2
              go_roundw
              case rel => exact ⟨j + 1, by omega, by go_num, by rw [HD.out.1]; go_num, by rw [HD.out.2], HB'.out.1.grown ((Keeps.refl _ wr).drewN _), HB'.out.2.1.drewN _, HB'.out.2.2.drewN _⟩
              case measure => simp [Ch.intOf]; omega
          · obtain rfl : j = L := by omega
            have hcases : dif f2 j = 0 ∨ (dif f2 j = 1 ∧ rt = 0 ∧ x / 67108864 = 20 ∧ addrE n xs root (toW rg x) 2 = 0 ∧ addrV n xs root (toW rg x) 2 = lst f2 j ∧ lst f2 j < j ∧ (xs7.getD (lst f2 j) 0) = rg.getD (x / 4194304 % 16) 0) := by
              rcases HP.out.2.2.1 with e | ⟨e0, e1, P, e2, e3, e4, e5⟩
              · left
                have := dif_one (f := f2) (P := 0) (fun k hk => by
                  rw [Hf2.out, e] at hk
                  simp at hk) j
                rcases this with h | ⟨_, _, _, h⟩
                · exact h
                · rw [Hf2.out, e] at h; simp at h
              · have := dif_one (f := f2) (P := P) (fun k hk => by
                  rw [Hf2.out, e5] at hk
                  by_cases e : k = P
                  · exact e
                  · exfalso
                    have hlo := lay_other xs P k (rg.getD (x / 4194304 % 16) 0) (by have h1 := HL.out; have h2 := HQ.out.1; omega) e
                    dsimp only at hk
                    rw [hlo] at hk
                    simp at hk) j
                rcases this with h | ⟨h1, h2, h3, h4⟩
                · exact .inl h
                · refine .inr ⟨h1, e0, e1, e2, by rw [e3, h2], by rw [h2]; exact h3, ?_⟩
                  rw [h2, e5]
                  exact lay_at xs P _ (by have h1 := HL.out; omega)
            have HAw : Hid (Calls Tryz.prog 12 #[] wr fun e w' => e = .returned (.bool true) ∧ Keeps (fun _ => False) wr w') := awake_any wr hB.t
            rcases hcases with h0 | ⟨h1, hrt, hx20, ha1, ha2, hl, hval⟩
            · rw [h0]
              clear hB hBo hBn hdj hlj hlt
              go_wp2_with fail
              refine HAw.out.mono ?_
              rintro e w9 ⟨rfl, hK9⟩
              have HE : Hid (Keeps (fun _ => False) w w9) := HB'.out.1.k.trans hK9 fun _ _ h => h
              clear hK9 HAw
              go_wp2
              go_ret
              exact ⟨rfl, HE.out⟩
            · obtain ⟨xi, exi⟩ : ∃ xi, xi = x % 262144 := ⟨_, rfl⟩
              obtain ⟨xb, exb⟩ : ∃ xb, xb = x / 262144 % 16 := ⟨_, rfl⟩
              obtain ⟨xa, exa⟩ : ∃ xa, xa = x / 4194304 % 16 := ⟨_, rfl⟩
              have q1 : (x : Int) % 262144 = (xi : Int) := by omega
              have q2 : (x : Int) / 262144 % 16 = (xb : Int) := by omega
              obtain ⟨xq, exq⟩ : ∃ xq, xq = x / 4194304 := ⟨_, rfl⟩
              have q3 : (x : Int) / 4194304 = (xq : Int) := by omega
              have q3b : (xq : Int) % 16 = (xa : Int) := by omega
              have q3c : (xq : Int).tmod 16 = (xa : Int) := by rw [Int.tmod_eq_emod_of_nonneg (by omega)]; exact q3b
              clear exq
              have q4 : (x : Int) / 67108864 = 20 := by omega
              have hxb : (xb : Int) < 16 := by omega
              have hxa : (xa : Int) < 16 := by omega
              have hxi : (xi : Int) < 262144 := by omega
              have k1 : wr.cell? ⟨A, 1, none⟩ = some (.int .i64 rt) := hB.a.cell rfl
              have k4 : wr.cell? ⟨A, 4, none⟩ = some (.int .u32 x) := hB.a.cell rfl
              have kb := hB.x.cell (ctx_reg pc xb HQ.out.2.2.2.2.1 (by omega))
              have ka := hB.x.cell (ctx_reg pc xa HQ.out.2.2.2.2.1 (by omega))
              rw [exa.symm] at hval
              obtain ⟨T2, eT2⟩ : ∃ T2, T2 = lst f2 j := ⟨_, rfl⟩
              rw [← eT2] at ha2 hl hval hlj ⊢
              rw [h1]
              have hj2 : T2 < xs7.length := by have := HQ2.out; omega
              have kn := hBn.cell (wvs_get xs7 T2 hj2)
              rw [← getD_toNat xs7 T2 hj2, hval] at kn
              obtain ⟨va, eva⟩ : ∃ va, va = (rg.getD xa 0).toNat := ⟨_, rfl⟩
              obtain ⟨vb, evb⟩ : ∃ vb, vb = (rg.getD xb 0).toNat := ⟨_, rfl⟩
              rw [← eva] at ka kn
              rw [← evb] at kb
              obtain ⟨tw, etw⟩ : ∃ tw, tw = toW rg x := ⟨_, rfl⟩
              rw [← etw] at ha1 ha2
              have htw : (tw : Int) = ((vb : Int) + (Is.sgn18 (xi : Int)) % 4294967296) % 4294967296 := by
                rw [etw, toW, wd_cast, wd_cast, ← exb, ← exi, ← evb]
              have Htw : Hid ((tw : Int) = ((vb : Int) + (Is.sgn18 (xi : Int)) % 4294967296) % 4294967296) := htw
              have HAd := address_any b2 g2 n xs root tw 2 wr hB.q
              rw [ha1, ha2] at HAd
              replace HAd : Hid (Calls Tryz.prog 35 #[ptr b2, .int .i64 root, .int .i64 tw, .int .i64 2] wr fun e w' => e = .returned (.tuple #[.int .i64 T2, .int .i64 0]) ∧ Keeps (fun _ => False) wr w') := HAd
              have hTL : (T2 : Int) < j := by omega
              have hvb : vb < 4294967296 := by rw [evb]; exact rg_lt _
              have HS : Hid (wr.cell? ⟨Gn, T2, none⟩ = some (.int .u32 va) ∧ wr.cell? ⟨A, 4, none⟩ = some (.int .u32 x) ∧ wr.cell? ⟨X, xa, none⟩ = some (.int .u32 va)) := ⟨kn, k4, ka⟩
              have Hx4 : Hid (x < 4294967296) := HP.out.2.2.2
              have hxz : (x : Int) < 4294967296 := by have := HP.out.2.2.2; omega
              subst hrt
              clear hB hBo hBn hdj hlj hlt exi exb exa eT2 hj2 eva evb etw ha1 ha2 hval kn ka h1 hl hx20 htw HAw
              by_cases hi : 131072 ≤ xi
              · have gi : decide ((131072 : Int) ≤ xi) = true := decide_eq_true (by omega)
                have gi' : decide (131072 ≤ xi) = true := decide_eq_true (by omega)
                go_wp2_with fail
                rw [show ((vb : Int) + ((xi : Int) - 262144)) % 4294967296 = (tw : Int) by rw [Htw.out]; unfold Is.sgn18; rw [if_pos (by omega)]; omega]
                refine HAd.out.mono ?_
                rintro e w9 ⟨rfl, hK9⟩
                have hS : w9.cell? ⟨Gn, T2, none⟩ = some (.int .u32 va) ∧ w9.cell? ⟨A, 4, none⟩ = some (.int .u32 x) ∧ w9.cell? ⟨X, xa, none⟩ = some (.int .u32 va) := ⟨Ch.cell_kept HS.out.1 hK9 fun h => h, Ch.cell_kept HS.out.2.1 hK9 fun h => h, Ch.cell_kept HS.out.2.2 hK9 fun h => h⟩
                have HAw9 : Hid (Calls Tryz.prog 12 #[] w9.drew fun e w' => e = .returned (.bool true) ∧ Keeps (fun _ => False) w9.drew w') := awake_any w9.drew (tabs_kept HB'.out.1.t ((hK9.trans ((Keeps.refl (fun _ => False) w9).drewN 1) fun _ _ h => h)) fun _ h => h.elim)
                have HK9 : Hid (Keeps (fun _ => False) w w9) := HB'.out.1.k.trans hK9 fun _ _ h => h
                clear hK9 HAd k1 k4 kb
                go_wp2_with fail
                obtain ⟨hS1, hS2, hS3⟩ := hS
                refine Ch.region_tail 22 (by kernel_rfl) ?_
                simp only [List.take_succ_cons, List.take_zero, List.drop_succ_cons, List.drop_zero]
                repeat still_step
                refine wpStill_nil ?_
                go_wp2_with fail
                refine HAw9.out.mono ?_
                rintro e w10 ⟨rfl, hK10⟩
                have HE : Hid (Keeps (fun _ => False) w w10) := HK9.out.trans (((Keeps.refl (fun _ => False) w9).drew).trans hK10 fun _ _ h => h) fun _ _ h => h
                clear hK10
                clear hS1 hS2 hS3
                go_wp2
                go_ret
                exact ⟨rfl, HE.out⟩
              · have gi : decide ((131072 : Int) ≤ xi) = false := decide_eq_false (by omega)
                have gi' : decide (131072 ≤ xi) = false := decide_eq_false (by omega)
                go_wp2_with fail
                rw [show ((vb : Int) + (xi : Int)) % 4294967296 = (tw : Int) by rw [Htw.out]; unfold Is.sgn18; rw [if_neg (by omega)]; omega]
                refine HAd.out.mono ?_
                rintro e w9 ⟨rfl, hK9⟩
                have hS : w9.cell? ⟨Gn, T2, none⟩ = some (.int .u32 va) ∧ w9.cell? ⟨A, 4, none⟩ = some (.int .u32 x) ∧ w9.cell? ⟨X, xa, none⟩ = some (.int .u32 va) := ⟨Ch.cell_kept HS.out.1 hK9 fun h => h, Ch.cell_kept HS.out.2.1 hK9 fun h => h, Ch.cell_kept HS.out.2.2 hK9 fun h => h⟩
                have HAw9 : Hid (Calls Tryz.prog 12 #[] w9.drew fun e w' => e = .returned (.bool true) ∧ Keeps (fun _ => False) w9.drew w') := awake_any w9.drew (tabs_kept HB'.out.1.t ((hK9.trans ((Keeps.refl (fun _ => False) w9).drewN 1) fun _ _ h => h)) fun _ h => h.elim)
                have HK9 : Hid (Keeps (fun _ => False) w w9) := HB'.out.1.k.trans hK9 fun _ _ h => h
                clear hK9 HAd k1 k4 kb
                go_wp2_with fail
                obtain ⟨hS1, hS2, hS3⟩ := hS
                refine Ch.region_tail 22 (by kernel_rfl) ?_
                simp only [List.take_succ_cons, List.take_zero, List.drop_succ_cons, List.drop_zero]
                repeat still_step
                refine wpStill_nil ?_
                go_wp2_with fail
                refine HAw9.out.mono ?_
                rintro e w10 ⟨rfl, hK10⟩
                have HE : Hid (Keeps (fun _ => False) w w10) := HK9.out.trans (((Keeps.refl (fun _ => False) w9).drew).trans hK10 fun _ _ h => h) fun _ _ h => h
                clear hK10
                clear hS1 hS2 hS3
                go_wp2
                go_ret
                exact ⟨rfl, HE.out⟩


end Go.Proofs.YtipejahmjdamjaaGreatDoor
namespace Go.Proofs.YtipejahmjdamjaaGreatDoor
open Go.RowKit Go.Shelf
set_option linter.unusedVariables false
set_option maxRecDepth 6000

/-- Words that are no memory. -/
theorem walls_no (a : Option Addr) (L cp : Nat) (root : Int) (rg : List UInt32) (pc clock : Nat) (w : World) (hL : L ≤ 9223372036854775807) (hn : ¬ ∃ n, L = n * 16 ∧ 1 ≤ n ∧ n ≤ 1024) (hT : Is.Tabs w) :
    Calls Tryz.prog 6 #[.slice a L cp, .int .i64 root, .agg (ctx rg pc).toArray, .int .u32 clock] w fun e w' => e = .returned (.bool true) ∧ Keeps (fun _ => False) w w' := by
  obtain ⟨W, hW⟩ : ∃ W, W = w.alloc (.cells (ctx rg pc).toArray 40) := ⟨_, rfl⟩
  have hK0 : Keeps (fun _ => False) w W := by rw [hW]; exact (Keeps.refl _ w).alloc _
  have H1 : Hid (Calls _ _ _ _ _) := of_no a L cp W hL hn
  have H2 : Hid (Calls _ _ _ _ _) := awake_any W (tabs_kept hT hK0 fun _ h => h.elim)
  have HW : Hid (W = w.alloc (.cells (ctx rg pc).toArray 40)) := hW
  have H0 : Hid (Keeps (fun _ => False) w W) := hK0
  clear hW hK0 hL hn hT
  go_enter Tryz.func6, Tryz.ntmps6
  go_upto_region 1 with fail
  rw [← HW.out]
  go_wp2_with fail
  refine H1.out.mono ?_
  rintro e W' ⟨k, rfl, hk, hw⟩
  obtain rfl := hw.symm
  have g1 : ((k : Int) != 0) = true := by simp; omega
  clear hw hk
  go_wp2_with fail
  refine H2.out.mono ?_
  rintro e w2 ⟨rfl, hK2⟩
  have HE : Hid (Keeps (fun _ => False) w w2) := H0.out.trans hK2 fun _ _ h => h
  clear hK2 H2
  go_wp2
  go_ret
  exact ⟨rfl, HE.out⟩

end Go.Proofs.YtipejahmjdamjaaGreatDoor
