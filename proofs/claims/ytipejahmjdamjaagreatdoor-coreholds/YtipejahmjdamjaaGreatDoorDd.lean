import Derived.Test.YtipejahmjdamjaaGreatDoorDc
namespace Go.Proofs.YtipejahmjdamjaaGreatDoor
open Go.RowKit Go.Shelf
set_option linter.unusedVariables false
set_option maxRecDepth 6000

/-- The act is begun. -/
theorem SpAt.begun {W5 : World} {s : Nat} {rg : List UInt32} {pc c m root clock : Nat} (h : SpAt W5 s (spz rg pc c m root clock)) : SpAt ((((((((W5.setCell ⟨s, 26, none⟩ (.int .i64 0)).setCell ⟨s, 27, none⟩ (.int .i64 0)).setCell ⟨s, 28, none⟩ (.int .i64 (-1))).setCell ⟨s, 29, none⟩ (.int .u32 pc)).setCell ⟨s, 30, none⟩ (.int .u32 0)).setCell ⟨s, 31, none⟩ (.bool false)).setCell ⟨s, 32, none⟩ (.int .u32 0)).setCell ⟨s, 33, none⟩ (.int .u32 0)) s (sp0 rg pc c m root clock) ∧ Keeps (· = s) W5 ((((((((W5.setCell ⟨s, 26, none⟩ (.int .i64 0)).setCell ⟨s, 27, none⟩ (.int .i64 0)).setCell ⟨s, 28, none⟩ (.int .i64 (-1))).setCell ⟨s, 29, none⟩ (.int .u32 pc)).setCell ⟨s, 30, none⟩ (.int .u32 0)).setCell ⟨s, 31, none⟩ (.bool false)).setCell ⟨s, 32, none⟩ (.int .u32 0)).setCell ⟨s, 33, none⟩ (.int .u32 0)) := by
  have h1 := h.set 10 (.int .i64 0) (spz rg pc c m root clock) rfl rfl h.la h.lb h.ld
  have h2 := h1.set 11 (.int .i64 0) (spz rg pc c m root clock) rfl rfl h.la h.lb h.ld
  have h3 := h2.set 12 (.int .i64 (-1)) { spz rg pc c m root clock with call := -1 } rfl rfl h.la h.lb h.ld
  have h4 := h3.set 13 (.int .u32 pc) (sp0 rg pc c m root clock) rfl rfl h.la h.lb h.ld
  have h5 := h4.set 14 (.int .u32 0) (sp0 rg pc c m root clock) rfl rfl h.la h.lb h.ld
  have h6 := h5.set 15 (.bool false) (sp0 rg pc c m root clock) rfl rfl h.la h.lb h.ld
  have h7 := h6.set 16 (.int .u32 0) (sp0 rg pc c m root clock) rfl rfl h.la h.lb h.ld
  have h8 := h7.set 17 (.int .u32 0) (sp0 rg pc c m root clock) rfl rfl h.la h.lb h.ld
  exact ⟨h8, ((((((((Keeps.refl (· = s) W5).setCell _ _ fun _ => rfl).setCell _ _ fun _ => rfl).setCell _ _ fun _ => rfl).setCell _ _ fun _ => rfl).setCell _ _ fun _ => rfl).setCell _ _ fun _ => rfl).setCell _ _ fun _ => rfl).setCell _ _ fun _ => rfl⟩

theorem carry_cost (n : Nat) (rg : List UInt32) (pc c b root clock : Nat) (xs : List UInt32) (ls : List Tl.Lf) (st : Nat → List Int) :
    0 ≤ (carryM n ⟨sp0 rg pc c b root clock, xs, ls, st⟩).2.t.cost ∧ (carryM n ⟨sp0 rg pc c b root clock, xs, ls, st⟩).2.t.cost ≤ 100 := by
  obtain ⟨t, et⟩ : ∃ t, t = sp0 rg pc c b root clock := ⟨_, rfl⟩
  have hc : t.cost = 0 := by rw [et]; rfl
  rw [← et]
  have hW := rcW_bd ls t.pc
  unfold carryM
  dsimp only
  cases hn : rcP n xs t.root ls t.pc 4 with
  | none => dsimp only; simp only [Sp.pay]; omega
  | some P =>
    have hC := toC_bd (some P) st
    simp only [toC] at hC
    dsimp only
    cases hd : Is.decOk (xs.getD P 0).toNat with
    | false => simp only [Bool.false_eq_true, if_false, Sp.fetched]; omega
    | true =>
      simp only [if_true]
      obtain ⟨M2, eM⟩ : ∃ M2 : Mc, M2 = ⟨((t.fetched (t.cost + rcW ls t.pc + Ch.cost (P / 4) st) (xs.getD P 0).toNat).dec (xs.getD P 0).toNat).goes (wd (t.pc + 1)), xs, rcL n xs t.root ls t.pc, Ch.step (P / 4) st⟩ := ⟨_, rfl⟩
      have e1 : M2.t.cost = t.cost + rcW ls t.pc + Ch.cost (P / 4) st := by rw [eM]; rfl
      rw [← eM]
      have hS := (opM_same n M2).1
      have h1 := hS.lo
      have h2 := hS.hi
      have h3 := costOf_bd (Is.rdOp (xs.getD P 0).toNat)
      by_cases h0 : (opM n M2).1 = 0
      · rw [if_pos h0]; simp only [Sp.pay]; omega
      · rw [if_neg h0]; omega

theorem carry_cm (n : Nat) (M : Mc) : (carryM n M).2.t.c = M.t.c ∧ (carryM n M).2.t.m = M.t.m ∧ (carryM n M).2.t.apc = M.t.apc := by
  obtain ⟨t, xs, ls, st⟩ := M
  unfold carryM
  dsimp only
  cases hn : rcP n xs t.root ls t.pc 4 with
  | none => exact ⟨rfl, rfl, rfl⟩
  | some P =>
    dsimp only
    cases hd : Is.decOk (xs.getD P 0).toNat with
    | false => exact ⟨rfl, rfl, rfl⟩
    | true =>
      simp only [if_true]
      obtain ⟨M2, eM⟩ : ∃ M2 : Mc, M2 = ⟨((t.fetched (t.cost + rcW ls t.pc + Ch.cost (P / 4) st) (xs.getD P 0).toNat).dec (xs.getD P 0).toNat).goes (wd (t.pc + 1)), xs, rcL n xs t.root ls t.pc, Ch.step (P / 4) st⟩ := ⟨_, rfl⟩
      have e1 : M2.t.c = t.c ∧ M2.t.m = t.m ∧ M2.t.apc = t.apc := by rw [eM]; exact ⟨rfl, rfl, rfl⟩
      rw [← eM]
      have hS := (opM_same n M2).1
      by_cases h0 : (opM n M2).1 = 0
      · rw [if_pos h0]; exact ⟨by rw [← e1.1]; exact hS.c, by rw [← e1.2.1]; exact hS.m, by rw [← e1.2.2]; exact hS.apc⟩
      · rw [if_neg h0]; exact ⟨by rw [← e1.1]; exact hS.c, by rw [← e1.2.1]; exact hS.m, by rw [← e1.2.2]; exact hS.apc⟩

theorem opM_pc (n : Nat) (M : Mc) (hp : M.t.pc < 4294967296) : (opM n M).2.t.pc < 4294967296 := by
  obtain ⟨t, xs, ls, st⟩ := M
  dsimp only at hp
  unfold opM
  dsimp only
  by_cases h : t.op = 2
  · rw [if_pos h]
    exact hp
  rw [if_neg h]
  clear h
  by_cases h : t.op = 3
  · rw [if_pos h]
    exact hp
  rw [if_neg h]
  clear h
  by_cases h : t.op = 4
  · rw [if_pos h]
    exact hp
  rw [if_neg h]
  clear h
  by_cases h : 5 ≤ t.op ∧ t.op ≤ 17
  · rw [if_pos h]
    by_cases h' : Al.doE t.op t.D.toNat = 0
    · rw [if_pos h']; exact hp
    · rw [if_neg h']; exact hp
  rw [if_neg h]
  clear h
  by_cases h : t.op = 18
  · rw [if_pos h]
    exact hp
  rw [if_neg h]
  clear h
  by_cases h : t.op = 19
  · rw [if_pos h]
    cases hP : rcP n xs t.root ls t.x 1 with
    | none => exact hp
    | some P => exact hp
  rw [if_neg h]
  clear h
  by_cases h : t.op = 20
  · rw [if_pos h]
    cases hP : rcP n xs t.root ls t.x 2 with
    | none => exact hp
    | some P => exact hp
  rw [if_neg h]
  clear h
  by_cases h : 21 ≤ t.op ∧ t.op ≤ 25
  · rw [if_pos h]
    dsimp only
    cases Al.takeV t.op t.A.toNat t.B.toNat with
    | false => exact hp
    | true => exact wd_lt (t.apc + wd t.imm)
  rw [if_neg h]
  clear h
  by_cases h : t.op = 26
  · rw [if_pos h]
    exact wd_lt (t.apc + wd t.imm)
  rw [if_neg h]
  clear h
  by_cases h : t.op = 27
  · rw [if_pos h]
    exact wd_lt (t.apc + wd t.imm)
  rw [if_neg h]
  clear h
  by_cases h : t.op = 28
  · rw [if_pos h]
    exact rg_lt t.A
  rw [if_neg h]
  clear h
  by_cases h : t.op = 29
  · rw [if_pos h]
    exact hp
  rw [if_neg h]
  clear h
  by_cases h : t.op = 30
  · rw [if_pos h]
    by_cases h' : 0 ≤ t.imm ∧ t.imm < 8
    · rw [if_pos h']; exact hp
    · rw [if_neg h']; exact hp
  rw [if_neg h]
  clear h
  exact hp

theorem carry_pc (n : Nat) (rg : List UInt32) (pc c b root clock : Nat) (xs : List UInt32) (ls : List Tl.Lf) (st : Nat → List Int) (h : pc < 4294967296) (R : Nat × Mc) (hR : R = carryM n ⟨sp0 rg pc c b root clock, xs, ls, st⟩) : R.2.t.pc < 4294967296 := by
  obtain ⟨t, et⟩ : ∃ t, t = sp0 rg pc c b root clock := ⟨_, rfl⟩
  have hc : t.pc < 4294967296 := by rw [et]; exact h
  rw [hR, ← et]
  unfold carryM
  dsimp only
  cases hn : rcP n xs t.root ls t.pc 4 with
  | none => exact hc
  | some P =>
    dsimp only
    cases hd : Is.decOk (xs.getD P 0).toNat with
    | false => exact hc
    | true =>
      simp only [if_true]
      obtain ⟨M2, eM⟩ : ∃ M2 : Mc, M2 = ⟨((t.fetched (t.cost + rcW ls t.pc + Ch.cost (P / 4) st) (xs.getD P 0).toNat).dec (xs.getD P 0).toNat).goes (wd (t.pc + 1)), xs, rcL n xs t.root ls t.pc, Ch.step (P / 4) st⟩ := ⟨_, rfl⟩
      have hp2 : M2.t.pc < 4294967296 := by rw [eM]; exact wd_lt (t.pc + 1)
      rw [← eM]
      have hS := opM_pc n M2 hp2
      by_cases h0 : (opM n M2).1 = 0
      · rw [if_pos h0]; exact hS
      · rw [if_neg h0]; exact hS

theorem act_told {w : World} {A : Nat} {z0 z1 z2 z3 z4 z5 z6 z7 : Value} (h : Blk w A [z0, z1, z2, z3, z4, z5, z6, z7] 58) (v0 v1 v2 v3 v4 v5 v6 v7 : Value) :
    Blk ((((((((w.setCell ⟨A, 0, none⟩ v0).setCell ⟨A, 1, none⟩ v1).setCell ⟨A, 2, none⟩ v2).setCell ⟨A, 3, none⟩ v3).setCell ⟨A, 4, none⟩ v4).setCell ⟨A, 5, none⟩ v5).setCell ⟨A, 6, none⟩ v6).setCell ⟨A, 7, none⟩ v7) A [v0, v1, v2, v3, v4, v5, v6, v7] 58 ∧
    Keeps (· = A) w ((((((((w.setCell ⟨A, 0, none⟩ v0).setCell ⟨A, 1, none⟩ v1).setCell ⟨A, 2, none⟩ v2).setCell ⟨A, 3, none⟩ v3).setCell ⟨A, 4, none⟩ v4).setCell ⟨A, 5, none⟩ v5).setCell ⟨A, 6, none⟩ v6).setCell ⟨A, 7, none⟩ v7) :=
  ⟨(((((((h.setCell 0 v0).setCell 1 v1).setCell 2 v2).setCell 3 v3).setCell 4 v4).setCell 5 v5).setCell 6 v6).setCell 7 v7,
   ((((((((Keeps.refl (· = A) w).setCell _ _ fun _ => rfl).setCell _ _ fun _ => rfl).setCell _ _ fun _ => rfl).setCell _ _ fun _ => rfl).setCell _ _ fun _ => rfl).setCell _ _ fun _ => rfl).setCell _ _ fun _ => rfl).setCell _ _ fun _ => rfl⟩

theorem load_act {w : World} {A : Nat} {l : List Value} (h : Blk w A l 58) (hl : l.length = 8) : (loadVar 58 ⟨A, 0, none⟩).run Tryz.prog w = .ok (.agg l.toArray) w :=
  load_blk h 58 _ Tryz.underlying58 rfl (by rw [hl]; kernel_rfl)

/-- The end of a step: the core and the memory. -/
theorem stepped_of {w W6 w7 wf : World} {c tb cb b g n s : Nat} {rg0 rg1 : List UInt32} {pc0 pc1 : Nat} {ls0 ls : List Tl.Lf} {st0 st : Nat → List Int} {FT FC F1 F2 : Nat → Prop} {xs : List UInt32} {t : Sp} {cs : List Value}
    (h0 : CoreAt w c tb cb rg0 pc0 ls0 st0 FT FC) (hlt : ∀ k, (k = c ∨ FT k ∨ FC k) → k < w.heap.size) (hap : ∀ k, (k = c ∨ FT k ∨ FC k) → k ≠ b ∧ k ≠ g) (hs : s = w.heap.size + 1) (hb : b < w.heap.size) (hg : g < w.heap.size) (h2 : 2 ≤ w.heap.size)
    (k6 : Keeps (fun k => k = s) w W6) (hz : s < W6.heap.size) (hF : Far W6 w7 s tb cb g n cs t xs ls st FT FC F1 F2) (tc : t.c = c) (tm : t.m = b) (kf : Keeps (fun k => k = s ∨ k = w.heap.size ∨ k = c) w7 wf)
    (hB : Blk wf c (coreCells rg1 pc1 tb cb) 91) (hl : rg1.length = 16) (hp : pc1 < 4294967296) : Stepped w wf c tb cb b g n FT FC rg1 pc1 xs ls st := by
  have k6s := k6.size
  have hE := hF.env
  subst tc; subst tm
  have f1 : ∀ k, F1 k → k ≠ s ∧ k ≠ w.heap.size ∧ k ≠ t.c := fun k hk => by
    have a := hE.ft k hk
    refine ⟨a.1, fun e => ?_, a.2.1⟩
    rcases hF.a1 k hk with e2 | e2
    · have := hlt k (.inr (.inl e2)); omega
    · omega
  have f2 : ∀ k, F2 k → k ≠ s ∧ k ≠ w.heap.size ∧ k ≠ t.c := fun k hk => by
    have a := hE.fc k hk
    refine ⟨a.1, fun e => ?_, a.2.1⟩
    rcases hF.a2 k hk with e2 | e2
    · have := hlt k (.inr (.inr e2)); omega
    · omega
  have c1 := hlt t.c (.inl rfl)
  refine ⟨⟨F1, F2, ⟨hB, hl, hE.tl.kept kf fun k hk e => ?_, hE.ca.kept kf fun k hk e => ?_, fun k hk => ⟨(hE.ft k hk).2.1, (hE.ft k hk).2.2.2.2⟩, fun k hk => (hE.fc k hk).2.1, hE.good, hp, fun k hk => ?_⟩, fun k hk => ?_, fun k hk => ?_, fun k hk => ?_⟩, hE.mn.kept kf ?_ ?_, ?_⟩
  · have := f1 k hk; omega
  · have := f2 k hk; omega
  · rcases hk with e | e | e
    · exact h0.two k (.inl e)
    · rcases hF.a1 k e with e2 | e2
      · exact h0.two k (.inr (.inl e2))
      · omega
    · rcases hF.a2 k e with e2 | e2
      · exact h0.two k (.inr (.inr e2))
      · omega
  · rcases hF.a1 k hk with e2 | e2
    · exact .inl e2
    · exact .inr (by omega)
  · rcases hF.a2 k hk with e2 | e2
    · exact .inl e2
    · exact .inr (by omega)
  · rcases hk with e | e | e
    · exact hap k (.inl e)
    · exact ⟨(hE.ft k e).2.2.1, (hE.ft k e).2.2.2.1⟩
    · exact ⟨(hE.fc k e).2.2.1, (hE.fc k e).2.2.2⟩
  · intro e
    have := (hap t.c (.inl rfl)).1
    omega
  · intro e
    have := (hap t.c (.inl rfl)).2
    omega
  · refine ((k6.mono (T := fun k => k = t.c ∨ k = g ∨ FT k ∨ FC k) fun k hk e => by omega).trans hF.kp fun k hk e => ?_).trans kf fun k hk e => ?_
    · rcases e with e | e | e | e
      · omega
      · exact .inr (.inl e)
      · exact .inr (.inr (.inl e))
      · exact .inr (.inr (.inr e))
    · rcases e with e | e | e
      · omega
      · omega
      · exact .inl e

set_option maxHeartbeats 8000000 in
theorem step_any (c tb cb b g n root clock : Nat) (rg : List UInt32) (pc : Nat) (ls : List Tl.Lf) (st : Nat → List Int) (FT FC : Nat → Prop) (xs : List UInt32) (w : World) (h : CoreAt w c tb cb rg pc ls st FT FC) (hM : Mn w b g n xs)
    (hap : ∀ k, (k = c ∨ FT k ∨ FC k) → k ≠ b ∧ k ≠ g) (hT : Is.Tabs w) (hg : 2 ≤ g) (hr : root < n) (hk : clock < 4294967296) (R : Nat × Mc) (hR : R = carryM n ⟨sp0 rg pc c b root clock, xs, ls, st⟩) :
    Calls Tryz.prog 26 #[ptr c, ptr b, .int .i64 root, .int .u32 clock] w fun e w' => e = .returned (.tuple #[.agg (actCells { R.2.t with cost := R.2.t.cost + (if R.1 = 0 then 0 else 10), trap := R.1 }).toArray, .int .i64 0]) ∧
      Stepped w w' c tb cb b g n FT FC (if R.1 = 0 then R.2.t.rg else rg) (if R.1 = 0 then R.2.t.pc else pc) R.2.xs R.2.ls R.2.st := by
  obtain ⟨W, hW⟩ : ∃ W, W = w.alloc (.cells #[.int .i64 0, .int .i64 0, .int .i64 0, .int .u32 0, .int .u32 0, .bool false, .int .u32 0, .int .u32 0] 58) := ⟨_, rfl⟩
  have hK : Keeps (fun _ => False) w W := by rw [hW]; exact (Keeps.refl _ w).alloc _
  have hBA : Blk W w.heap.size [.int .i64 0, .int .i64 0, .int .i64 0, .int .u32 0, .int .u32 0, .bool false, .int .u32 0, .int .u32 0] 58 := by rw [hW]; exact Blk.new w _ 58
  have hC := h.kept hK fun _ _ h => h
  have hMW := hM.grown hK
  obtain ⟨s, hs⟩ : ∃ s, s = W.heap.size := ⟨_, rfl⟩
  have hsA : s = w.heap.size + 1 := by rw [hs, hW]; simp
  obtain ⟨W5, hW5⟩ : ∃ W5, W5 = W.alloc (.cells (spz rg pc c b root clock).cells.toArray 113) := ⟨_, rfl⟩
  have hK5 : Keeps (fun _ => False) W W5 := by rw [hW5]; exact (Keeps.refl _ W).alloc _
  have hS5 : SpAt W5 s (spz rg pc c b root clock) := ⟨by rw [hW5, hs]; exact Blk.new W _ 113, h.len, by show (0 : Nat) < 16; omega, by show (0 : Nat) < 16; omega, by show (0 : Nat) < 16; omega⟩
  have HFr : Hid (Calls Tryz.prog 34 #[ptr b] W fun e w' => e = .returned (.int .i64 n) ∧ w' = W) := frames_any b g xs n W hMW.mm hMW.len
  have HRa : Hid (W.rangeAt c 0 (ctx rg pc) ∧ (Tryz.prog.info? 89).map (·.size) = some (ctx rg pc).length) := ⟨hC.range, info89 h.len pc⟩
  have HBu : Hid (Tryz.prog.built 113 [(0, .agg (ctx rg pc).toArray), (1, ptr c), (2, ptr b), (3, .int .i64 root), (4, .int .u32 clock)] = some (spz rg pc c b root clock).cells.toArray) := built113 rg pc c b root clock h.len
  have HH : Hid (CoreAt w c tb cb rg pc ls st FT FC ∧ Mn w b g n xs ∧ (∀ k, (k = c ∨ FT k ∨ FC k) → k ≠ b ∧ k ≠ g) ∧ Is.Tabs w ∧ 2 ≤ g ∧ clock < 4294967296) := ⟨h, hM, hap, hT, hg, hk⟩
  have HW : Hid (W = w.alloc (.cells #[.int .i64 0, .int .i64 0, .int .i64 0, .int .u32 0, .int .u32 0, .bool false, .int .u32 0, .int .u32 0] 58)) := hW
  have HW5 : Hid (W5 = W.alloc (.cells (spz rg pc c b root clock).cells.toArray 113) ∧ s = W.heap.size ∧ s = w.heap.size + 1) := ⟨hW5, hs, hsA⟩
  have HK5 : Hid (Keeps (fun _ => False) w W ∧ Keeps (fun _ => False) W W5 ∧ SpAt W5 s (spz rg pc c b root clock) ∧ Blk W w.heap.size [.int .i64 0, .int .i64 0, .int .i64 0, .int .u32 0, .int .u32 0, .bool false, .int .u32 0, .int .u32 0] 58) := ⟨hK, hK5, hS5, hBA⟩
  have HR : Hid (R = carryM n ⟨sp0 rg pc c b root clock, xs, ls, st⟩) := hR
  have g1 : decide ((root : Int) < 0) = false := decide_eq_false (by omega)
  have g2 : decide (n ≤ root) = false := decide_eq_false (by omega)
  clear h hM hap hT hg hr hk hK hBA hC hMW hs hsA hK5 hS5 hW hW5 hR
  go_enter Tryz.func26, Tryz.ntmps26
  go_upto_region 3 with fail
  rw [← HW.out]
  go_wp2_with fail
  refine HFr.out.mono ?_
  rintro e W' ⟨rfl, hw⟩
  obtain rfl := hw.symm
  clear hw
  go_upto_region 6 with (refine wpList_load_mid rfl 89 (.tmp 29) rfl c 0 rfl (ctx rg pc) _ HRa.out.1 Tryz.underlying89 rfl HRa.out.2 ?_; refine Hid.out ?_)
  unfold Hid
  go_upto_region 6 with (refine wpList_build_to rfl 113 #[(0, .tmp 30), (1, .tmp 31), (2, .tmp 32), (3, .tmp 33), (4, .tmp 34)] rfl (spz rg pc c b root clock).cells.toArray ?hf ?hh; all_goals refine Hid.out ?_)
  unfold Hid
  go_upto_region 6 with fail
  rw [← HW5.out.1, ← HW5.out.2.1]
  obtain ⟨hK, hK5, hS5, hBA⟩ := HK5.out
  obtain ⟨hC0, hM0, hap, hT0, hg2, hck⟩ := HH.out
  have hKw5 : Keeps (fun _ => False) w W5 := hK.trans hK5 fun _ _ h => h
  have hC5 := hC0.kept hKw5 fun _ _ h => h
  have hsw := HW5.out.2.2
  have hlt : ∀ k, (k = c ∨ FT k ∨ FC k) → k < w.heap.size := fun k hk => by
    rcases hk with e | e | e
    · rw [e]; exact hC0.blk.lt
    · exact hC0.tl.lt k e
    · exact hC0.ca.lt k e
  have hbg : b < w.heap.size ∧ g < w.heap.size := ⟨hM0.mm.blk.lt, hM0.mm.row.lt⟩
  obtain ⟨hS6, hK6⟩ := hS5.begun
  have hC6 := hC5.kept hK6 fun k hk e => by have := hlt k hk; omega
  have hM6 := (hM0.grown hKw5).kept hK6 (by omega) (by omega)
  have hE6 := env_of hC6 hM6 hap hS6 (fun k hk => by have := hlt k hk; omega) (by omega) (by omega) rfl rfl
  have hT6 : Is.Tabs ((((((((W5.setCell ⟨s, 26, none⟩ (.int .i64 0)).setCell ⟨s, 27, none⟩ (.int .i64 0)).setCell ⟨s, 28, none⟩ (.int .i64 (-1))).setCell ⟨s, 29, none⟩ (.int .u32 pc)).setCell ⟨s, 30, none⟩ (.int .u32 0)).setCell ⟨s, 31, none⟩ (.bool false)).setCell ⟨s, 32, none⟩ (.int .u32 0)).setCell ⟨s, 33, none⟩ (.int .u32 0)) := tabs_kept (tabs_kept hT0 hKw5 fun _ h => h.elim) hK6 fun k e => by have := tabs_two hT0; omega
  have h26 : ∀ k, (k = s ∨ k = g ∨ FT k ∨ FC k) → 2 ≤ k := fun k hk => by
    rcases hk with e | e | e | e
    · have := tabs_two hT0; omega
    · omega
    · exact hC0.two k (.inr (.inl e))
    · exact hC0.two k (.inr (.inr e))
  have HCa : Hid (Op 57 s tb cb g n (coreCells rg pc tb cb) FT FC ((((((((W5.setCell ⟨s, 26, none⟩ (.int .i64 0)).setCell ⟨s, 27, none⟩ (.int .i64 0)).setCell ⟨s, 28, none⟩ (.int .i64 (-1))).setCell ⟨s, 29, none⟩ (.int .u32 pc)).setCell ⟨s, 30, none⟩ (.int .u32 0)).setCell ⟨s, 31, none⟩ (.bool false)).setCell ⟨s, 32, none⟩ (.int .u32 0)).setCell ⟨s, 33, none⟩ (.int .u32 0)) R) := by rw [HR.out]; exact carry_any s tb cb g n _ ⟨sp0 rg pc c b root clock, xs, ls, st⟩ FT FC _ hE6 rfl hC0.pcl hck hT6 h26
  have c0 : W5.cell? ⟨c, 16, none⟩ = some (.int .u32 pc) := hC5.blk.cell (cs17 rg pc tb cb hC0.len).2.2.1
  have q0 : W5.cell? ⟨s, 26, none⟩ = some (.int .i64 0) := hS5.get 10 rfl
  have z0 := hS5.frozen 26
  have q1 : W5.cell? ⟨s, 27, none⟩ = some (.int .i64 0) := hS5.get 11 rfl
  have z1 := hS5.frozen 27
  have q2 : W5.cell? ⟨s, 28, none⟩ = some (.int .i64 0) := hS5.get 12 rfl
  have z2 := hS5.frozen 28
  have q3 : W5.cell? ⟨s, 29, none⟩ = some (.int .u32 0) := hS5.get 13 rfl
  have z3 := hS5.frozen 29
  have q4 : W5.cell? ⟨s, 30, none⟩ = some (.int .u32 0) := hS5.get 14 rfl
  have z4 := hS5.frozen 30
  have q5 : W5.cell? ⟨s, 31, none⟩ = some (.bool false) := hS5.get 15 rfl
  have z5 := hS5.frozen 31
  have q6 : W5.cell? ⟨s, 32, none⟩ = some (.int .u32 0) := hS5.get 16 rfl
  have z6 := hS5.frozen 32
  have q7 : W5.cell? ⟨s, 33, none⟩ = some (.int .u32 0) := hS5.get 17 rfl
  have z7 := hS5.frozen 33
  have H6 : Hid (Keeps (fun _ => False) w W5 ∧ Keeps (· = s) W5 ((((((((W5.setCell ⟨s, 26, none⟩ (.int .i64 0)).setCell ⟨s, 27, none⟩ (.int .i64 0)).setCell ⟨s, 28, none⟩ (.int .i64 (-1))).setCell ⟨s, 29, none⟩ (.int .u32 pc)).setCell ⟨s, 30, none⟩ (.int .u32 0)).setCell ⟨s, 31, none⟩ (.bool false)).setCell ⟨s, 32, none⟩ (.int .u32 0)).setCell ⟨s, 33, none⟩ (.int .u32 0)) ∧ Is.Tabs ((((((((W5.setCell ⟨s, 26, none⟩ (.int .i64 0)).setCell ⟨s, 27, none⟩ (.int .i64 0)).setCell ⟨s, 28, none⟩ (.int .i64 (-1))).setCell ⟨s, 29, none⟩ (.int .u32 pc)).setCell ⟨s, 30, none⟩ (.int .u32 0)).setCell ⟨s, 31, none⟩ (.bool false)).setCell ⟨s, 32, none⟩ (.int .u32 0)).setCell ⟨s, 33, none⟩ (.int .u32 0)) ∧ (∀ k, (k = c ∨ FT k ∨ FC k) → k < w.heap.size) ∧ s = w.heap.size + 1 ∧ b < w.heap.size ∧ g < w.heap.size) := ⟨hKw5, hK6, hT6, hlt, hsw, hbg.1, hbg.2⟩
  clear hK hK5 hS5 hC0 hM0 hap hT0 hg2 hck hKw5 hC5 hsw hlt hbg hS6 hK6 hC6 hM6 hE6 hT6 h26
  have HBA : Hid (Blk ((((((((W5.setCell ⟨s, 26, none⟩ (.int .i64 0)).setCell ⟨s, 27, none⟩ (.int .i64 0)).setCell ⟨s, 28, none⟩ (.int .i64 (-1))).setCell ⟨s, 29, none⟩ (.int .u32 pc)).setCell ⟨s, 30, none⟩ (.int .u32 0)).setCell ⟨s, 31, none⟩ (.bool false)).setCell ⟨s, 32, none⟩ (.int .u32 0)).setCell ⟨s, 33, none⟩ (.int .u32 0)) w.heap.size [.int .i64 0, .int .i64 0, .int .i64 0, .int .u32 0, .int .u32 0, .bool false, .int .u32 0, .int .u32 0] 58) := by
    have h1 := H6.out.2.2.2.2.1
    exact ((hBA.kept HK5.out.2.1 fun h => h).kept H6.out.2.1 (by show ¬ w.heap.size = s; omega))
  clear hBA
  have Hz : Hid (s < (((((((((W5.setCell ⟨s, 26, none⟩ (.int .i64 0)).setCell ⟨s, 27, none⟩ (.int .i64 0)).setCell ⟨s, 28, none⟩ (.int .i64 (-1))).setCell ⟨s, 29, none⟩ (.int .u32 pc)).setCell ⟨s, 30, none⟩ (.int .u32 0)).setCell ⟨s, 31, none⟩ (.bool false)).setCell ⟨s, 32, none⟩ (.int .u32 0)).setCell ⟨s, 33, none⟩ (.int .u32 0))).heap.size) := by
    have h1 := HK5.out.2.2.1.blk.lt
    have h2 := H6.out.2.1.size
    show s < _
    omega
  obtain ⟨rt, t7, xs7, ls7, st7⟩ := R
  go_upto_region 7 with fail
  obtain ⟨W6, hW6⟩ : ∃ W6, W6 = ((((((((W5.setCell ⟨s, 26, none⟩ (.int .i64 0)).setCell ⟨s, 27, none⟩ (.int .i64 0)).setCell ⟨s, 28, none⟩ (.int .i64 (-1))).setCell ⟨s, 29, none⟩ (.int .u32 pc)).setCell ⟨s, 30, none⟩ (.int .u32 0)).setCell ⟨s, 31, none⟩ (.bool false)).setCell ⟨s, 32, none⟩ (.int .u32 0)).setCell ⟨s, 33, none⟩ (.int .u32 0)) := ⟨_, rfl⟩
  rw [← hW6] at HCa H6 HBA Hz ⊢
  clear hW6 c0 q0 q1 q2 q3 q4 q5 q6 q7 z0 z1 z2 z3 z4 z5 z6 z7
  go_wp2_with fail
  refine HCa.out.mono ?_
  rintro e w7 ⟨rfl, hM7⟩
  dsimp only at hM7
  obtain ⟨F7, C7, hF7⟩ := hM7.far
  have hE7 := hF7.env
  obtain ⟨a0, e0⟩ : ∃ a, a = t7.cost := ⟨_, rfl⟩
  obtain ⟨a1, e1⟩ : ∃ a, a = t7.trap := ⟨_, rfl⟩
  obtain ⟨a2, e2⟩ : ∃ a, a = t7.call := ⟨_, rfl⟩
  obtain ⟨a3, e3⟩ : ∃ a, a = t7.apc := ⟨_, rfl⟩
  obtain ⟨a4, e4⟩ : ∃ a, a = t7.word := ⟨_, rfl⟩
  obtain ⟨a5, e5⟩ : ∃ a, a = t7.rd := ⟨_, rfl⟩
  obtain ⟨a6, e6⟩ : ∃ a, a = t7.addr := ⟨_, rfl⟩
  obtain ⟨a7, e7⟩ : ∃ a, a = t7.val := ⟨_, rfl⟩
  have q0 : w7.cell? ⟨s, 26, none⟩ = some (.int .i64 a0) := by rw [e0]; exact hE7.sp.get 10 rfl
  have z0 := hE7.sp.frozen 26
  have q1 : w7.cell? ⟨s, 27, none⟩ = some (.int .i64 a1) := by rw [e1]; exact hE7.sp.get 11 rfl
  have z1 := hE7.sp.frozen 27
  have q2 : w7.cell? ⟨s, 28, none⟩ = some (.int .i64 a2) := by rw [e2]; exact hE7.sp.get 12 rfl
  have z2 := hE7.sp.frozen 28
  have q3 : w7.cell? ⟨s, 29, none⟩ = some (.int .u32 a3) := by rw [e3]; exact hE7.sp.get 13 rfl
  have z3 := hE7.sp.frozen 29
  have q4 : w7.cell? ⟨s, 30, none⟩ = some (.int .u32 a4) := by rw [e4]; exact hE7.sp.get 14 rfl
  have z4 := hE7.sp.frozen 30
  have q5 : w7.cell? ⟨s, 31, none⟩ = some (.bool a5) := by rw [e5]; exact hE7.sp.get 15 rfl
  have z5 := hE7.sp.frozen 31
  have q6 : w7.cell? ⟨s, 32, none⟩ = some (.int .u32 a6) := by rw [e6]; exact hE7.sp.get 16 rfl
  have z6 := hE7.sp.frozen 32
  have q7 : w7.cell? ⟨s, 33, none⟩ = some (.int .u32 a7) := by rw [e7]; exact hE7.sp.get 17 rfl
  have z7 := hE7.sp.frozen 33
  have Ha : Hid (a0 = t7.cost ∧ a1 = t7.trap ∧ a2 = t7.call ∧ a3 = t7.apc ∧ a4 = t7.word ∧ a5 = t7.rd ∧ a6 = t7.addr ∧ a7 = t7.val) := ⟨e0, e1, e2, e3, e4, e5, e6, e7⟩
  have nA : ¬ (fun k => k = s ∨ k = g ∨ FT k ∨ FC k) w.heap.size := fun e => by
    obtain ⟨_, _, _, hlt, hs, hb, hg⟩ := H6.out
    rcases e with e | e | e | e
    · omega
    · omega
    · exact absurd (hlt _ (.inr (.inl e))) (Nat.lt_irrefl _)
    · exact absurd (hlt _ (.inr (.inr e))) (Nat.lt_irrefl _)
  have hB7 : Blk w7 w.heap.size [.int .i64 0, .int .i64 0, .int .i64 0, .int .u32 0, .int .u32 0, .bool false, .int .u32 0, .int .u32 0] 58 := HBA.out.kept hF7.kp nA
  have y0 := hB7.cell (i := 0) rfl
  have x0 := hB7.frozen 0
  have y1 := hB7.cell (i := 1) rfl
  have x1 := hB7.frozen 1
  have y2 := hB7.cell (i := 2) rfl
  have x2 := hB7.frozen 2
  have y3 := hB7.cell (i := 3) rfl
  have x3 := hB7.frozen 3
  have y4 := hB7.cell (i := 4) rfl
  have x4 := hB7.frozen 4
  have y5 := hB7.cell (i := 5) rfl
  have x5 := hB7.frozen 5
  have y6 := hB7.cell (i := 6) rfl
  have x6 := hB7.frozen 6
  have y7 := hB7.cell (i := 7) rfl
  have x7 := hB7.frozen 7
  have HF7 : Hid (Far W6 w7 s tb cb g n (coreCells rg pc tb cb) t7 xs7 ls7 st7 FT FC F7 C7) := hF7
  have HB7 : Hid (Blk w7 w.heap.size [.int .i64 0, .int .i64 0, .int .i64 0, .int .u32 0, .int .u32 0, .bool false, .int .u32 0, .int .u32 0] 58) := hB7
  have Hb : Hid (0 ≤ a0 ∧ a0 ≤ 100) := by
    have := carry_cost n rg pc c b root clock xs ls st
    rw [← HR.out] at this
    rw [show a0 = t7.cost from e0]
    exact this
  obtain ⟨b1, b2⟩ := Hb.out
  clear hM7 hF7 hE7 hB7 nA e0 e1 e2 e3 e4 e5 e6 e7 HCa HBA
  by_cases h0 : rt = 0
  · subst h0
    obtain ⟨W8, hW8⟩ : ∃ W8, W8 = w7.setCell ⟨s, 27, none⟩ (.int .i64 0) := ⟨_, rfl⟩
    have HW8 : Hid (W8 = w7.setCell ⟨s, 27, none⟩ (.int .i64 0)) := hW8
    have hk8 : Keeps (· = s) w7 W8 := by rw [hW8]; exact (Keeps.refl (· = s) w7).setCell _ _ fun _ => rfl
    have hs8 : SpAt W8 s { t7 with trap := 0 } := by rw [hW8]; exact HF7.out.env.sp.set 11 (.int .i64 0) { t7 with trap := 0 } rfl rfl HF7.out.env.sp.la HF7.out.env.sp.lb HF7.out.env.sp.ld
    obtain ⟨hC0, hM0, hap, hT0, hg2, hck⟩ := HH.out
    obtain ⟨kk5, kk6, hT6, hlt, hsw, hb, hg⟩ := H6.out
    have hcm := carry_cm n ⟨sp0 rg pc c b root clock, xs, ls, st⟩
    rw [← HR.out] at hcm
    have hc' : t7.c = c := hcm.1
    have hcl := hlt c (.inl rfl)
    have hcore := HF7.out.env.core
    rw [hc'] at hcore
    have hcore8 : Blk W8 c (coreCells rg pc tb cb) 91 := hcore.kept hk8 (by omega)
    have hB8 := HB7.out.kept hk8 (by show ¬ w.heap.size = s; omega)
    have hlen7 : t7.rg.length = 16 := HF7.out.env.sp.len
    have HRs : Hid (W8.rangeAt s 0 (ctx t7.rg t7.pc) ∧ (Tryz.prog.info? 89).map (·.size) = some (ctx t7.rg t7.pc).length) := ⟨hs8.range, info89 hlen7 t7.pc⟩
    have HTh : Hid (W8.there c 0 (ctx t7.rg t7.pc).toArray.size ∧ (Tryz.prog.info? 89).map (·.size) = some (ctx t7.rg t7.pc).toArray.size ∧ (ctx t7.rg t7.pc).toArray.all (·.oneCell') = true) := by
      refine ⟨fun j hj => ⟨?_, hcore8.frozen _⟩, by simpa using info89 hlen7 t7.pc, all_oneCell_toArray (ctx_one _ _)⟩
      have hl17 : (ctx t7.rg t7.pc).length = 17 := ctx_len hlen7 _
      have hj' : j < 17 := by simpa [hl17] using hj
      have h19 := (cs17 rg pc tb cb hC0.len).2.2.2
      rw [hcore8.cell (List.getElem?_eq_getElem (by rw [h19]; omega))]
      rfl
    obtain ⟨W9, hW9⟩ : ∃ W9, W9 = W8.setCells c 0 (ctx t7.rg t7.pc).toArray.toList := ⟨_, rfl⟩
    have hk9 : Keeps (· = c) W8 W9 := by rw [hW9]; exact keeps_setCells c _ 0 W8
    have hcore9 : Blk W9 c (coreCells t7.rg t7.pc tb cb) 91 := by
      have := blk_setCells (b := c) (t := 91) (ctx t7.rg t7.pc) (ctx rg pc) [] [ptr tb, ptr cb] W8 hcore8 (by rw [ctx_len hC0.len, ctx_len hlen7])
      rw [hW9]
      exact this
    have hs9 := hs8.kept hk9 (by show ¬ s = c; omega)
    have hB9 := hB8.kept hk9 (by show ¬ w.heap.size = c; omega)
    have HW9 : Hid (W9 = W8.setCells c 0 (ctx t7.rg t7.pc).toArray.toList) := hW9
    have hp7 : t7.pc < 4294967296 := carry_pc _ _ _ _ _ _ _ _ _ _ hC0.pcl _ HR.out
    have HN : Hid (Keeps (fun k => k = s ∨ k = c) w7 W9 ∧ Blk W9 c (coreCells t7.rg t7.pc tb cb) 91 ∧ t7.pc < 4294967296 ∧ t7.rg.length = 16 ∧ t7.c = c ∧ t7.m = b ∧ Blk W9 w.heap.size [.int .i64 0, .int .i64 0, .int .i64 0, .int .u32 0, .int .u32 0, .bool false, .int .u32 0, .int .u32 0] 58) :=
      ⟨(hk8.mono fun _ _ e => .inl e).trans (hk9.mono fun _ _ e => .inr e) fun _ _ e => e, hcore9, hp7, hlen7, hc', hcm.2.1, hB9⟩
    have p0 : W9.cell? ⟨s, 26, none⟩ = some (.int .i64 a0) := by rw [Ha.out.1]; exact hs9.get 10 rfl
    have p1 : W9.cell? ⟨s, 27, none⟩ = some (.int .i64 0) := hs9.get 11 rfl
    have p2 : W9.cell? ⟨s, 28, none⟩ = some (.int .i64 a2) := by rw [Ha.out.2.2.1]; exact hs9.get 12 rfl
    have p3 : W9.cell? ⟨s, 29, none⟩ = some (.int .u32 a3) := by rw [Ha.out.2.2.2.1]; exact hs9.get 13 rfl
    have p4 : W9.cell? ⟨s, 30, none⟩ = some (.int .u32 a4) := by rw [Ha.out.2.2.2.2.1]; exact hs9.get 14 rfl
    have p5 : W9.cell? ⟨s, 31, none⟩ = some (.bool a5) := by rw [Ha.out.2.2.2.2.2.1]; exact hs9.get 15 rfl
    have p6 : W9.cell? ⟨s, 32, none⟩ = some (.int .u32 a6) := by rw [Ha.out.2.2.2.2.2.2.1]; exact hs9.get 16 rfl
    have p7 : W9.cell? ⟨s, 33, none⟩ = some (.int .u32 a7) := by rw [Ha.out.2.2.2.2.2.2.2]; exact hs9.get 17 rfl
    have n0 := hB9.cell (i := 0) rfl
    have m0 := hB9.frozen 0
    have n1 := hB9.cell (i := 1) rfl
    have m1 := hB9.frozen 1
    have n2 := hB9.cell (i := 2) rfl
    have m2 := hB9.frozen 2
    have n3 := hB9.cell (i := 3) rfl
    have m3 := hB9.frozen 3
    have n4 := hB9.cell (i := 4) rfl
    have m4 := hB9.frozen 4
    have n5 := hB9.cell (i := 5) rfl
    have m5 := hB9.frozen 5
    have n6 := hB9.cell (i := 6) rfl
    have m6 := hB9.frozen 6
    have n7 := hB9.cell (i := 7) rfl
    have m7 := hB9.frozen 7
    clear hW8 hk8 hs8 hC0 hM0 hap hT0 hg2 hck kk5 kk6 hT6 hlt hsw hb hg hcm hc' hcl hcore hcore8 hB8 hlen7 hW9 hk9 hcore9 hs9 hB9 hp7 y0 y1 y2 y3 y4 y5 y6 y7 x0 x1 x2 x3 x4 x5 x6 x7
    go_upto_region 11 with fail
    rw [← HW8.out]
    clear q0 q1 q2 q3 q4 q5 q6 q7 z0 z1 z2 z3 z4 z5 z6 z7
    go_upto_region 12 with (refine wpList_load_mid rfl 89 (.tmp 74) rfl s 0 rfl (ctx t7.rg t7.pc) _ HRs.out.1 Tryz.underlying89 rfl HRs.out.2 ?_; refine Hid.out ?_)
    unfold Hid
    go_upto_region 12 with (refine wpList_store_mid rfl 89 (.tmp 77) (.tmp 75) rfl c 0 (ctx t7.rg t7.pc).toArray rfl rfl HTh.out.1 HTh.out.2.1 HTh.out.2.2 ?_; refine Hid.out ?_)
    unfold Hid
    go_upto_region 12 with fail
    rw [← HW9.out]
    go_wp2
    obtain ⟨hT1, hT2⟩ := act_told HN.out.2.2.2.2.2.2 (.int .i64 a0) (.int .i64 0) (.int .i64 a2) (.int .u32 a3) (.int .u32 a4) (.bool a5) (.int .u32 a6) (.int .u32 a7)
    refine bodyPost_ret (results_cell_tmp (p := 8) (u := 9) (ty := 58) rfl _ _ ⟨w.heap.size, 0, none⟩ _ rfl (load_act hT1 rfl)) rfl ?_
    obtain ⟨u0, u1, u2, u3, u4, u5, u6, u7⟩ := Ha.out
    obtain ⟨hC0, hM0, hap, hT0, hg2, hck⟩ := HH.out
    obtain ⟨kk5, kk6, hT6, hlt, hsw, hb, hg⟩ := H6.out
    obtain ⟨n1', n2', n3', n4', n5', n6', n7'⟩ := HN.out
    have hcl := hlt c (.inl rfl)
    refine ⟨?_, stepped_of hC0 hlt hap hsw hb hg (tabs_two hT0) ((kk5.mono fun _ _ h => h.elim).trans kk6 fun _ _ e => e) Hz.out HF7.out n5' n6' ((n1'.mono (T := fun k => k = s ∨ k = w.heap.size ∨ k = c) fun _ _ e => by omega).trans (hT2.mono (T := fun k => k = s ∨ k = w.heap.size ∨ k = c) fun _ _ e => .inr (.inl e)) fun _ _ e => e) (n2'.kept hT2 (by show ¬ c = w.heap.size; omega)) n4' n3'⟩
    rw [u0, u2, u3, u4, u5, u6, u7]
    rfl
  · have g3 : ((rt : Int) != 0) = true := by simpa using h0
    have H0 : Hid (¬ rt = 0) := h0
    clear h0
    go_wp2
    obtain ⟨hT1, hT2⟩ := act_told ((HB7.out.setCell_ne (a := ⟨s, 27, none⟩) (by have := H6.out.2.2.2.2.1; show ¬ w.heap.size = s; omega) (.int .i64 rt)).setCell_ne (a := ⟨s, 26, none⟩) (by have := H6.out.2.2.2.2.1; show ¬ w.heap.size = s; omega) (.int .i64 (a0 + 10))) (.int .i64 (a0 + 10)) (.int .i64 rt) (.int .i64 a2) (.int .u32 a3) (.int .u32 a4) (.bool a5) (.int .u32 a6) (.int .u32 a7)
    refine bodyPost_ret (results_cell_tmp (p := 8) (u := 9) (ty := 58) rfl _ _ ⟨w.heap.size, 0, none⟩ _ rfl (load_act hT1 rfl)) rfl ?_
    obtain ⟨u0, u1, u2, u3, u4, u5, u6, u7⟩ := Ha.out
    refine ⟨by rw [u0, u2, u3, u4, u5, u6, u7]; rfl, ?_⟩
    obtain ⟨hC0, hM0, hap, hT0, hg2, hck⟩ := HH.out
    obtain ⟨kk5, kk6, hT6, hlt, hsw, hb, hg⟩ := H6.out
    have hcm := carry_cm n ⟨sp0 rg pc c b root clock, xs, ls, st⟩
    rw [← HR.out] at hcm
    have kf : Keeps (fun k => k = s ∨ k = w.heap.size ∨ k = c) w7 _ := ((((Keeps.refl (fun k => k = s ∨ k = w.heap.size ∨ k = c) w7).setCell ⟨s, 27, none⟩ (.int .i64 rt) fun _ => .inl rfl).setCell ⟨s, 26, none⟩ (.int .i64 (a0 + 10)) fun _ => .inl rfl)).trans (hT2.mono (T := fun k => k = s ∨ k = w.heap.size ∨ k = c) fun _ _ e => .inr (.inl e)) fun _ _ e => e
    have kc : Keeps (fun k => k = s ∨ k = w.heap.size) w7 _ := ((((Keeps.refl (fun k => k = s ∨ k = w.heap.size) w7).setCell ⟨s, 27, none⟩ (.int .i64 rt) fun _ => .inl rfl).setCell ⟨s, 26, none⟩ (.int .i64 (a0 + 10)) fun _ => .inl rfl)).trans (hT2.mono (T := fun k => k = s ∨ k = w.heap.size) fun _ _ e => .inr e) fun _ _ e => e
    have hc' : t7.c = c := hcm.1
    have hcore := HF7.out.env.core
    rw [hc'] at hcore
    have hcl := hlt c (.inl rfl)
    exact stepped_of hC0 hlt hap hsw hb hg (tabs_two hT0) ((kk5.mono fun _ _ h => h.elim).trans kk6 fun _ _ e => e) Hz.out HF7.out hc' hcm.2.1 kf (hcore.kept kc (by omega)) hC0.len hC0.pcl

end Go.Proofs.YtipejahmjdamjaaGreatDoor
