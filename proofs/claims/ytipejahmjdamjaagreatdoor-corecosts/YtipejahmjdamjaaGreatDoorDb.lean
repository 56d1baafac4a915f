import Derived.Test.YtipejahmjdamjaaGreatDoorCy
namespace Go.Proofs.YtipejahmjdamjaaGreatDoor
open Go.RowKit Go.Shelf
set_option linter.unusedVariables false
set_option maxRecDepth 6000

/-- What an operation leaves alone. -/
structure Same (t t' : Sp) : Prop where
  op : t'.op = t.op
  c : t'.c = t.c
  m : t'.m = t.m
  root : t'.root = t.root
  clock : t'.clock = t.clock
  apc : t'.apc = t.apc
  word : t'.word = t.word
  lo : t.cost ≤ t'.cost
  hi : t'.cost ≤ t.cost + 13
theorem Same.refl (t : Sp) : Same t t := ⟨rfl, rfl, rfl, rfl, rfl, rfl, rfl, Int.le_refl _, by omega⟩

theorem opM_same (n : Nat) (M : Mc) : Same M.t (opM n M).2.t ∧ (opM n M).1 < 100 := by
  obtain ⟨t, xs, ls, st⟩ := M
  have z : Same t t := Same.refl t
  have hW := rcW_bd ls t.x
  unfold opM
  dsimp only
  by_cases h : t.op = 2
  · rw [if_pos h]
    exact ⟨⟨rfl, rfl, rfl, rfl, rfl, rfl, rfl, Int.le_refl _, by show t.cost ≤ t.cost + 13; omega⟩, by omega⟩
  rw [if_neg h]
  clear h
  by_cases h : t.op = 3
  · rw [if_pos h]
    exact ⟨⟨rfl, rfl, rfl, rfl, rfl, rfl, rfl, Int.le_refl _, by show t.cost ≤ t.cost + 13; omega⟩, by omega⟩
  rw [if_neg h]
  clear h
  by_cases h : t.op = 4
  · rw [if_pos h]
    exact ⟨⟨rfl, rfl, rfl, rfl, rfl, rfl, rfl, Int.le_refl _, by show t.cost ≤ t.cost + 13; omega⟩, by omega⟩
  rw [if_neg h]
  clear h
  by_cases h : 5 ≤ t.op ∧ t.op ≤ 17
  · rw [if_pos h]
    by_cases h' : Al.doE t.op t.D.toNat = 0
    · rw [if_pos h']; exact ⟨⟨rfl, rfl, rfl, rfl, rfl, rfl, rfl, Int.le_refl _, by show t.cost ≤ t.cost + 13; omega⟩, by omega⟩
    · rw [if_neg h']; exact ⟨z, by omega⟩
  rw [if_neg h]
  clear h
  by_cases h : t.op = 18
  · rw [if_pos h]
    exact ⟨⟨rfl, rfl, rfl, rfl, rfl, rfl, rfl, Int.le_refl _, by show t.cost ≤ t.cost + 13; omega⟩, by omega⟩
  rw [if_neg h]
  clear h
  by_cases h : t.op = 19
  · rw [if_pos h]
    cases hP : rcP n xs t.root ls t.x 1 with
    | none => exact ⟨⟨rfl, rfl, rfl, rfl, rfl, rfl, rfl, by simp [Sp.pay]; omega, by simp [Sp.pay]; omega⟩, by show _ < 100; simp⟩
    | some P =>
      have := toC_bd (some P) st
      simp only [toC] at this
      exact ⟨⟨rfl, rfl, rfl, rfl, rfl, rfl, rfl, by simp [Sp.loaded]; omega, by simp [Sp.loaded]; omega⟩, by show _ < 100; simp⟩
  rw [if_neg h]
  clear h
  by_cases h : t.op = 20
  · rw [if_pos h]
    cases hP : rcP n xs t.root ls t.x 2 with
    | none => exact ⟨⟨rfl, rfl, rfl, rfl, rfl, rfl, rfl, by simp [Sp.pay]; omega, by simp [Sp.pay]; omega⟩, by show _ < 100; simp⟩
    | some P =>
      have := toC_bd (some P) st
      simp only [toC] at this
      exact ⟨⟨rfl, rfl, rfl, rfl, rfl, rfl, rfl, by simp [Sp.pay]; omega, by simp [Sp.pay]; omega⟩, by show _ < 100; simp⟩
  rw [if_neg h]
  clear h
  by_cases h : 21 ≤ t.op ∧ t.op ≤ 25
  · rw [if_pos h]
    refine ⟨?_, by omega⟩
    dsimp only
    cases Al.takeV t.op t.A.toNat t.B.toNat with
    | false => exact z
    | true => exact ⟨rfl, rfl, rfl, rfl, rfl, rfl, rfl, Int.le_refl _, by show t.cost ≤ t.cost + 13; omega⟩
  rw [if_neg h]
  clear h
  by_cases h : t.op = 26
  · rw [if_pos h]
    exact ⟨⟨rfl, rfl, rfl, rfl, rfl, rfl, rfl, Int.le_refl _, by show t.cost ≤ t.cost + 13; omega⟩, by omega⟩
  rw [if_neg h]
  clear h
  by_cases h : t.op = 27
  · rw [if_pos h]
    exact ⟨⟨rfl, rfl, rfl, rfl, rfl, rfl, rfl, Int.le_refl _, by show t.cost ≤ t.cost + 13; omega⟩, by omega⟩
  rw [if_neg h]
  clear h
  by_cases h : t.op = 28
  · rw [if_pos h]
    exact ⟨⟨rfl, rfl, rfl, rfl, rfl, rfl, rfl, Int.le_refl _, by show t.cost ≤ t.cost + 13; omega⟩, by omega⟩
  rw [if_neg h]
  clear h
  by_cases h : t.op = 29
  · rw [if_pos h]
    exact ⟨⟨rfl, rfl, rfl, rfl, rfl, rfl, rfl, Int.le_refl _, by show t.cost ≤ t.cost + 13; omega⟩, by omega⟩
  rw [if_neg h]
  clear h
  by_cases h : t.op = 30
  · rw [if_pos h]
    by_cases h' : 0 ≤ t.imm ∧ t.imm < 8
    · rw [if_pos h']; exact ⟨⟨rfl, rfl, rfl, rfl, rfl, rfl, rfl, Int.le_refl _, by show t.cost ≤ t.cost + 13; omega⟩, by omega⟩
    · rw [if_neg h']; exact ⟨z, by omega⟩
  rw [if_neg h]
  clear h
  exact ⟨z, by omega⟩

theorem carry_any (s tb cb g n : Nat) (cs : List Value) (M : Mc) (FT FC : Nat → Prop) (w : World) (h : Env w s tb cb g n cs M.t M.xs M.ls M.st FT FC) (hq : M.t.cost = 0) (hp : M.t.pc < 4294967296) (hc : M.t.clock < 4294967296)
    (hT : Is.Tabs w) (h2 : ∀ k, (k = s ∨ k = g ∨ FT k ∨ FC k) → 2 ≤ k) : Op 57 s tb cb g n cs FT FC w (carryM n M) := by
  obtain ⟨t, xs, ls, st⟩ := M
  dsimp only at h hq hp hc
  unfold carryM
  dsimp only
  cases hn : rcP n xs t.root ls t.pc 4 with
  | none => exact carry_fetch s tb cb g n cs t xs ls st FT FC w h (by omega) hp hn
  | some P =>
    dsimp only
    cases hd : Is.decOk (xs.getD P 0).toNat with
    | false => exact carry_word s tb cb g n P cs t xs ls st FT FC w h (by omega) hp hT h2 hn hd
    | true =>
      simp only [if_true]
      obtain ⟨M2, eM⟩ : ∃ M2 : Mc, M2 = ⟨((t.fetched (t.cost + rcW ls t.pc + Ch.cost (P / 4) st) (xs.getD P 0).toNat).dec (xs.getD P 0).toNat).goes (wd (t.pc + 1)), xs, rcL n xs t.root ls t.pc, Ch.step (P / 4) st⟩ := ⟨_, rfl⟩
      have hS := opM_same n M2
      have hW := rcW_bd ls t.pc
      have hC := toC_bd (some P) st
      simp only [toC] at hC
      have e1 : M2.t.cost = t.cost + rcW ls t.pc + Ch.cost (P / 4) st := by rw [eM]; rfl
      have e2 : M2.t.op = (Is.rdOp (xs.getD P 0).toNat).toNat := by rw [eM]; rfl
      have := carry_op s tb cb g n P cs t xs ls st FT FC w h (by omega) hp hc hT h2 hn hd (opM n M2) (by rw [eM]) ⟨by have := hS.1.lo; omega, by have := hS.1.hi; omega⟩ hS.2 (by rw [hS.1.op, e2])
      rw [← eM]
      refine Calls.mono this fun e w' ⟨h1, h3⟩ => ?_
      by_cases h0 : (opM n M2).1 = 0
      · rw [if_pos h0] at h3 ⊢
        rw [h0] at h1
        exact ⟨h1, h3⟩
      · rw [if_neg h0] at h3 ⊢
        exact ⟨h1, h3⟩

end Go.Proofs.YtipejahmjdamjaaGreatDoor
namespace Go.Proofs.YtipejahmjdamjaaGreatDoor
open Go.RowKit Go.Shelf
set_option linter.unusedVariables false
set_option maxRecDepth 6000

/-- The cells of a context. -/
def ctx (rg : List UInt32) (pc : Nat) : List Value := wvs rg ++ [.int .u32 pc]
def coreCells (rg : List UInt32) (pc tb cb : Nat) : List Value := ctx rg pc ++ [ptr tb, ptr cb]

/-- A core lies in block c. -/
structure CoreAt (w : World) (c tb cb : Nat) (rg : List UInt32) (pc : Nat) (ls : List Tl.Lf) (st : Nat → List Int) (FT FC : Nat → Prop) : Prop where
  blk : Blk w c (coreCells rg pc tb cb) 91
  len : rg.length = 16
  tl : Tl.Tl w tb ls FT
  ca : Ch.Ca w cb st FC
  ft : ∀ k, FT k → k ≠ c ∧ ¬ FC k
  fc : ∀ k, FC k → k ≠ c
  good : ∀ l ∈ ls, Tl.mayB l = true
  pcl : pc < 4294967296
  two : ∀ k, (k = c ∨ FT k ∨ FC k) → 2 ≤ k

theorem CoreAt.kept {S : Nat → Prop} {w w' : World} {c tb cb : Nat} {rg : List UInt32} {pc : Nat} {ls : List Tl.Lf} {st : Nat → List Int} {FT FC : Nat → Prop} (h : CoreAt w c tb cb rg pc ls st FT FC) (hK : Keeps S w w') (hn : ∀ k, (k = c ∨ FT k ∨ FC k) → ¬ S k) :
    CoreAt w' c tb cb rg pc ls st FT FC :=
  { h with blk := h.blk.kept hK (hn c (.inl rfl)), tl := h.tl.kept hK fun k hk => hn k (.inr (.inl hk)), ca := h.ca.kept hK fun k hk => hn k (.inr (.inr hk)) }

/-- The instruction at its beginning. -/
def sp0 (rg : List UInt32) (pc c m root clock : Nat) : Sp := ⟨rg, pc, c, m, root, clock, 0, 0, 0, 0, 0, 0, 0, -1, pc, 0, false, 0, 0⟩
def spz (rg : List UInt32) (pc c m root clock : Nat) : Sp := ⟨rg, pc, c, m, root, clock, 0, 0, 0, 0, 0, 0, 0, 0, 0, 0, false, 0, 0⟩

def actCells (t : Sp) : List Value := [.int .i64 t.cost, .int .i64 t.trap, .int .i64 t.call, .int .u32 t.apc, .int .u32 t.word, .bool t.rd, .int .u32 t.addr, .int .u32 t.val]

theorem built113x (r0 r1 r2 r3 r4 r5 r6 r7 r8 r9 r10 r11 r12 r13 r14 r15 : UInt32) (pc c m root clock : Nat) :
    Tryz.prog.built 113 [(0, .agg (ctx [r0, r1, r2, r3, r4, r5, r6, r7, r8, r9, r10, r11, r12, r13, r14, r15] pc).toArray), (1, ptr c), (2, ptr m), (3, .int .i64 root), (4, .int .u32 clock)] = some (spz [r0, r1, r2, r3, r4, r5, r6, r7, r8, r9, r10, r11, r12, r13, r14, r15] pc c m root clock).cells.toArray := by
  kernel_rfl

theorem built113 (rg : List UInt32) (pc c m root clock : Nat) (hl : rg.length = 16) :
    Tryz.prog.built 113 [(0, .agg (ctx rg pc).toArray), (1, ptr c), (2, ptr m), (3, .int .i64 root), (4, .int .u32 clock)] = some (spz rg pc c m root clock).cells.toArray := by
  match rg, hl with
  | [r0, r1, r2, r3, r4, r5, r6, r7, r8, r9, r10, r11, r12, r13, r14, r15], _ => exact built113x r0 r1 r2 r3 r4 r5 r6 r7 r8 r9 r10 r11 r12 r13 r14 r15 pc c m root clock

theorem cs17 (rg : List UInt32) (pc tb cb : Nat) (hl : rg.length = 16) : (coreCells rg pc tb cb)[17]? = some (ptr tb) ∧ (coreCells rg pc tb cb)[18]? = some (ptr cb) ∧ (coreCells rg pc tb cb)[16]? = some (.int .u32 pc) ∧ (coreCells rg pc tb cb).length = 19 := by
  match rg, hl with
  | [r0, r1, r2, r3, r4, r5, r6, r7, r8, r9, r10, r11, r12, r13, r14, r15], _ => exact ⟨rfl, rfl, rfl, rfl⟩

end Go.Proofs.YtipejahmjdamjaaGreatDoor
