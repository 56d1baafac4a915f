import Derived.Test.YtipejahmjdamjaaGreatDoorDe
namespace Go.Proofs.YtipejahmjdamjaaGreatDoor
open Go.RowKit Go.Shelf
set_option linter.unusedVariables false
set_option maxRecDepth 6000

/-- The memory of the chapter's example. -/
def smallL : List UInt32 := [2147483656, 0, 0, 0, 0, 0, 0, 0, 0, 0, 0, 0, 0, 0, 0, 0, 2147483671, 2147483673, 0, 0, 0, 0, 0, 0, 0, 0, 0, 0, 0, 0, 0, 0, 205520901, 1283457040, 1346371600, 2013265926, 0, 0, 0, 0, 0, 0, 0, 0, 0, 0, 0, 0, 77, 0, 0, 0, 0, 0, 0, 0, 0, 0, 0, 0, 0, 0, 0, 0]
def rg1 : List UInt32 := [0, 5, 0, 0, 0, 0, 0, 0, 0, 0, 0, 0, 0, 0, 0, 0]
def rg2 : List UInt32 := [0, 5, 77, 0, 0, 0, 0, 0, 0, 0, 0, 0, 0, 0, 0, 0]
def R1 (c b : Nat) : Nat × Mc := (0, ⟨⟨rg1, 1, c, b, 0, 900, 3, 1, 0, 0, 5, 14, 0, -1, 0, 205520901, false, 0, 0⟩, smallL, [⟨0, 2, 7⟩], Ch.step 8 fun _ => []⟩)
def R2 (c b : Nat) : Nat × Mc := (0, ⟨⟨rg2, 2, c, b, 0, 914, 19, 2, 0, 0, 16, 15, 0, -1, 1, 1283457040, true, 16, 77⟩, smallL, [⟨0, 2, 7⟩, ⟨1, 3, 1⟩], Ch.step 12 (Ch.step 8 (Ch.step 8 fun _ => []))⟩)

theorem sp_eq {t u : Sp} (h0 : t.rg = u.rg) (h1 : t.pc = u.pc) (h2 : t.c = u.c) (h3 : t.m = u.m) (h4 : t.root = u.root) (h5 : t.clock = u.clock) (h6 : t.op = u.op) (h7 : t.a = u.a) (h8 : t.b = u.b) (h9 : t.d = u.d) (h10 : t.imm = u.imm) (h11 : t.cost = u.cost) (h12 : t.trap = u.trap) (h13 : t.call = u.call) (h14 : t.apc = u.apc) (h15 : t.word = u.word) (h16 : t.rd = u.rd) (h17 : t.addr = u.addr) (h18 : t.val = u.val) : t = u := by
  cases t; cases u
  simp only at *
  subst_vars
  rfl
theorem mc_eq {M N : Mc} (h1 : M.t = N.t) (h2 : M.xs = N.xs) (h3 : M.ls = N.ls) (h4 : M.st = N.st) : M = N := by
  cases M; cases N
  simp only at *
  subst_vars
  rfl

theorem carry_eval (n : Nat) (t : Sp) (xs : List UInt32) (ls : List Tl.Lf) (st : Nat → List Int) (P x : Nat) (hP : rcP n xs t.root ls t.pc 4 = some P) (hx : (xs.getD P 0).toNat = x) (hd : Is.decOk x = true) (r : Mc)
    (hr : opM n ⟨((t.fetched (t.cost + rcW ls t.pc + Ch.cost (P / 4) st) x).dec x).goes (wd (t.pc + 1)), xs, rcL n xs t.root ls t.pc, Ch.step (P / 4) st⟩ = (0, r)) :
    carryM n ⟨t, xs, ls, st⟩ = (0, { r with t := r.t.pay (r.t.cost + Is.costOf (Is.rdOp x)) }) := by
  unfold carryM
  dsimp only
  rw [hP]
  dsimp only
  rw [hx, hd]
  simp only [if_true]
  rw [hr]
  simp

theorem opM_li (n : Nat) (t : Sp) (xs : List UInt32) (ls : List Tl.Lf) (st : Nat → List Int) (h : t.op = 3) : opM n ⟨t, xs, ls, st⟩ = (0, ⟨t.put (UInt32.ofNat (wd t.imm)), xs, ls, st⟩) := by
  unfold opM
  dsimp only
  rw [if_neg (by omega), if_pos h]

theorem small_l1 : rcL 4 smallL 0 [] 0 = [⟨0, 2, 7⟩] := by kernel_rfl
theorem small_l2 : rcL 4 smallL 0 [⟨0, 2, 7⟩] 1 = [⟨0, 2, 7⟩] := by kernel_rfl
theorem small_l3 : rcL 4 smallL 0 [⟨0, 2, 7⟩] 16 = [⟨0, 2, 7⟩, ⟨1, 3, 1⟩] := by kernel_rfl

theorem small_R1 (c b : Nat) : R1 c b = carryM 4 ⟨sp0 (List.replicate 16 0) 0 c b 0 900, smallL, [], fun _ => []⟩ := by
  rw [carry_eval 4 _ _ _ _ 32 205520901 (by kernel_rfl) (by kernel_rfl) (by kernel_rfl) ⟨⟨rg1, 1, c, b, 0, 900, 3, 1, 0, 0, 5, 13, 0, -1, 0, 205520901, false, 0, 0⟩, smallL, [⟨0, 2, 7⟩], Ch.step 8 fun _ => []⟩ ?_]
  · simp only [R1, Sp.pay, show Is.costOf (Is.rdOp 205520901) = 1 by kernel_rfl]
    rfl
  · rw [show opM 4 _ = _ from opM_li _ _ _ _ _ (by kernel_rfl)]
    refine congrArg (Prod.mk 0) (mc_eq (sp_eq (by kernel_rfl) (by kernel_rfl) (by kernel_rfl) (by kernel_rfl) (by kernel_rfl) (by kernel_rfl) (by kernel_rfl) (by kernel_rfl) (by kernel_rfl) (by kernel_rfl) (by kernel_rfl) (by kernel_rfl) (by kernel_rfl) (by kernel_rfl) (by kernel_rfl) (by kernel_rfl) (by kernel_rfl) (by kernel_rfl) (by kernel_rfl)) rfl (by simp only [sp0]; exact small_l1) rfl)

theorem opM_ld (n : Nat) (t : Sp) (xs : List UInt32) (ls : List Tl.Lf) (st : Nat → List Int) (P : Nat) (h : t.op = 19) (hP : rcP n xs t.root ls t.x 1 = some P) :
    opM n ⟨t, xs, ls, st⟩ = (0, ⟨t.loaded (t.cost + rcW ls t.x + Ch.cost (P / 4) st) (xs.getD P 0), xs, rcL n xs t.root ls t.x, Ch.step (P / 4) st⟩) := by
  unfold opM
  dsimp only
  rw [if_neg (by omega), if_neg (by omega), if_neg (by omega), if_neg (by omega), if_neg (by omega), if_pos h, hP]

theorem small_R2 (c b : Nat) : R2 c b = carryM 4 ⟨sp0 rg1 1 c b 0 914, smallL, [⟨0, 2, 7⟩], Ch.step 8 fun _ => []⟩ := by
  rw [carry_eval 4 _ _ _ _ 33 1283457040 (by kernel_rfl) (by kernel_rfl) (by kernel_rfl) ⟨⟨rg2, 2, c, b, 0, 914, 19, 2, 0, 0, 16, 14, 0, -1, 1, 1283457040, true, 16, 77⟩, smallL, [⟨0, 2, 7⟩, ⟨1, 3, 1⟩], Ch.step 12 (Ch.step 8 (Ch.step 8 fun _ => []))⟩ ?_]
  · simp only [R2, Sp.pay, show Is.costOf (Is.rdOp 1283457040) = 1 by kernel_rfl]
    rfl
  · rw [show opM 4 _ = _ from opM_ld _ _ _ _ _ 48 (by kernel_rfl) (by kernel_rfl)]
    refine congrArg (Prod.mk 0) (mc_eq (sp_eq (by kernel_rfl) (by kernel_rfl) (by kernel_rfl) (by kernel_rfl) (by kernel_rfl) (by kernel_rfl) (by kernel_rfl) (by kernel_rfl) (by kernel_rfl) (by kernel_rfl) (by kernel_rfl) (by kernel_rfl) (by kernel_rfl) (by kernel_rfl) (by kernel_rfl) (by kernel_rfl) (by kernel_rfl) (by kernel_rfl) (by kernel_rfl)) rfl ?_ rfl)
    simp only [sp0, small_l2, Sp.fetched, Sp.dec, Sp.goes]
    rw [show Sp.x _ = 16 by kernel_rfl]
    exact small_l3

end Go.Proofs.YtipejahmjdamjaaGreatDoor
