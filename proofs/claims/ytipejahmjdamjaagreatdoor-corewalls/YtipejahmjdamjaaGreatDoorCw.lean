import Derived.Test.YtipejahmjdamjaaGreatDoorCv
import Derived.Test.YtipejahmjdamjaaGreatDoorIsRdWord
namespace Go.Proofs.YtipejahmjdamjaaGreatDoor
open Go.RowKit Go.Shelf
set_option linter.unusedVariables false
set_option maxRecDepth 6000

theorem cost_any (n : Int) (w : World) (h : Is.Tabs w) : Calls Tryz.prog 94 #[.int .i64 n] w fun e w' => e = .returned (.int .i64 (Is.costOf n)) ∧ w' = w := by
  have hc := h.cost (Is.rowOf n) (Is.rowOf_lt n)
  have hlt := Is.rowOf_lt n
  unfold Is.costOf
  revert hc hlt
  have hr := Is.row_any n w
  revert hr
  generalize Is.rowOf n = r
  intro hr hc hlt
  have HR : Hid (Calls _ _ _ _ _) := hr
  clear hr h
  go_enter Tryz.func94, Tryz.ntmps94
  go_wp2_with (go_at_call 144; refine HR.out.mono ?_; rintro e w' ⟨rfl, rfl⟩)
  go_ret
  exact ⟨rfl, rfl⟩

theorem tabs_kept {S : Nat → Prop} {w w' : World} (h : Is.Tabs w) (hK : Keeps S w w') (hS : ∀ k, S k → 2 ≤ k) : Is.Tabs w' := by
  obtain ⟨⟨cs, t, h1, h2⟩, ⟨cs', t', h3, h4⟩⟩ := h
  have l0 := (Array.getElem?_eq_some_iff.1 h1).1
  have l1 := (Array.getElem?_eq_some_iff.1 h3).1
  exact ⟨⟨cs, t, by rw [hK.block 0 l0 fun e => by have := hS 0 e; omega]; exact h1, h2⟩, ⟨cs', t', by rw [hK.block 1 l1 fun e => by have := hS 1 e; omega]; exact h3, h4⟩⟩

theorem tabs_two {w : World} (h : Is.Tabs w) : 2 ≤ w.heap.size := by
  obtain ⟨_, ⟨cs', t', h3, h4⟩⟩ := h
  exact (Array.getElem?_eq_some_iff.1 h3).1

theorem keeps_of_below {w w' : World} (h : Below w.heap.size w w') : Keeps (fun _ => False) w w' := ⟨h.os, h.tape, h.output, h.size, fun k hk _ => h.block k hk⟩

/-- The instruction that a word is. -/
def Sp.dec (t : Sp) (x : Nat) : Sp := { t with op := (Is.rdOp x).toNat, a := (Is.rdA x).toNat, b := (Is.rdB x).toNat, d := (Is.rdC x).toNat, imm := Is.rdI x }

theorem dec_bd {x : Nat} (h : Is.decOk x = true) : (1 ≤ Is.rdOp x ∧ Is.rdOp x ≤ 30) ∧ (0 ≤ Is.rdA x ∧ Is.rdA x ≤ 15) ∧ (0 ≤ Is.rdB x ∧ Is.rdB x ≤ 15) ∧ (0 ≤ Is.rdC x ∧ Is.rdC x ≤ 15) := by
  unfold Is.decOk at h
  simp only [Bool.and_eq_true] at h
  have f := Is.fit_of h.1
  exact ⟨f.o, f.ra, f.rb, f.rc⟩

/-- Behind the fetch. -/
def Sp.fetched (t : Sp) (k : Int) (x : Nat) : Sp := { t with cost := k, word := x }

/-- An instruction is carried out: its trap, and all behind it. -/
def carryM (n : Nat) (M : Mc) : Nat × Mc :=
  let t := M.t
  match rcP n M.xs t.root M.ls t.pc 4 with
  | none => (1, { M with t := t.pay (t.cost + rcW M.ls t.pc), ls := rcL n M.xs t.root M.ls t.pc })
  | some P =>
    let x := (M.xs.getD P 0).toNat
    let M1 : Mc := { M with t := t.fetched (t.cost + rcW M.ls t.pc + Ch.cost (P / 4) M.st) x, ls := rcL n M.xs t.root M.ls t.pc, st := Ch.step (P / 4) M.st }
    if Is.decOk x then
      let r := opM n { M1 with t := (M1.t.dec x).goes (wd (t.pc + 1)) }
      if r.1 = 0 then (0, { r.2 with t := r.2.t.pay (r.2.t.cost + Is.costOf (Is.rdOp x)) }) else r
    else (2, M1)

end Go.Proofs.YtipejahmjdamjaaGreatDoor
