import Derived.Test.YtipejahmjdamjaaGreatDoorCo
import Derived.Test.YtipejahmjdamjaaGreatDoorCv
namespace Go.Proofs.YtipejahmjdamjaaGreatDoor.Is
open Go.RowKit
set_option linter.unusedVariables false

/-- An instruction's word as a natural number. -/
def wordN (op a b c imm : Int) : Nat := (wordI op a b c imm).toNat

structure Fit (op a b c imm : Int) : Prop where
  o : 1 ≤ op ∧ op ≤ 30
  ra : 0 ≤ a ∧ a ≤ 15
  rb : 0 ≤ b ∧ b ≤ 15
  rc : 0 ≤ c ∧ c ≤ 15
  ri : -131072 ≤ imm ∧ imm < 131072
  na : hasA (formOf op) = false → a = 0
  nb : hasB (formOf op) = false → b = 0
  nc : hasC (formOf op) = false → c = 0
  ni : hasI (formOf op) = false → imm = 0
  ex : hasI (formOf op) = true → c = 0

theorem no_both (op : Int) (h : hasI (formOf op) = true) : hasC (formOf op) = false := by
  obtain ⟨k, hk, hk8⟩ := formOf_nat op
  rw [hk] at h ⊢
  have e : k = 0 ∨ k = 1 ∨ k = 2 ∨ k = 3 ∨ k = 4 ∨ k = 5 ∨ k = 6 ∨ k = 7 := by omega
  rcases e with rfl | rfl | rfl | rfl | rfl | rfl | rfl | rfl <;> first | rfl | (exact absurd h (by decide))

theorem fitB_no {t : Bool} {n : Int} (h : fitB t n = true) (ht : t = false) : n = 0 := by
  subst ht
  simpa [fitB] using h

theorem fit_of {op a b c imm : Int} (h : okI op a b c imm = true) : Fit op a b c imm := by
  simp only [okI, Bool.and_eq_true, Bool.or_eq_true, bne_iff_ne, ne_eq, decide_eq_true_eq, beq_iff_eq] at h
  obtain ⟨⟨⟨⟨⟨h0, ha⟩, hb⟩, hc⟩, hi⟩, hr⟩ := h
  refine ⟨formOf_bd h0, fitB_bd ha, fitB_bd hb, fitB_bd hc, hr, fitB_no ha, fitB_no hb, fitB_no hc, fun h => ?_, fun h => fitB_no hc (no_both op h)⟩
  rcases hi with hi | hi
  · rw [h] at hi; cases hi
  · exact hi

theorem rd_word (op a b c imm : Int) (h : okI op a b c imm = true) :
    ((wordN op a b c imm : Nat) : Int) = wordI op a b c imm ∧ wordN op a b c imm < 4294967296 ∧ rdOp (wordN op a b c imm) = op ∧ rdA (wordN op a b c imm) = a ∧ rdB (wordN op a b c imm) = b ∧ rdC (wordN op a b c imm) = c ∧ rdI (wordN op a b c imm) = imm := by
  obtain ⟨ho, ha, hb, hc, hi, na, nb, nc, ni, ex⟩ := fit_of h
  have e : ((wordN op a b c imm : Nat) : Int) = op * 67108864 + a * 4194304 + b * 262144 + c * 16384 + imm % 262144 := by
    unfold wordN wordI
    omega
  have m0 : c = 0 ∨ imm % 262144 = 0 := by
    cases hh : hasI (formOf op)
    · right; rw [ni hh]; rfl
    · exact .inl (ex hh)
  have mb : 0 ≤ imm % 262144 ∧ imm % 262144 < 262144 := by omega
  have e1 : rdOp (wordN op a b c imm) = op := by unfold rdOp; rw [e]; omega
  refine ⟨e, by omega, e1, ?_, ?_, ?_, ?_⟩
  · unfold rdA
    rw [e1]
    cases hh : hasA (formOf op)
    · simp [na hh]
    · simp only [if_true]
      rw [e]; omega
  · unfold rdB
    rw [e1]
    cases hh : hasB (formOf op)
    · simp [nb hh]
    · simp only [if_true]
      rw [e]; omega
  · unfold rdC
    rw [e1]
    cases hh : hasC (formOf op)
    · simp [nc hh]
    · simp only [if_true]
      have hI : hasI (formOf op) = false := by
        cases hq : hasI (formOf op)
        · rfl
        · rw [no_both op hq] at hh; cases hh
      have h0 := ni hI
      rw [e]; omega
  · unfold rdI
    rw [e1]
    cases hh : hasI (formOf op)
    · simp [ni hh]
    · simp only [if_true]
      have hc0 := ex hh
      rw [e]
      unfold sgn18
      split <;> omega
end Go.Proofs.YtipejahmjdamjaaGreatDoor.Is
namespace Go.Proofs.YtipejahmjdamjaaGreatDoor
open Go.RowKit Go.Shelf
set_option linter.unusedVariables false
set_option maxRecDepth 6000

theorem cost_any (n : Int) (w : World) (h : Is.Tabs w) : Calls Tryz.prog 94 #[.int .i64 n] w fun e w' => e = .returned (.int .i64 (Is.costOf n)) ∧ w' = w := by
  have hc := h.cost (Is.rowOf n) (Is.rowOf_lt n)
  have hlt := Is.rowOf_lt n
  unfold Is.costOf
  revert hc hlt
  have hr := Is.row_any n w
  revert hr
  generalize Is.rowOf n = r
  intro hr hc hlt
  have HR : Hid (Calls _ _ _ _ _) := hr
  clear hr h
  go_enter Tryz.func94, Tryz.ntmps94
  go_wp2_with (go_at_call 144; refine HR.out.mono ?_; rintro e w' ⟨rfl, rfl⟩)
  go_ret
  exact ⟨rfl, rfl⟩

theorem tabs_kept {S : Nat → Prop} {w w' : World} (h : Is.Tabs w) (hK : Keeps S w w') (hS : ∀ k, S k → 2 ≤ k) : Is.Tabs w' := by
  obtain ⟨⟨cs, t, h1, h2⟩, ⟨cs', t', h3, h4⟩⟩ := h
  have l0 := (Array.getElem?_eq_some_iff.1 h1).1
  have l1 := (Array.getElem?_eq_some_iff.1 h3).1
  exact ⟨⟨cs, t, by rw [hK.block 0 l0 fun e => by have := hS 0 e; omega]; exact h1, h2⟩, ⟨cs', t', by rw [hK.block 1 l1 fun e => by have := hS 1 e; omega]; exact h3, h4⟩⟩

theorem tabs_two {w : World} (h : Is.Tabs w) : 2 ≤ w.heap.size := by
  obtain ⟨_, ⟨cs', t', h3, h4⟩⟩ := h
  exact (Array.getElem?_eq_some_iff.1 h3).1

theorem keeps_of_below {w w' : World} (h : Below w.heap.size w w') : Keeps (fun _ => False) w w' := ⟨h.os, h.tape, h.output, h.size, fun k hk _ => h.block k hk⟩

/-- The instruction that a word is. -/
def Sp.dec (t : Sp) (x : Nat) : Sp := { t with op := (Is.rdOp x).toNat, a := (Is.rdA x).toNat, b := (Is.rdB x).toNat, d := (Is.rdC x).toNat, imm := Is.rdI x }

theorem dec_bd {x : Nat} (h : Is.decOk x = true) : (1 ≤ Is.rdOp x ∧ Is.rdOp x ≤ 30) ∧ (0 ≤ Is.rdA x ∧ Is.rdA x ≤ 15) ∧ (0 ≤ Is.rdB x ∧ Is.rdB x ≤ 15) ∧ (0 ≤ Is.rdC x ∧ Is.rdC x ≤ 15) := by
  unfold Is.decOk at h
  simp only [Bool.and_eq_true] at h
  have f := Is.fit_of h.1
  exact ⟨f.o, f.ra, f.rb, f.rc⟩

/-- Behind the fetch. -/
def Sp.fetched (t : Sp) (k : Int) (x : Nat) : Sp := { t with cost := k, word := x }

/-- An instruction is carried out: its trap, and all behind it. -/
def carryM (n : Nat) (M : Mc) : Nat × Mc :=
  let t := M.t
  match rcP n M.xs t.root M.ls t.pc 4 with
  | none => (1, { M with t := t.pay (t.cost + rcW M.ls t.pc), ls := rcL n M.xs t.root M.ls t.pc })
  | some P =>
    let x := (M.xs.getD P 0).toNat
    let M1 : Mc := { M with t := t.fetched (t.cost + rcW M.ls t.pc + Ch.cost (P / 4) M.st) x, ls := rcL n M.xs t.root M.ls t.pc, st := Ch.step (P / 4) M.st }
    if Is.decOk x then
      let r := opM n { M1 with t := (M1.t.dec x).goes (wd (t.pc + 1)) }
      if r.1 = 0 then (0, { r.2 with t := r.2.t.pay (r.2.t.cost + Is.costOf (Is.rdOp x)) }) else r
    else (2, M1)

end Go.Proofs.YtipejahmjdamjaaGreatDoor
