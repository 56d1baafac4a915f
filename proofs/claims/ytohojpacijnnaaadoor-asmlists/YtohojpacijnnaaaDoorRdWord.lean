import Derived.Test.YtohojpacijnnaaaDoorDec
namespace Go.Proofs.YtohojpacijnnaaaDoor.Is
open Go.RowKit
set_option linter.unusedVariables false

/-- An instruction's word as a natural number. -/
def wordN (op a b c imm : Int) : Nat := (wordI op a b c imm).toNat

structure Fit (op a b c imm : Int) : Prop where
  o : 1 ≤ op ∧ op ≤ 30
  ra : 0 ≤ a ∧ a ≤ 15
  rb : 0 ≤ b ∧ b ≤ 15
  rc : 0 ≤ c ∧ c ≤ 15
  ri : -131072 ≤ imm ∧ imm < 131072
  na : hasA (formOf op) = false → a = 0
  nb : hasB (formOf op) = false → b = 0
  nc : hasC (formOf op) = false → c = 0
  ni : hasI (formOf op) = false → imm = 0
  ex : hasI (formOf op) = true → c = 0

theorem no_both (op : Int) (h : hasI (formOf op) = true) : hasC (formOf op) = false := by
  obtain ⟨k, hk, hk8⟩ := formOf_nat op
  rw [hk] at h ⊢
  have e : k = 0 ∨ k = 1 ∨ k = 2 ∨ k = 3 ∨ k = 4 ∨ k = 5 ∨ k = 6 ∨ k = 7 := by omega
  rcases e with rfl | rfl | rfl | rfl | rfl | rfl | rfl | rfl <;> first | rfl | (exact absurd h (by decide))

theorem fitB_no {t : Bool} {n : Int} (h : fitB t n = true) (ht : t = false) : n = 0 := by
  subst ht
  simpa [fitB] using h

theorem fit_of {op a b c imm : Int} (h : okI op a b c imm = true) : Fit op a b c imm := by
  simp only [okI, Bool.and_eq_true, Bool.or_eq_true, bne_iff_ne, ne_eq, decide_eq_true_eq, beq_iff_eq] at h
  obtain ⟨⟨⟨⟨⟨h0, ha⟩, hb⟩, hc⟩, hi⟩, hr⟩ := h
  refine ⟨formOf_bd h0, fitB_bd ha, fitB_bd hb, fitB_bd hc, hr, fitB_no ha, fitB_no hb, fitB_no hc, fun h => ?_, fun h => fitB_no hc (no_both op h)⟩
  rcases hi with hi | hi
  · rw [h] at hi; cases hi
  · exact hi

theorem rd_word (op a b c imm : Int) (h : okI op a b c imm = true) :
    ((wordN op a b c imm : Nat) : Int) = wordI op a b c imm ∧ wordN op a b c imm < 4294967296 ∧ rdOp (wordN op a b c imm) = op ∧ rdA (wordN op a b c imm) = a ∧ rdB (wordN op a b c imm) = b ∧ rdC (wordN op a b c imm) = c ∧ rdI (wordN op a b c imm) = imm := by
  obtain ⟨ho, ha, hb, hc, hi, na, nb, nc, ni, ex⟩ := fit_of h
  have e : ((wordN op a b c imm : Nat) : Int) = op * 67108864 + a * 4194304 + b * 262144 + c * 16384 + imm % 262144 := by
    unfold wordN wordI
    omega
  have m0 : c = 0 ∨ imm % 262144 = 0 := by
    cases hh : hasI (formOf op)
    · right; rw [ni hh]; rfl
    · exact .inl (ex hh)
  have mb : 0 ≤ imm % 262144 ∧ imm % 262144 < 262144 := by omega
  have e1 : rdOp (wordN op a b c imm) = op := by unfold rdOp; rw [e]; omega
  refine ⟨e, by omega, e1, ?_, ?_, ?_, ?_⟩
  · unfold rdA
    rw [e1]
    cases hh : hasA (formOf op)
    · simp [na hh]
    · simp only [if_true]
      rw [e]; omega
  · unfold rdB
    rw [e1]
    cases hh : hasB (formOf op)
    · simp [nb hh]
    · simp only [if_true]
      rw [e]; omega
  · unfold rdC
    rw [e1]
    cases hh : hasC (formOf op)
    · simp [nc hh]
    · simp only [if_true]
      have hI : hasI (formOf op) = false := by
        cases hq : hasI (formOf op)
        · rfl
        · rw [no_both op hq] at hh; cases hh
      have h0 := ni hI
      rw [e]; omega
  · unfold rdI
    rw [e1]
    cases hh : hasI (formOf op)
    · simp [ni hh]
    · simp only [if_true]
      have hc0 := ex hh
      rw [e]
      unfold sgn18
      split <;> omega
end Go.Proofs.YtohojpacijnnaaaDoor.Is
