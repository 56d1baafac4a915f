import Derived.Test.YtegediccgnoecabDoorRdWord
namespace Go.Proofs.YtegediccgnoecabDoor
open Go.RowKit
set_option linter.unusedVariables false

theorem dec_ok (x : Nat) (hx : x < 4294967296) (h : decOk x = true) (w : World) (ht : Tabs w) : Calls Tryd.prog 4 #[.int .u32 x] w fun e w' => e = .returned (.tuple #[insV (rdOp x) (rdA x) (rdB x) (rdC x) (rdI x), .int .i64 0]) ∧ Below w.heap.size w w' := by
  have := dec_any x hx w ht
  simpa only [decV, decE, h, if_true] using this
theorem dec_bad (x : Nat) (hx : x < 4294967296) (h : decOk x = false) (w : World) (ht : Tabs w) : Calls Tryd.prog 4 #[.int .u32 x] w fun e w' => e = .returned (.tuple #[insV 0 0 0 0 0, .int .i64 20]) ∧ Below w.heap.size w w' := by
  have := dec_any x hx w ht
  simpa [decV, decE, h, zeroV] using this

/-- May A be a? -/
def aFits (f a : Int) : Bool := if f == 1 || f == 7 then a == 0 else decide (0 ≤ a ∧ a ≤ 15)
def iFits (f i : Int) : Bool := if f ≤ 4 then i == 0 else decide (-131072 ≤ i ∧ i ≤ 131071)

theorem a_fits {op a b c imm : Int} (h : okI op a b c imm = true) (a' : Int) : encE op a' b c imm = if aFits (formOf op) a' then 0 else 21 := by
  have hf : fitB (hasA (formOf op)) a' = aFits (formOf op) a' := by
    have h0 : formOf op ≠ 0 := by
      intro h0
      simp [okI, h0] at h
    obtain ⟨k, hk, hk8⟩ := formOf_nat op
    rw [hk] at h0 ⊢
    have e : k = 1 ∨ k = 2 ∨ k = 3 ∨ k = 4 ∨ k = 5 ∨ k = 6 ∨ k = 7 := by omega
    rcases e with rfl | rfl | rfl | rfl | rfl | rfl | rfl <;> simp [fitB, hasA, aFits] <;> rfl
  have ho : okI op a' b c imm = aFits (formOf op) a' := by
    simp only [okI, Bool.and_eq_true] at h ⊢
    obtain ⟨⟨⟨⟨⟨h0, ha⟩, hb⟩, hc⟩, hi⟩, hr⟩ := h
    rw [h0, hb, hc, hi, hr, hf]
    simp
  unfold encE
  rw [ho]
theorem i_fits {op a b c imm : Int} (h : okI op a b c imm = true) (i' : Int) : encE op a b c i' = if iFits (formOf op) i' then 0 else 21 := by
  have hf : ((hasI (formOf op) || i' == 0) && decide (-131072 ≤ i' ∧ i' < 131072)) = iFits (formOf op) i' := by
    have h0 : formOf op ≠ 0 := by
      intro h0
      simp [okI, h0] at h
    obtain ⟨k, hk, hk8⟩ := formOf_nat op
    rw [hk] at h0 ⊢
    have e : k = 1 ∨ k = 2 ∨ k = 3 ∨ k = 4 ∨ k = 5 ∨ k = 6 ∨ k = 7 := by omega
    rw [Bool.eq_iff_iff]
    rcases e with rfl | rfl | rfl | rfl | rfl | rfl | rfl <;> simp [hasI, iFits] <;> omega
  have ho : okI op a b c i' = iFits (formOf op) i' := by
    rw [← hf]
    simp only [okI, Bool.and_eq_true] at h ⊢
    obtain ⟨⟨⟨⟨⟨h0, ha⟩, hb⟩, hc⟩, hi⟩, hr⟩ := h
    rw [h0, hb, hc, ha]
    simp
  unfold encE
  rw [ho]
end Go.Proofs.YtegediccgnoecabDoor
