import Derived.Test.YtnkfdmlpjgmckaaTy
import Derived.Laws.FloatArith
import Derived.Test.YtnkfdmlpjgmckaaFm
namespace Go.Proofs.Ytnkfdmlpjgmckaa
open Go.RowKit
set_option linter.unusedVariables false
set_option maxRecDepth 6000

/-- A share as it is told: one division. -/
def shr (u m : Int) : Option Nat := floatBits .quo .f64 (floatOfInt .f64 u) (floatOfInt .f64 m)
theorem read_nearest (neg : Bool) (mag : Nat) (place : Int) : (Ieee.double.read (Ieee.double.nearest neg mag place)).isNaN = false := by
  have key : ∀ rung, rung ≤ Ieee.double.infRung → (Ieee.double.read (Ieee.double.word neg rung)).isNaN = false := by
    intro rung hr
    have h1 := Ieee.double.infRung_lt
    have hw : Ieee.double.word neg rung % Ieee.double.signWeight = rung := by
      unfold Ieee.Format.word
      split
      · rw [Nat.add_mod_left, Nat.mod_eq_of_lt (by omega)]
      · exact Nat.mod_eq_of_lt (by omega)
    unfold Ieee.Format.read
    dsimp only
    rw [hw]
    split
    · rfl
    · split
      · rfl
      · rw [if_pos (by omega)]
        rfl
  unfold Ieee.Format.nearest
  dsimp only
  split
  · exact key _ (Nat.zero_le _)
  · exact key _ (Nat.min_le_right _ _)
theorem read_write (d : Ieee.Datum) (h : d.isNaN = false) : (Ieee.double.read (Ieee.double.write d)).isNaN = false := by
  cases d with
  | number neg mag place => exact read_nearest neg mag place
  | infinity neg =>
    cases neg <;> decide +kernel
  | nan neg fr => cases h
theorem quo_some (d e : Ieee.Datum) (hd : d.isNaN = false) (he : okDatum e = true) : ∃ r, d.quotient 54 e = some r ∧ r.isNaN = false := by
  cases e with
  | nan s t => cases he
  | infinity s => cases he
  | number t n j =>
    have hn : n ≠ 0 := by simpa [okDatum] using he
    cases d with
    | nan s t => cases hd
    | infinity s => exact ⟨_, rfl, rfl⟩
    | number s m i =>
      have : ∃ a b c, Ieee.Datum.quotient 54 (.number s m i) (.number t n j) = some (.number a b c) := by
        unfold Ieee.Datum.quotient
        dsimp only
        rw [if_neg hn]
        exact ⟨_, _, _, rfl⟩
      obtain ⟨a, b, c, h⟩ := this
      exact ⟨_, h, rfl⟩
theorem shr_some {u m : Int} (hm : 1 ≤ m ∧ m ≤ 16384) : ∃ r, shr u m = some r ∧ (Ieee.double.read r).isNaN = false := by
  have h := majors
  rw [List.all_eq_true] at h
  have h1 := h (m.toNat - 1) (by simp; omega)
  rw [show ((m.toNat - 1 + 1 : Nat) : Int) = m from by omega] at h1
  have h2 : (Ieee.double.read (floatOfInt .f64 u)).isNaN = false := read_write (.number (u < 0) u.natAbs 0) rfl
  obtain ⟨r, hr, hr2⟩ := quo_some _ _ h2 h1
  refine ⟨Ieee.double.write r, ?_, read_write r hr2⟩
  show Option.map _ (Ieee.Datum.quotient 54 _ _) = _
  have e : FloatKind.format .f64 = Ieee.double := rfl
  rw [e, hr]
  rfl
end Go.Proofs.Ytnkfdmlpjgmckaa
