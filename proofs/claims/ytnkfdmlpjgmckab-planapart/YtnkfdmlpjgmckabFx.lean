import Derived.Test.YtnkfdmlpjgmckabFl
namespace Go.Proofs.Ytnkfdmlpjgmckab
open Go.RowKit
set_option linter.unusedVariables false
set_option maxRecDepth 6000

/-- A small number as a float, exactly. -/
def exB (n : Nat) : Bool := decide (Ieee.double.read (floatOfInt .f64 (n : Int)) = .number false (n <<< (52 - n.log2)) ((n.log2 : Int) - 52)) && decide (4503599627370496 ≤ n <<< (52 - n.log2)) && decide (n <<< (52 - n.log2) < 9007199254740992)
theorem exact_all : (List.range 16384).all (fun n => exB (n + 1)) = true := by decide +kernel
theorem exact_n {n : Nat} (h1 : 1 ≤ n) (h2 : n ≤ 16384) : Ieee.double.read (floatOfInt .f64 (n : Int)) = .number false (n <<< (52 - n.log2)) ((n.log2 : Int) - 52) ∧ 4503599627370496 ≤ n <<< (52 - n.log2) ∧ n <<< (52 - n.log2) < 9007199254740992 := by
  have h := exact_all
  rw [List.all_eq_true] at h
  have h3 := h (n - 1) (by simp; omega)
  rw [show n - 1 + 1 = n from by omega] at h3
  unfold exB at h3
  simp only [Bool.and_eq_true, decide_eq_true_eq] at h3
  exact ⟨h3.1.1, h3.1.2, h3.2⟩
end Go.Proofs.Ytnkfdmlpjgmckab
