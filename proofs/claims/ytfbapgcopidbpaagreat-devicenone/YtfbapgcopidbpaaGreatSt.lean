import Derived.Test.YtfbapgcopidbpaaGreatSs
import Derived.Test.YtfbapgcopidbpaaGreatRp
namespace Go.Proofs.YtfbapgcopidbpaaGreat
open Go.RowKit
set_option linter.unusedVariables false
set_option linter.unusedSimpArgs false
set_option maxRecDepth 6000

/-- A piece has the word. -/
def Pc.has (t : Int) (p : Pc) : Bool := decide (p.pos ≤ t) && decide (t < p.pos + p.size)
def ownD (x : Cfg) (t : Int) : Ow := match (pcAll x (16 * x.kernel)).find? (Pc.has t) with | some p => p.ow | none => regO (t / 16) x.ps
def ownR (x : Cfg) (t : Int) : Ow × Int :=
  if x.mayB = false then (⟨0, 0, 0⟩, 150) else if isW x.frames t = false then (⟨0, 0, 0⟩, 151) else (ownD x t, 0)
theorem isW_iff {f t : Int} : isW f t = true ↔ (0 ≤ t ∧ t / 16 < f ∧ t / 16 < 1024) := by unfold isW; simp [and_assoc]
theorem isW_no {f t : Int} (h : ¬ (0 ≤ t ∧ t / 16 < f ∧ t / 16 < 1024)) : isW f t = false := by rw [Bool.eq_false_iff, Ne, isW_iff]; exact h

end Go.Proofs.YtfbapgcopidbpaaGreat
