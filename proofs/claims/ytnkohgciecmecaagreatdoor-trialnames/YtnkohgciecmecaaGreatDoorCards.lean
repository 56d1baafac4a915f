/-
  DERIVED. GIVEN WITH THE SEED: THE CARDS: each row of YtnkohgciecmecaaGreatDoorRows.lean that lists a variable, with what it lists TIED to the program's text (the seventh form; the later family's looks); each row that meets fmt, with fmt's text TOLD by the authors' own Lean function (tested against real Go, not proved from fmt's source: count such statements apart). THE CARD IS WHAT COUNTS. Prove the row's statement (the work); the ties are given (YtnkohgciecmecaaGreatDoorTie.lean); close each card by the builder's one call (the guide's Derived/Test/ToyasCard.lean, 'card_holds'). Laid BY PROGRAM, IN A SANDBOX (cutbox-door.mjs). By AI agents, Wed Nov 11 2026. No macro, syntax, notation, axiom, sorry.
-/
import Derived.Test.YtnkohgciecmecaaGreatDoorRows
import GoSem.ClaimSeven
namespace Go.Proofs.YtnkohgciecmecaaGreatDoor
namespace Rows

/-- THE TIED CARD OF 'bulkheadlaw31.TrialNames'. -/
def trialNamesCard : Claim7 := { stood := { row := trialNamesRow, standIns := [], harness := (true, "ee6b13d8283ff55bd4bad7d00414cea32875f06029e566594455354a8286c6be"), looks := true }, kinds := [], alts := [], goes := true, laidByText := true, laidKinds := [.data, .data], laidTests := true, laidLooks := .later }
def TrialNamesCardSaid : Prop := Claim7.holds Tryz.pinned (.plain (OpenSpec.ofChange trialNamesSpec)) trialNamesCard

/-- THE SECOND FORM's CARD OF 'bulkheadlaw31.TrialNames'. -/
def trialNamesUptoCard : Claim7 := { stood := { row := trialNamesUptoRow, standIns := [], harness := (true, "ee6b13d8283ff55bd4bad7d00414cea32875f06029e566594455354a8286c6be"), looks := true }, kinds := [], alts := [], goes := true, laidByText := true, laidKinds := [.data, .data], laidTests := true, laidLooks := .later }
def TrialNamesUptoCardSaid : Prop := Claim7.holds Tryz.pinned (.plain (OpenSpec.upto trialNamesSpec)) trialNamesUptoCard
end Rows
end Go.Proofs.YtnkohgciecmecaaGreatDoor
