/-
  DERIVED. GIVEN WITH THE SEED: THE CARDS: each row of YtipejahmjdamjaaDoorRows.lean that lists a variable, with what it lists TIED to the program's text (the seventh form; the later family's looks); each row that meets fmt, with fmt's text TOLD by the authors' own Lean function (tested against real Go, not proved from fmt's source: count such statements apart). THE CARD IS WHAT COUNTS. Prove the row's statement (the work); the ties are given (YtipejahmjdamjaaDoorTie.lean); close each card by the builder's one call (the guide's Derived/Test/ToyasCard.lean, 'card_holds'). Laid BY PROGRAM, IN A SANDBOX (cutbox-door.mjs). By AI agents, Wed Nov 11 2026. No macro, syntax, notation, axiom, sorry.
-/
import Derived.Test.YtipejahmjdamjaaDoorRows
import GoSem.ClaimSeven
namespace Go.Proofs.YtipejahmjdamjaaDoor
namespace Rows

/-- THE TIED CARD OF 'bulkheadlaw10.CoreNames'. -/
def coreNamesCard : Claim7 := { stood := { row := coreNamesRow, standIns := [], harness := (true, "90787e38516d427dd6d59b65904c402786376764053fc5c404a5835f973b690b"), looks := false }, kinds := [], alts := [], laidByText := true, laidKinds := [.data, .data], laidTests := true, laidLooks := .later }
def CoreNamesCardSaid : Prop := Claim7.holds Tryd.pinned (.plain (OpenSpec.ofChange coreNamesSpec)) coreNamesCard

/-- THE SECOND FORM's CARD OF 'bulkheadlaw10.CoreNames'. -/
def coreNamesUptoCard : Claim7 := { stood := { row := coreNamesUptoRow, standIns := [], harness := (true, "90787e38516d427dd6d59b65904c402786376764053fc5c404a5835f973b690b"), looks := false }, kinds := [], alts := [], laidByText := true, laidKinds := [.data, .data], laidTests := true, laidLooks := .later }
def CoreNamesUptoCardSaid : Prop := Claim7.holds Tryd.pinned (.plain (OpenSpec.upto coreNamesSpec)) coreNamesUptoCard
end Rows
end Go.Proofs.YtipejahmjdamjaaDoor
