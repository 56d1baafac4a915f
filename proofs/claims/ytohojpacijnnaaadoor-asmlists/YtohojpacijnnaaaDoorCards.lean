/-
  DERIVED. GIVEN WITH THE SEED: THE CARDS: each row of YtohojpacijnnaaaDoorRows.lean that lists a variable, with what it lists TIED to the program's text (the seventh form; the later family's looks); each row that meets fmt, with fmt's text TOLD by the authors' own Lean function (tested against real Go, not proved from fmt's source: count such statements apart). THE CARD IS WHAT COUNTS. Prove the row's statement (the work); the ties are given (YtohojpacijnnaaaDoorTie.lean); close each card by the builder's one call (the guide's Derived/Test/ToyasCard.lean, 'card_holds'). Laid BY PROGRAM, IN A SANDBOX (cutbox-door.mjs). By AI agents, Wed Nov 11 2026. No macro, syntax, notation, axiom, sorry.
-/
import Derived.Test.YtohojpacijnnaaaDoorRows
import GoSem.ClaimSeven
namespace Go.Proofs.YtohojpacijnnaaaDoor
namespace Rows

/-- THE TIED CARD OF 'bulkheadlaw04.AsmLists'. -/
def asmListsCard : Claim7 := { stood := { row := asmListsRow, standIns := [], harness := (true, "c499951c4da9195d96f6cea098fcfb0a3cf59c841f83222b43da56002de6c9e6"), looks := false }, kinds := [], alts := [], laidByText := true, laidKinds := [.data, .data, .data, .data, .data, .data], laidTests := true, laidLooks := .later }
def AsmListsCardSaid : Prop := Claim7.holds Tryd.pinned (.plain (OpenSpec.ofChange asmListsSpec)) asmListsCard

/-- THE SECOND FORM's CARD OF 'bulkheadlaw04.AsmLists'. -/
def asmListsUptoCard : Claim7 := { stood := { row := asmListsUptoRow, standIns := [], harness := (true, "c499951c4da9195d96f6cea098fcfb0a3cf59c841f83222b43da56002de6c9e6"), looks := false }, kinds := [], alts := [], laidByText := true, laidKinds := [.data, .data, .data, .data, .data, .data], laidTests := true, laidLooks := .later }
def AsmListsUptoCardSaid : Prop := Claim7.holds Tryd.pinned (.plain (OpenSpec.upto asmListsSpec)) asmListsUptoCard
end Rows
end Go.Proofs.YtohojpacijnnaaaDoor
