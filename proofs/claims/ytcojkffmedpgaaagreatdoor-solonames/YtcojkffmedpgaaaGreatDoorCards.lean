/-
  DERIVED. GIVEN WITH THE SEED: THE CARDS: each row of YtcojkffmedpgaaaGreatDoorRows.lean that lists a variable, with what it lists TIED to the program's text (the seventh form; the later family's looks); each row that meets fmt, with fmt's text TOLD by the authors' own Lean function (tested against real Go, not proved from fmt's source: count such statements apart). THE CARD IS WHAT COUNTS. Prove the row's statement (the work); the ties are given (YtcojkffmedpgaaaGreatDoorTie.lean); close each card by the builder's one call (the guide's Derived/Test/ToyasCard.lean, 'card_holds'). Laid BY PROGRAM, IN A SANDBOX (cutbox-door.mjs). By AI agents, Wed Nov 11 2026. No macro, syntax, notation, axiom, sorry.
-/
import Derived.Test.YtcojkffmedpgaaaGreatDoorRows
import GoSem.ClaimSeven
namespace Go.Proofs.YtcojkffmedpgaaaGreatDoor
namespace Rows

/-- THE TIED CARD OF 'bulkheadlaw27.SoloNames'. -/
def soloNamesCard : Claim7 := { stood := { row := soloNamesRow, standIns := [], harness := (true, "085adbb1fbea2f11498b5eee8311cf2381aab86ce09af8cbc8ca310ae11535ca"), looks := true }, kinds := [], alts := [], laidByText := true, laidKinds := [.data, .data], laidTests := true, laidLooks := .later }
def SoloNamesCardSaid : Prop := Claim7.holds Tryz.pinned (.plain (OpenSpec.ofChange soloNamesSpec)) soloNamesCard

/-- THE SECOND FORM's CARD OF 'bulkheadlaw27.SoloNames'. -/
def soloNamesUptoCard : Claim7 := { stood := { row := soloNamesUptoRow, standIns := [], harness := (true, "085adbb1fbea2f11498b5eee8311cf2381aab86ce09af8cbc8ca310ae11535ca"), looks := true }, kinds := [], alts := [], laidByText := true, laidKinds := [.data, .data], laidTests := true, laidLooks := .later }
def SoloNamesUptoCardSaid : Prop := Claim7.holds Tryz.pinned (.plain (OpenSpec.upto soloNamesSpec)) soloNamesUptoCard
end Rows
end Go.Proofs.YtcojkffmedpgaaaGreatDoor
