/-
  DERIVED. GIVEN WITH THE SEED: THE CARDS: each row of YtegediccgnoecabDoorRows.lean that lists a variable, with what it lists TIED to the program's text (the seventh form; the later family's looks); each row that meets fmt, with fmt's text TOLD by the authors' own Lean function (tested against real Go, not proved from fmt's source: count such statements apart). THE CARD IS WHAT COUNTS. Prove the row's statement (the work); the ties are given (YtegediccgnoecabDoorTie.lean); close each card by the builder's one call (the guide's Derived/Test/ToyasCard.lean, 'card_holds'). Laid BY PROGRAM, IN A SANDBOX (cutbox-door.mjs). By AI agents, Wed Nov 11 2026. No macro, syntax, notation, axiom, sorry.
-/
import Derived.Test.YtegediccgnoecabDoorRows
import GoSem.ClaimSeven
namespace Go.Proofs.YtegediccgnoecabDoor
namespace Rows

/-- THE TIED CARD OF 'bulkheadlaw02.IsaWidth'. -/
def isaWidthCard : Claim7 := { stood := { row := isaWidthRow, standIns := [], harness := (true, "997a838e1217b442102ba578e6f4db117a705131d1ed88bcaf0b45d656890869"), looks := false }, kinds := [], alts := [], laidByText := true, laidKinds := [.data, .data], laidTests := true, laidLooks := .later }
def IsaWidthCardSaid : Prop := Claim7.holds Tryd.pinned (.plain (OpenSpec.ofChange isaWidthSpec)) isaWidthCard

/-- THE SECOND FORM's CARD OF 'bulkheadlaw02.IsaWidth'. -/
def isaWidthUptoCard : Claim7 := { stood := { row := isaWidthUptoRow, standIns := [], harness := (true, "997a838e1217b442102ba578e6f4db117a705131d1ed88bcaf0b45d656890869"), looks := false }, kinds := [], alts := [], laidByText := true, laidKinds := [.data, .data], laidTests := true, laidLooks := .later }
def IsaWidthUptoCardSaid : Prop := Claim7.holds Tryd.pinned (.plain (OpenSpec.upto isaWidthSpec)) isaWidthUptoCard
end Rows
end Go.Proofs.YtegediccgnoecabDoor
