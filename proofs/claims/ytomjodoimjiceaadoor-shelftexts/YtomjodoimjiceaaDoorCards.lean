/-
  DERIVED. GIVEN WITH THE SEED: THE CARDS: each row of YtomjodoimjiceaaDoorRows.lean that lists a variable, with what it lists TIED to the program's text (the seventh form; the later family's looks); each row that meets fmt, with fmt's text TOLD by the authors' own Lean function (tested against real Go, not proved from fmt's source: count such statements apart). THE CARD IS WHAT COUNTS. Prove the row's statement (the work); the ties are given (YtomjodoimjiceaaDoorTie.lean); close each card by the builder's one call (the guide's Derived/Test/ToyasCard.lean, 'card_holds'). Laid BY PROGRAM, IN A SANDBOX (cutbox-door.mjs). By AI agents, Wed Nov 11 2026. No macro, syntax, notation, axiom, sorry.
-/
import Derived.Test.YtomjodoimjiceaaDoorRows
import GoSem.ClaimSeven
namespace Go.Proofs.YtomjodoimjiceaaDoor
namespace Rows

/-- THE TIED CARD OF 'bulkheadlaw06.ShelfTexts'. -/
def shelfTextsCard : Claim7 := { stood := { row := shelfTextsRow, standIns := [], harness := (true, "f6ab39072a54be3419a0d149f5c9304303490221dd2bf227ee71a9cf3011d547"), looks := false }, kinds := [], alts := [], laidByText := true, laidKinds := [.data, .data, .data], laidTests := true, laidLooks := .later }
def ShelfTextsCardSaid : Prop := Claim7.holds Tryd.pinned (.plain (OpenSpec.ofChange shelfTextsSpec)) shelfTextsCard

/-- THE SECOND FORM's CARD OF 'bulkheadlaw06.ShelfTexts'. -/
def shelfTextsUptoCard : Claim7 := { stood := { row := shelfTextsUptoRow, standIns := [], harness := (true, "f6ab39072a54be3419a0d149f5c9304303490221dd2bf227ee71a9cf3011d547"), looks := false }, kinds := [], alts := [], laidByText := true, laidKinds := [.data, .data, .data], laidTests := true, laidLooks := .later }
def ShelfTextsUptoCardSaid : Prop := Claim7.holds Tryd.pinned (.plain (OpenSpec.upto shelfTextsSpec)) shelfTextsUptoCard
end Rows
end Go.Proofs.YtomjodoimjiceaaDoor
