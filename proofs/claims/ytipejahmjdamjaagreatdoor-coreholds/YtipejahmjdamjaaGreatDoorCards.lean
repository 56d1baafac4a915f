/-
  DERIVED. GIVEN WITH THE SEED: THE CARDS: each row of YtipejahmjdamjaaGreatDoorRows.lean that lists a variable, with what it lists TIED to the program's text (the seventh form; the later family's looks); each row that meets fmt, with fmt's text TOLD by the authors' own Lean function (tested against real Go, not proved from fmt's source: count such statements apart). THE CARD IS WHAT COUNTS. Prove the row's statement (the work); the ties are given (YtipejahmjdamjaaGreatDoorTie.lean); close each card by the builder's one call (the guide's Derived/Test/ToyasCard.lean, 'card_holds'). Laid BY PROGRAM, IN A SANDBOX (cutbox-door.mjs). By AI agents, Wed Nov 11 2026. No macro, syntax, notation, axiom, sorry.
-/
import Derived.Test.YtipejahmjdamjaaGreatDoorRows
import GoSem.ClaimSeven
namespace Go.Proofs.YtipejahmjdamjaaGreatDoor
namespace Rows

/-- THE TIED CARD OF 'bulkheadlaw10.CoreSteps'. -/
def coreStepsCard : Claim7 := { stood := { row := coreStepsRow, standIns := [], harness := (true, "c31fc9ec4e627624a5e2f92c7b8f9d4c11d3b54cf56950ce8ab41e32caaf26c0"), looks := false }, kinds := [], alts := [], laidByText := true, laidKinds := [.data, .data], laidTests := true, laidLooks := .later }
def CoreStepsCardSaid : Prop := Claim7.holds Tryz.pinned (.plain (OpenSpec.ofChange coreStepsSpec)) coreStepsCard

/-- THE TIED CARD OF 'bulkheadlaw10.CoreHolds'. -/
def coreHoldsCard : Claim7 := { stood := { row := coreHoldsRow, standIns := [], harness := (true, "c31fc9ec4e627624a5e2f92c7b8f9d4c11d3b54cf56950ce8ab41e32caaf26c0"), looks := false }, kinds := [], alts := [], laidByText := true, laidKinds := [.data, .data], laidTests := true, laidLooks := .later }
def CoreHoldsCardSaid : Prop := Claim7.holds Tryz.pinned (.plain (OpenSpec.ofChange coreHoldsSpec)) coreHoldsCard

/-- THE TIED CARD OF 'bulkheadlaw10.CoreCosts'. -/
def coreCostsCard : Claim7 := { stood := { row := coreCostsRow, standIns := [], harness := (true, "c31fc9ec4e627624a5e2f92c7b8f9d4c11d3b54cf56950ce8ab41e32caaf26c0"), looks := false }, kinds := [], alts := [], laidByText := true, laidKinds := [.data, .data], laidTests := true, laidLooks := .later }
def CoreCostsCardSaid : Prop := Claim7.holds Tryz.pinned (.plain (OpenSpec.ofChange coreCostsSpec)) coreCostsCard

/-- THE TIED CARD OF 'bulkheadlaw10.CoreWalls'. -/
def coreWallsCard : Claim7 := { stood := { row := coreWallsRow, standIns := [], harness := (true, "c31fc9ec4e627624a5e2f92c7b8f9d4c11d3b54cf56950ce8ab41e32caaf26c0"), looks := false }, kinds := [], alts := [], laidByText := true, laidKinds := [.data, .data], laidTests := true, laidLooks := .later }
def CoreWallsCardSaid : Prop := Claim7.holds Tryz.pinned (.plain (OpenSpec.ofChange coreWallsSpec)) coreWallsCard

/-- THE TIED CARD OF 'bulkheadlaw10.CoreBlind'. -/
def coreBlindCard : Claim7 := { stood := { row := coreBlindRow, standIns := [], harness := (true, "c31fc9ec4e627624a5e2f92c7b8f9d4c11d3b54cf56950ce8ab41e32caaf26c0"), looks := false }, kinds := [], alts := [], laidByText := true, laidKinds := [.data, .data], laidTests := true, laidLooks := .later }
def CoreBlindCardSaid : Prop := Claim7.holds Tryz.pinned (.plain (OpenSpec.ofChange coreBlindSpec)) coreBlindCard

/-- THE SECOND FORM's CARD OF 'bulkheadlaw10.CoreSteps'. -/
def coreStepsUptoCard : Claim7 := { stood := { row := coreStepsUptoRow, standIns := [], harness := (true, "c31fc9ec4e627624a5e2f92c7b8f9d4c11d3b54cf56950ce8ab41e32caaf26c0"), looks := false }, kinds := [], alts := [], laidByText := true, laidKinds := [.data, .data], laidTests := true, laidLooks := .later }
def CoreStepsUptoCardSaid : Prop := Claim7.holds Tryz.pinned (.plain (OpenSpec.upto coreStepsSpec)) coreStepsUptoCard

/-- THE SECOND FORM's CARD OF 'bulkheadlaw10.CoreHolds'. -/
def coreHoldsUptoCard : Claim7 := { stood := { row := coreHoldsUptoRow, standIns := [], harness := (true, "c31fc9ec4e627624a5e2f92c7b8f9d4c11d3b54cf56950ce8ab41e32caaf26c0"), looks := false }, kinds := [], alts := [], laidByText := true, laidKinds := [.data, .data], laidTests := true, laidLooks := .later }
def CoreHoldsUptoCardSaid : Prop := Claim7.holds Tryz.pinned (.plain (OpenSpec.upto coreHoldsSpec)) coreHoldsUptoCard

/-- THE SECOND FORM's CARD OF 'bulkheadlaw10.CoreCosts'. -/
def coreCostsUptoCard : Claim7 := { stood := { row := coreCostsUptoRow, standIns := [], harness := (true, "c31fc9ec4e627624a5e2f92c7b8f9d4c11d3b54cf56950ce8ab41e32caaf26c0"), looks := false }, kinds := [], alts := [], laidByText := true, laidKinds := [.data, .data], laidTests := true, laidLooks := .later }
def CoreCostsUptoCardSaid : Prop := Claim7.holds Tryz.pinned (.plain (OpenSpec.upto coreCostsSpec)) coreCostsUptoCard

/-- THE SECOND FORM's CARD OF 'bulkheadlaw10.CoreWalls'. -/
def coreWallsUptoCard : Claim7 := { stood := { row := coreWallsUptoRow, standIns := [], harness := (true, "c31fc9ec4e627624a5e2f92c7b8f9d4c11d3b54cf56950ce8ab41e32caaf26c0"), looks := false }, kinds := [], alts := [], laidByText := true, laidKinds := [.data, .data], laidTests := true, laidLooks := .later }
def CoreWallsUptoCardSaid : Prop := Claim7.holds Tryz.pinned (.plain (OpenSpec.upto coreWallsSpec)) coreWallsUptoCard

/-- THE SECOND FORM's CARD OF 'bulkheadlaw10.CoreBlind'. -/
def coreBlindUptoCard : Claim7 := { stood := { row := coreBlindUptoRow, standIns := [], harness := (true, "c31fc9ec4e627624a5e2f92c7b8f9d4c11d3b54cf56950ce8ab41e32caaf26c0"), looks := false }, kinds := [], alts := [], laidByText := true, laidKinds := [.data, .data], laidTests := true, laidLooks := .later }
def CoreBlindUptoCardSaid : Prop := Claim7.holds Tryz.pinned (.plain (OpenSpec.upto coreBlindSpec)) coreBlindUptoCard
end Rows
end Go.Proofs.YtipejahmjdamjaaGreatDoor
