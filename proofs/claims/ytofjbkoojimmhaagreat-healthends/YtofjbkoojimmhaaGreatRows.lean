/-
  No cell of these rows narrows 'for every input' (looked for: loops, veiled, ifaces, maps, wideKeys, modest, calm, conditions, laid).
  DERIVED. THE GIVEN ROWS OF THIS SEAT. 4 by the template 'for every input the law returns true; each argument reads behind the call as it read before'; 0 by the template 'total and deterministic' (their statements: YtofjbkoojimmhaaGreatTotals.lean).
  GIVEN WITH THE SEED: the statements are not yours to turn. If you find one false, say at which input.
  Laid BY PROGRAM, IN A SANDBOX (cutbox-rows.mjs): the forced cells as the released guide's own fill.sh prints them over the translation 9c7ce0c541ece3ec… (all of the seat's roots in one cut). By AI agents, Wed Nov 11 2026. No macro, syntax, notation, axiom, sorry.
-/
import Derived.Test.YtofjbkoojimmhaaGreatChecked
import GoSem.Claim
import GoSem.ClaimJoined
import GoSem.ClaimMapViews
import Derived.JoinedTies
import Derived.KernelRfl
namespace Go.Proofs.YtofjbkoojimmhaaGreat
/- THE CELL 'sum', in the pinned program and in every row, IS THE sha256 OF THE DUMP (.gsa) THAT YtofjbkoojimmhaaGreatProg.lean LOADS. Nothing in Lean hashes anything: it is a label: what it is worth is what the hold of that sum in a sandbox is worth. -/
noncomputable def Tryz.pinned : Pinned := { name := "ytofjbkoojimmhaagreat", sum := "9c7ce0c541ece3ec47c1fc1803d656b7daa0a6d9bcceb073f471d254584b949f", checked := Tryz.checked }
namespace Rows
def none {H : Type} : Left H := { results := [], args := [] }

/-- 'bulkheadlaw23.HealthEnds': WHATEVER THE INPUT: true; the input reads as it did. -/
def healthEndsSpec : ChangeSpec := { name := "healthEnds", fn := fun _ => fun
  | [d1, d2, d3] => { results := [.lit (.bool true)], args := [d1, d2, d3] }
  | _ => none }
def healthEndsRow : OpenClaim := { program := "ytofjbkoojimmhaagreat", sum := "9c7ce0c541ece3ec47c1fc1803d656b7daa0a6d9bcceb073f471d254584b949f", func := "bulkhead/bulkheadlaw23.HealthEnds", spec := "healthEnds", unfollowed := true, recurses := true, apart := false }
def HealthEndsSaid : Prop := healthEndsRow.holds Tryz.pinned (OpenSpec.ofChange healthEndsSpec)

/-- ITS FALSE NEIGHBOUR: 'it returns false'. Refute it at one input. -/
def healthEndsWrong : ChangeSpec := { name := "healthEnds", fn := fun _ => fun
  | [d1, d2, d3] => { results := [.lit (.bool false)], args := [d1, d2, d3] }
  | _ => none }
def HealthEndsWrongFalsely : Prop := healthEndsRow.holds Tryz.pinned (OpenSpec.ofChange healthEndsWrong)

/-- 'bulkheadlaw23.HealthBack': WHATEVER THE INPUT: true; the input reads as it did. -/
def healthBackSpec : ChangeSpec := { name := "healthBack", fn := fun _ => fun
  | [d1, d2, d3] => { results := [.lit (.bool true)], args := [d1, d2, d3] }
  | _ => none }
def healthBackRow : OpenClaim := { program := "ytofjbkoojimmhaagreat", sum := "9c7ce0c541ece3ec47c1fc1803d656b7daa0a6d9bcceb073f471d254584b949f", func := "bulkhead/bulkheadlaw23.HealthBack", spec := "healthBack", unfollowed := true, recurses := true, apart := false }
def HealthBackSaid : Prop := healthBackRow.holds Tryz.pinned (OpenSpec.ofChange healthBackSpec)

/-- ITS FALSE NEIGHBOUR: 'it returns false'. Refute it at one input. -/
def healthBackWrong : ChangeSpec := { name := "healthBack", fn := fun _ => fun
  | [d1, d2, d3] => { results := [.lit (.bool false)], args := [d1, d2, d3] }
  | _ => none }
def HealthBackWrongFalsely : Prop := healthBackRow.holds Tryz.pinned (OpenSpec.ofChange healthBackWrong)

/-- 'bulkheadlaw23.HealthWalls': WHATEVER THE INPUT: true; the input reads as it did. -/
def healthWallsSpec : ChangeSpec := { name := "healthWalls", fn := fun _ => fun
  | [d1, d2, d3] => { results := [.lit (.bool true)], args := [d1, d2, d3] }
  | _ => none }
def healthWallsRow : OpenClaim := { program := "ytofjbkoojimmhaagreat", sum := "9c7ce0c541ece3ec47c1fc1803d656b7daa0a6d9bcceb073f471d254584b949f", func := "bulkhead/bulkheadlaw23.HealthWalls", spec := "healthWalls", unfollowed := true, recurses := true, apart := false }
def HealthWallsSaid : Prop := healthWallsRow.holds Tryz.pinned (OpenSpec.ofChange healthWallsSpec)

/-- ITS FALSE NEIGHBOUR: 'it returns false'. Refute it at one input. -/
def healthWallsWrong : ChangeSpec := { name := "healthWalls", fn := fun _ => fun
  | [d1, d2, d3] => { results := [.lit (.bool false)], args := [d1, d2, d3] }
  | _ => none }
def HealthWallsWrongFalsely : Prop := healthWallsRow.holds Tryz.pinned (OpenSpec.ofChange healthWallsWrong)

/-- 'bulkheadlaw23.HealthNames': WHATEVER THE INPUT: true; the input reads as it did. -/
def healthNamesSpec : ChangeSpec := { name := "healthNames", fn := fun _ => fun
  | [] => { results := [.lit (.bool true)], args := [] }
  | _ => none }
def healthNamesRow : OpenClaim := { program := "ytofjbkoojimmhaagreat", sum := "9c7ce0c541ece3ec47c1fc1803d656b7daa0a6d9bcceb073f471d254584b949f", func := "bulkhead/bulkheadlaw23.HealthNames", spec := "healthNames", unfollowed := true, recurses := true, apart := false }
def HealthNamesSaid : Prop := healthNamesRow.holds Tryz.pinned (OpenSpec.ofChange healthNamesSpec)

/-- ITS FALSE NEIGHBOUR: 'it returns false'. Refute it at one input. -/
def healthNamesWrong : ChangeSpec := { name := "healthNames", fn := fun _ => fun
  | [] => { results := [.lit (.bool false)], args := [] }
  | _ => none }
def HealthNamesWrongFalsely : Prop := healthNamesRow.holds Tryz.pinned (OpenSpec.ofChange healthNamesWrong)

/- THE SECOND FORM. 'bulk': how many values and letters a reading holds, each counted each time it is reached (what is shared counts as often as it is met; a slice's spare places count too). A statement '..UptoSaid' is the law's where the arguments, and the package variables that the reading takes, are together of bulk at most 1048576: NARROWER than '..Said'. Prove '..Said' where nothing that the law and all that it calls make is longer than what came in: it says more and counts as full. Else prove '..UptoSaid'. A law counts once. -/
mutual
def uptoBulk {H : Type} : DataW H → Nat
  | .lit (.string bytes) => bytes.length + 1
  | .lit _ => 1
  | .nil => 1
  | .ptr d => uptoBulk d + 1
  | .slice elems spare => uptoBulkAll elems + uptoBulkAll spare + 1
  | .agg parts => uptoBulkAll parts + 1
  | .iface _ d => uptoBulk d + 1
  | .map entries => uptoBulkEntries entries + 1
  | .held _ => 1
def uptoBulkAll {H : Type} : List (DataW H) → Nat
  | [] => 0
  | d :: r => uptoBulk d + uptoBulkAll r
def uptoBulkEntries {H : Type} : List (Lit × DataW H) → Nat
  | [] => 0
  | x :: r => uptoBulkEntry x + uptoBulkEntries r
def uptoBulkEntry {H : Type} : Lit × DataW H → Nat
  | (.string bytes, d) => bytes.length + uptoBulk d + 1
  | (_, d) => uptoBulk d + 1
 end
def uptoSmall : (H : Type) → List (DataW H) → Bool := fun _ ds => decide (uptoBulkAll ds ≤ 1048576)
def OpenSpec.upto (s : _root_.Go.ChangeSpec) : _root_.Go.OpenSpec := { _root_.Go.OpenSpec.ofChange s with cond := some uptoSmall }

/-- 'bulkheadlaw23.HealthEnds', WHERE WHAT IT READS IS OF BULK AT MOST 1048576: true; the input reads as it did. -/
def healthEndsUptoRow : OpenClaim := { program := "ytofjbkoojimmhaagreat", sum := "9c7ce0c541ece3ec47c1fc1803d656b7daa0a6d9bcceb073f471d254584b949f", func := "bulkhead/bulkheadlaw23.HealthEnds", spec := "healthEnds", unfollowed := true, recurses := true, apart := false, narrowed := true }
def HealthEndsUptoSaid : Prop := healthEndsUptoRow.holds Tryz.pinned (OpenSpec.upto healthEndsSpec)

/-- 'bulkheadlaw23.HealthBack', WHERE WHAT IT READS IS OF BULK AT MOST 1048576: true; the input reads as it did. -/
def healthBackUptoRow : OpenClaim := { program := "ytofjbkoojimmhaagreat", sum := "9c7ce0c541ece3ec47c1fc1803d656b7daa0a6d9bcceb073f471d254584b949f", func := "bulkhead/bulkheadlaw23.HealthBack", spec := "healthBack", unfollowed := true, recurses := true, apart := false, narrowed := true }
def HealthBackUptoSaid : Prop := healthBackUptoRow.holds Tryz.pinned (OpenSpec.upto healthBackSpec)

/-- 'bulkheadlaw23.HealthWalls', WHERE WHAT IT READS IS OF BULK AT MOST 1048576: true; the input reads as it did. -/
def healthWallsUptoRow : OpenClaim := { program := "ytofjbkoojimmhaagreat", sum := "9c7ce0c541ece3ec47c1fc1803d656b7daa0a6d9bcceb073f471d254584b949f", func := "bulkhead/bulkheadlaw23.HealthWalls", spec := "healthWalls", unfollowed := true, recurses := true, apart := false, narrowed := true }
def HealthWallsUptoSaid : Prop := healthWallsUptoRow.holds Tryz.pinned (OpenSpec.upto healthWallsSpec)

/-- 'bulkheadlaw23.HealthNames', WHERE WHAT IT READS IS OF BULK AT MOST 1048576: true; the input reads as it did. -/
def healthNamesUptoRow : OpenClaim := { program := "ytofjbkoojimmhaagreat", sum := "9c7ce0c541ece3ec47c1fc1803d656b7daa0a6d9bcceb073f471d254584b949f", func := "bulkhead/bulkheadlaw23.HealthNames", spec := "healthNames", unfollowed := true, recurses := true, apart := false, narrowed := true }
def HealthNamesUptoSaid : Prop := healthNamesUptoRow.holds Tryz.pinned (OpenSpec.upto healthNamesSpec)

end Rows
end Go.Proofs.YtofjbkoojimmhaaGreat
