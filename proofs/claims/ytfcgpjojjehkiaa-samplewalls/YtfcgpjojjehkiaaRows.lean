/-
  No cell of these rows narrows 'for every input' (looked for: loops, veiled, ifaces, maps, wideKeys, modest, calm, conditions, laid).
  DERIVED. THE GIVEN ROWS OF THIS SEAT. 5 by the template 'for every input the law returns true; each argument reads behind the call as it read before'; 0 by the template 'total and deterministic' (their statements: YtfcgpjojjehkiaaTotals.lean).
  GIVEN WITH THE SEED: the statements are not yours to turn. If you find one false, say at which input.
  Laid BY PROGRAM, IN A SANDBOX (cutbox-rows.mjs): the forced cells as the released guide's own fill.sh prints them over the translation 5e8cf56be39ab072… (all of the seat's roots in one cut). By AI agents, Wed Nov 11 2026. No macro, syntax, notation, axiom, sorry.
-/
import Derived.Test.YtfcgpjojjehkiaaChecked
import GoSem.Claim
import GoSem.ClaimJoined
import GoSem.ClaimMapViews
import Derived.JoinedTies
import Derived.KernelRfl
namespace Go.Proofs.Ytfcgpjojjehkiaa
/- THE CELL 'sum', in the pinned program and in every row, IS THE sha256 OF THE DUMP (.gsa) THAT YtfcgpjojjehkiaaProg.lean LOADS. Nothing in Lean hashes anything: it is a label: what it is worth is what the hold of that sum in a sandbox is worth. -/
noncomputable def Try.pinned : Pinned := { name := "ytfcgpjojjehkiaa", sum := "5e8cf56be39ab072f53633c2639611b7271f5989858c9567231594037eb9a9ee", checked := Try.checked }
namespace Rows
def none {H : Type} : Left H := { results := [], args := [] }

/-- 'bulkheadlaw19.SampleRuns': WHATEVER THE INPUT: true; the input reads as it did. -/
def sampleRunsSpec : ChangeSpec := { name := "sampleRuns", fn := fun _ => fun
  | [d1, d2] => { results := [.lit (.bool true)], args := [d1, d2] }
  | _ => none }
def sampleRunsRow : OpenClaim := { program := "ytfcgpjojjehkiaa", sum := "5e8cf56be39ab072f53633c2639611b7271f5989858c9567231594037eb9a9ee", func := "bulkhead/bulkheadlaw19.SampleRuns", spec := "sampleRuns", unfollowed := true, recurses := true, apart := false }
def SampleRunsSaid : Prop := sampleRunsRow.holds Try.pinned (OpenSpec.ofChange sampleRunsSpec)

/-- ITS FALSE NEIGHBOUR: 'it returns false'. Refute it at one input. -/
def sampleRunsWrong : ChangeSpec := { name := "sampleRuns", fn := fun _ => fun
  | [d1, d2] => { results := [.lit (.bool false)], args := [d1, d2] }
  | _ => none }
def SampleRunsWrongFalsely : Prop := sampleRunsRow.holds Try.pinned (OpenSpec.ofChange sampleRunsWrong)

/-- 'bulkheadlaw19.SampleLast': WHATEVER THE INPUT: true; the input reads as it did. -/
def sampleLastSpec : ChangeSpec := { name := "sampleLast", fn := fun _ => fun
  | [d1, d2, d3] => { results := [.lit (.bool true)], args := [d1, d2, d3] }
  | _ => none }
def sampleLastRow : OpenClaim := { program := "ytfcgpjojjehkiaa", sum := "5e8cf56be39ab072f53633c2639611b7271f5989858c9567231594037eb9a9ee", func := "bulkhead/bulkheadlaw19.SampleLast", spec := "sampleLast", unfollowed := true, recurses := true, apart := false }
def SampleLastSaid : Prop := sampleLastRow.holds Try.pinned (OpenSpec.ofChange sampleLastSpec)

/-- ITS FALSE NEIGHBOUR: 'it returns false'. Refute it at one input. -/
def sampleLastWrong : ChangeSpec := { name := "sampleLast", fn := fun _ => fun
  | [d1, d2, d3] => { results := [.lit (.bool false)], args := [d1, d2, d3] }
  | _ => none }
def SampleLastWrongFalsely : Prop := sampleLastRow.holds Try.pinned (OpenSpec.ofChange sampleLastWrong)

/-- 'bulkheadlaw19.SampleWalls': WHATEVER THE INPUT: true; the input reads as it did. -/
def sampleWallsSpec : ChangeSpec := { name := "sampleWalls", fn := fun _ => fun
  | [d1, d2] => { results := [.lit (.bool true)], args := [d1, d2] }
  | _ => none }
def sampleWallsRow : OpenClaim := { program := "ytfcgpjojjehkiaa", sum := "5e8cf56be39ab072f53633c2639611b7271f5989858c9567231594037eb9a9ee", func := "bulkhead/bulkheadlaw19.SampleWalls", spec := "sampleWalls", unfollowed := true, recurses := true, apart := false }
def SampleWallsSaid : Prop := sampleWallsRow.holds Try.pinned (OpenSpec.ofChange sampleWallsSpec)

/-- ITS FALSE NEIGHBOUR: 'it returns false'. Refute it at one input. -/
def sampleWallsWrong : ChangeSpec := { name := "sampleWalls", fn := fun _ => fun
  | [d1, d2] => { results := [.lit (.bool false)], args := [d1, d2] }
  | _ => none }
def SampleWallsWrongFalsely : Prop := sampleWallsRow.holds Try.pinned (OpenSpec.ofChange sampleWallsWrong)

/-- 'bulkheadlaw19.SampleKeeps': WHATEVER THE INPUT: true; the input reads as it did. -/
def sampleKeepsSpec : ChangeSpec := { name := "sampleKeeps", fn := fun _ => fun
  | [d1, d2] => { results := [.lit (.bool true)], args := [d1, d2] }
  | _ => none }
def sampleKeepsRow : OpenClaim := { program := "ytfcgpjojjehkiaa", sum := "5e8cf56be39ab072f53633c2639611b7271f5989858c9567231594037eb9a9ee", func := "bulkhead/bulkheadlaw19.SampleKeeps", spec := "sampleKeeps", unfollowed := true, recurses := true, apart := false }
def SampleKeepsSaid : Prop := sampleKeepsRow.holds Try.pinned (OpenSpec.ofChange sampleKeepsSpec)

/-- ITS FALSE NEIGHBOUR: 'it returns false'. Refute it at one input. -/
def sampleKeepsWrong : ChangeSpec := { name := "sampleKeeps", fn := fun _ => fun
  | [d1, d2] => { results := [.lit (.bool false)], args := [d1, d2] }
  | _ => none }
def SampleKeepsWrongFalsely : Prop := sampleKeepsRow.holds Try.pinned (OpenSpec.ofChange sampleKeepsWrong)

/-- 'bulkheadlaw19.SampleNames': WHATEVER THE INPUT: true; the input reads as it did. -/
def sampleNamesSpec : ChangeSpec := { name := "sampleNames", fn := fun _ => fun
  | [] => { results := [.lit (.bool true)], args := [] }
  | _ => none }
def sampleNamesRow : OpenClaim := { program := "ytfcgpjojjehkiaa", sum := "5e8cf56be39ab072f53633c2639611b7271f5989858c9567231594037eb9a9ee", func := "bulkhead/bulkheadlaw19.SampleNames", spec := "sampleNames", apart := false }
def SampleNamesSaid : Prop := sampleNamesRow.holds Try.pinned (OpenSpec.ofChange sampleNamesSpec)

/-- ITS FALSE NEIGHBOUR: 'it returns false'. Refute it at one input. -/
def sampleNamesWrong : ChangeSpec := { name := "sampleNames", fn := fun _ => fun
  | [] => { results := [.lit (.bool false)], args := [] }
  | _ => none }
def SampleNamesWrongFalsely : Prop := sampleNamesRow.holds Try.pinned (OpenSpec.ofChange sampleNamesWrong)

/- THE SECOND FORM. 'bulk': how many values and letters a reading holds, each counted each time it is reached (what is shared counts as often as it is met; a slice's spare places count too). A statement '..UptoSaid' is the law's where the arguments, and the package variables that the reading takes, are together of bulk at most 1048576: NARROWER than '..Said'. Prove '..Said' where nothing that the law and all that it calls make is longer than what came in: it says more and counts as full. Else prove '..UptoSaid'. A law counts once. -/
mutual
def uptoBulk {H : Type} : DataW H → Nat
  | .lit (.string bytes) => bytes.length + 1
  | .lit _ => 1
  | .nil => 1
  | .ptr d => uptoBulk d + 1
  | .slice elems spare => uptoBulkAll elems + uptoBulkAll spare + 1
  | .agg parts => uptoBulkAll parts + 1
  | .iface _ d => uptoBulk d + 1
  | .map entries => uptoBulkEntries entries + 1
  | .held _ => 1
def uptoBulkAll {H : Type} : List (DataW H) → Nat
  | [] => 0
  | d :: r => uptoBulk d + uptoBulkAll r
def uptoBulkEntries {H : Type} : List (Lit × DataW H) → Nat
  | [] => 0
  | x :: r => uptoBulkEntry x + uptoBulkEntries r
def uptoBulkEntry {H : Type} : Lit × DataW H → Nat
  | (.string bytes, d) => bytes.length + uptoBulk d + 1
  | (_, d) => uptoBulk d + 1
 end
def uptoSmall : (H : Type) → List (DataW H) → Bool := fun _ ds => decide (uptoBulkAll ds ≤ 1048576)
def OpenSpec.upto (s : _root_.Go.ChangeSpec) : _root_.Go.OpenSpec := { _root_.Go.OpenSpec.ofChange s with cond := some uptoSmall }

/-- 'bulkheadlaw19.SampleRuns', WHERE WHAT IT READS IS OF BULK AT MOST 1048576: true; the input reads as it did. -/
def sampleRunsUptoRow : OpenClaim := { program := "ytfcgpjojjehkiaa", sum := "5e8cf56be39ab072f53633c2639611b7271f5989858c9567231594037eb9a9ee", func := "bulkhead/bulkheadlaw19.SampleRuns", spec := "sampleRuns", unfollowed := true, recurses := true, apart := false, narrowed := true }
def SampleRunsUptoSaid : Prop := sampleRunsUptoRow.holds Try.pinned (OpenSpec.upto sampleRunsSpec)

/-- 'bulkheadlaw19.SampleLast', WHERE WHAT IT READS IS OF BULK AT MOST 1048576: true; the input reads as it did. -/
def sampleLastUptoRow : OpenClaim := { program := "ytfcgpjojjehkiaa", sum := "5e8cf56be39ab072f53633c2639611b7271f5989858c9567231594037eb9a9ee", func := "bulkhead/bulkheadlaw19.SampleLast", spec := "sampleLast", unfollowed := true, recurses := true, apart := false, narrowed := true }
def SampleLastUptoSaid : Prop := sampleLastUptoRow.holds Try.pinned (OpenSpec.upto sampleLastSpec)

/-- 'bulkheadlaw19.SampleWalls', WHERE WHAT IT READS IS OF BULK AT MOST 1048576: true; the input reads as it did. -/
def sampleWallsUptoRow : OpenClaim := { program := "ytfcgpjojjehkiaa", sum := "5e8cf56be39ab072f53633c2639611b7271f5989858c9567231594037eb9a9ee", func := "bulkhead/bulkheadlaw19.SampleWalls", spec := "sampleWalls", unfollowed := true, recurses := true, apart := false, narrowed := true }
def SampleWallsUptoSaid : Prop := sampleWallsUptoRow.holds Try.pinned (OpenSpec.upto sampleWallsSpec)

/-- 'bulkheadlaw19.SampleKeeps', WHERE WHAT IT READS IS OF BULK AT MOST 1048576: true; the input reads as it did. -/
def sampleKeepsUptoRow : OpenClaim := { program := "ytfcgpjojjehkiaa", sum := "5e8cf56be39ab072f53633c2639611b7271f5989858c9567231594037eb9a9ee", func := "bulkhead/bulkheadlaw19.SampleKeeps", spec := "sampleKeeps", unfollowed := true, recurses := true, apart := false, narrowed := true }
def SampleKeepsUptoSaid : Prop := sampleKeepsUptoRow.holds Try.pinned (OpenSpec.upto sampleKeepsSpec)

/-- 'bulkheadlaw19.SampleNames', WHERE WHAT IT READS IS OF BULK AT MOST 1048576: true; the input reads as it did. -/
def sampleNamesUptoRow : OpenClaim := { program := "ytfcgpjojjehkiaa", sum := "5e8cf56be39ab072f53633c2639611b7271f5989858c9567231594037eb9a9ee", func := "bulkhead/bulkheadlaw19.SampleNames", spec := "sampleNames", apart := false, narrowed := true }
def SampleNamesUptoSaid : Prop := sampleNamesUptoRow.holds Try.pinned (OpenSpec.upto sampleNamesSpec)

end Rows
end Go.Proofs.Ytfcgpjojjehkiaa
