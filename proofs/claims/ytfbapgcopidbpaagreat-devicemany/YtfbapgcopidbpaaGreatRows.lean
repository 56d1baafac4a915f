/-
  No cell of these rows narrows 'for every input' (looked for: loops, veiled, ifaces, maps, wideKeys, modest, calm, conditions, laid).
  DERIVED. THE GIVEN ROWS OF THIS SEAT. 3 by the template 'for every input the law returns true; each argument reads behind the call as it read before'; 0 by the template 'total and deterministic' (their statements: YtfbapgcopidbpaaGreatTotals.lean).
  GIVEN WITH THE SEED: the statements are not yours to turn. If you find one false, say at which input.
  Laid BY PROGRAM, IN A SANDBOX (cutbox-rows.mjs): the forced cells as the released guide's own fill.sh prints them over the translation 43cab2d93c0a7ad9… (all of the seat's roots in one cut). By AI agents, Wed Nov 11 2026. No macro, syntax, notation, axiom, sorry.
-/
import Derived.Test.YtfbapgcopidbpaaGreatChecked
import GoSem.Claim
import GoSem.ClaimJoined
import GoSem.ClaimMapViews
import Derived.JoinedTies
import Derived.KernelRfl
namespace Go.Proofs.YtfbapgcopidbpaaGreat
/- THE CELL 'sum', in the pinned program and in every row, IS THE sha256 OF THE DUMP (.gsa) THAT YtfbapgcopidbpaaGreatProg.lean LOADS. Nothing in Lean hashes anything: it is a label: what it is worth is what the hold of that sum in a sandbox is worth. -/
noncomputable def Tryz.pinned : Pinned := { name := "ytfbapgcopidbpaagreat", sum := "43cab2d93c0a7ad97c187d01f63e568a8506c353a851f8e810b82f78f3e27eff", checked := Tryz.checked }
namespace Rows
def none {H : Type} : Left H := { results := [], args := [] }

/-- 'bulkheadlaw22.DeviceNone': WHATEVER THE INPUT: true; the input reads as it did. -/
def deviceNoneSpec : ChangeSpec := { name := "deviceNone", fn := fun _ => fun
  | [] => { results := [.lit (.bool true)], args := [] }
  | _ => none }
def deviceNoneRow : OpenClaim := { program := "ytfbapgcopidbpaagreat", sum := "43cab2d93c0a7ad97c187d01f63e568a8506c353a851f8e810b82f78f3e27eff", func := "bulkhead/bulkheadlaw22.DeviceNone", spec := "deviceNone", unfollowed := true, recurses := true, plainKeys := false, apart := false }
def DeviceNoneSaid : Prop := deviceNoneRow.holds Tryz.pinned (OpenSpec.ofChange deviceNoneSpec)

/-- ITS FALSE NEIGHBOUR: 'it returns false'. Refute it at one input. -/
def deviceNoneWrong : ChangeSpec := { name := "deviceNone", fn := fun _ => fun
  | [] => { results := [.lit (.bool false)], args := [] }
  | _ => none }
def DeviceNoneWrongFalsely : Prop := deviceNoneRow.holds Tryz.pinned (OpenSpec.ofChange deviceNoneWrong)

/-- 'bulkheadlaw22.DeviceHears': WHATEVER THE INPUT: true; the input reads as it did. -/
def deviceHearsSpec : ChangeSpec := { name := "deviceHears", fn := fun _ => fun
  | [d1, d2, d3, d4] => { results := [.lit (.bool true)], args := [d1, d2, d3, d4] }
  | _ => none }
def deviceHearsRow : OpenClaim := { program := "ytfbapgcopidbpaagreat", sum := "43cab2d93c0a7ad97c187d01f63e568a8506c353a851f8e810b82f78f3e27eff", func := "bulkhead/bulkheadlaw22.DeviceHears", spec := "deviceHears", unfollowed := true, recurses := true, plainKeys := false, apart := false }
def DeviceHearsSaid : Prop := deviceHearsRow.holds Tryz.pinned (OpenSpec.ofChange deviceHearsSpec)

/-- ITS FALSE NEIGHBOUR: 'it returns false'. Refute it at one input. -/
def deviceHearsWrong : ChangeSpec := { name := "deviceHears", fn := fun _ => fun
  | [d1, d2, d3, d4] => { results := [.lit (.bool false)], args := [d1, d2, d3, d4] }
  | _ => none }
def DeviceHearsWrongFalsely : Prop := deviceHearsRow.holds Tryz.pinned (OpenSpec.ofChange deviceHearsWrong)

/-- 'bulkheadlaw22.DeviceMany': WHATEVER THE INPUT: true; the input reads as it did. -/
def deviceManySpec : ChangeSpec := { name := "deviceMany", fn := fun _ => fun
  | [d1, d2] => { results := [.lit (.bool true)], args := [d1, d2] }
  | _ => none }
def deviceManyRow : OpenClaim := { program := "ytfbapgcopidbpaagreat", sum := "43cab2d93c0a7ad97c187d01f63e568a8506c353a851f8e810b82f78f3e27eff", func := "bulkhead/bulkheadlaw22.DeviceMany", spec := "deviceMany", unfollowed := true, recurses := true, plainKeys := false, apart := false }
def DeviceManySaid : Prop := deviceManyRow.holds Tryz.pinned (OpenSpec.ofChange deviceManySpec)

/-- ITS FALSE NEIGHBOUR: 'it returns false'. Refute it at one input. -/
def deviceManyWrong : ChangeSpec := { name := "deviceMany", fn := fun _ => fun
  | [d1, d2] => { results := [.lit (.bool false)], args := [d1, d2] }
  | _ => none }
def DeviceManyWrongFalsely : Prop := deviceManyRow.holds Tryz.pinned (OpenSpec.ofChange deviceManyWrong)

/- THE SECOND FORM. 'bulk': how many values and letters a reading holds, each counted each time it is reached (what is shared counts as often as it is met; a slice's spare places count too). A statement '..UptoSaid' is the law's where the arguments, and the package variables that the reading takes, are together of bulk at most 1048576: NARROWER than '..Said'. Prove '..Said' where nothing that the law and all that it calls make is longer than what came in: it says more and counts as full. Else prove '..UptoSaid'. A law counts once. -/
mutual
def uptoBulk {H : Type} : DataW H → Nat
  | .lit (.string bytes) => bytes.length + 1
  | .lit _ => 1
  | .nil => 1
  | .ptr d => uptoBulk d + 1
  | .slice elems spare => uptoBulkAll elems + uptoBulkAll spare + 1
  | .agg parts => uptoBulkAll parts + 1
  | .iface _ d => uptoBulk d + 1
  | .map entries => uptoBulkEntries entries + 1
  | .held _ => 1
def uptoBulkAll {H : Type} : List (DataW H) → Nat
  | [] => 0
  | d :: r => uptoBulk d + uptoBulkAll r
def uptoBulkEntries {H : Type} : List (Lit × DataW H) → Nat
  | [] => 0
  | x :: r => uptoBulkEntry x + uptoBulkEntries r
def uptoBulkEntry {H : Type} : Lit × DataW H → Nat
  | (.string bytes, d) => bytes.length + uptoBulk d + 1
  | (_, d) => uptoBulk d + 1
 end
def uptoSmall : (H : Type) → List (DataW H) → Bool := fun _ ds => decide (uptoBulkAll ds ≤ 1048576)
def OpenSpec.upto (s : _root_.Go.ChangeSpec) : _root_.Go.OpenSpec := { _root_.Go.OpenSpec.ofChange s with cond := some uptoSmall }

/-- 'bulkheadlaw22.DeviceNone', WHERE WHAT IT READS IS OF BULK AT MOST 1048576: true; the input reads as it did. -/
def deviceNoneUptoRow : OpenClaim := { program := "ytfbapgcopidbpaagreat", sum := "43cab2d93c0a7ad97c187d01f63e568a8506c353a851f8e810b82f78f3e27eff", func := "bulkhead/bulkheadlaw22.DeviceNone", spec := "deviceNone", unfollowed := true, recurses := true, plainKeys := false, apart := false, narrowed := true }
def DeviceNoneUptoSaid : Prop := deviceNoneUptoRow.holds Tryz.pinned (OpenSpec.upto deviceNoneSpec)

/-- 'bulkheadlaw22.DeviceHears', WHERE WHAT IT READS IS OF BULK AT MOST 1048576: true; the input reads as it did. -/
def deviceHearsUptoRow : OpenClaim := { program := "ytfbapgcopidbpaagreat", sum := "43cab2d93c0a7ad97c187d01f63e568a8506c353a851f8e810b82f78f3e27eff", func := "bulkhead/bulkheadlaw22.DeviceHears", spec := "deviceHears", unfollowed := true, recurses := true, plainKeys := false, apart := false, narrowed := true }
def DeviceHearsUptoSaid : Prop := deviceHearsUptoRow.holds Tryz.pinned (OpenSpec.upto deviceHearsSpec)

/-- 'bulkheadlaw22.DeviceMany', WHERE WHAT IT READS IS OF BULK AT MOST 1048576: true; the input reads as it did. -/
def deviceManyUptoRow : OpenClaim := { program := "ytfbapgcopidbpaagreat", sum := "43cab2d93c0a7ad97c187d01f63e568a8506c353a851f8e810b82f78f3e27eff", func := "bulkhead/bulkheadlaw22.DeviceMany", spec := "deviceMany", unfollowed := true, recurses := true, plainKeys := false, apart := false, narrowed := true }
def DeviceManyUptoSaid : Prop := deviceManyUptoRow.holds Tryz.pinned (OpenSpec.upto deviceManySpec)

end Rows
end Go.Proofs.YtfbapgcopidbpaaGreat
