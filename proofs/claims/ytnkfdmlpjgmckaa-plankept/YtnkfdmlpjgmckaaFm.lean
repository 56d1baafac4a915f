import Derived.Test.YtnkfdmlpjgmckaaTy
import Derived.Laws.FloatArith
namespace Go.Proofs.Ytnkfdmlpjgmckaa
open Go.RowKit
set_option linter.unusedVariables false
set_option maxRecDepth 6000

def okDatum (d : Ieee.Datum) : Bool := match d with
  | .number _ n _ => n != 0
  | _ => false
theorem majors : (List.range 16384).all (fun n => okDatum (Ieee.double.read (floatOfInt .f64 ((n + 1 : Nat) : Int)))) = true := by decide +kernel
end Go.Proofs.Ytnkfdmlpjgmckaa
