import Derived.Test.YtfbapgcopidbpaaGreatP
namespace Go.Proofs.YtfbapgcopidbpaaGreat
open Go.RowKit
set_option linter.unusedVariables false
set_option maxRecDepth 6000

/-- A memory of f frames has the word. -/
def isW (f a : Int) : Bool := decide (0 ≤ a) && decide (a / 16 < f) && decide (a / 16 < 1024)

/-- A region has the frame. -/
def Rgn.hasF (fr : Int) (r : Rgn) : Bool := decide (0 ≤ r.frame) && decide (r.frame ≤ 1024) && decide (r.frame ≤ fr) && decide (fr < r.frame + r.pages)

end Go.Proofs.YtfbapgcopidbpaaGreat
