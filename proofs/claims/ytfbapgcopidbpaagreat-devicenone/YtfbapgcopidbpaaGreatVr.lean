import Derived.Test.YtfbapgcopidbpaaGreatVq
import Derived.Test.YtfbapgcopidbpaaGreatOy
namespace Go.Proofs.YtfbapgcopidbpaaGreat
open Go.RowKit
theorem deviceNone_any (w : World) : Calls Tryz.prog 3 #[] w fun e w' => e = .returned (.bool true) ∧ Keeps (fun _ => False) w w' := deviceNone_of rOf_any w
end Go.Proofs.YtfbapgcopidbpaaGreat
