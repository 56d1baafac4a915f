import Derived.Test.YtfbapgcopidbpaaGreatVy
import Derived.Test.YtfbapgcopidbpaaGreatOy
namespace Go.Proofs.YtfbapgcopidbpaaGreat
open Go.RowKit
theorem deviceMany_any (x : Cfg) (m : Int) (w : World) (N : Nat) (hi : x.In w N) (hN : N ≤ w.heap.size) : Calls Tryz.prog 5 #[x.v, .int .i64 m] w fun e w' => e = .returned (.bool true) ∧ Keeps (fun _ => False) w w' := deviceMany_of rOf_any x m w N hi hN
end Go.Proofs.YtfbapgcopidbpaaGreat
