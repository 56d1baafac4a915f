import Derived.Test.YtofjbkoojimmhaaGreatHy
import Derived.Test.YtofjbkoojimmhaaGreatOy
namespace Go.Proofs.YtofjbkoojimmhaaGreat
open Go.RowKit
theorem hBack_any (x : Cfg) (p : Int) (a : Option Addr) (cp : Nat) (ops : List Opr) (w : World) (N : Nat) (hi : x.In w N) (hN : N ≤ w.heap.size) (hs : OpsIn w N a cp ops) :
  Calls Tryz.prog 4 #[x.v, .int .i64 p, .slice a ops.length cp] w fun e w' => e = .returned (.bool true) ∧ Keeps (fun _ => False) w w' := back_of rOf_any x p a cp ops w N hi hN hs
end Go.Proofs.YtofjbkoojimmhaaGreat
