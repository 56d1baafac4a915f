import Derived.Test.YtofjbkoojimmhaaGreatHz
import Derived.Test.YtofjbkoojimmhaaGreatOy
namespace Go.Proofs.YtofjbkoojimmhaaGreat
open Go.RowKit
theorem hWalls_any (x : Cfg) (p : Int) (o : Opr) (w : World) (N : Nat) (hi : x.In w N) (hN : N ≤ w.heap.size) (hx : o.x.length = 17) :
  Calls Tryz.prog 5 #[x.v, .int .i64 p, o.v] w fun e w' => e = .returned (.bool true) ∧ Keeps (fun _ => False) w w' := walls_of rOf_any x p o w N hi hN hx
end Go.Proofs.YtofjbkoojimmhaaGreat
