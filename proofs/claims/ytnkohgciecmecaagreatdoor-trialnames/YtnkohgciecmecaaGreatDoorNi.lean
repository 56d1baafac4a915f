import Derived.Test.YtnkohgciecmecaaGreatDoorRows
import Derived.Test.YtnkohgciecmecaaGreatDoorCards
import Derived.KernelRfl
namespace Go.Proofs.YtnkohgciecmecaaGreatDoor.trialNames
set_option maxRecDepth 100000
theorem c_goes : true = Rows.trialNamesRow.goesBy Tryz.pinned.checked.prog := by kernel_rfl
end Go.Proofs.YtnkohgciecmecaaGreatDoor.trialNames
