import Derived.Test.YtnkohgciecmecaaGreatDoorRows
import Derived.Test.YtnkohgciecmecaaGreatDoorCards
import Derived.KernelRfl
namespace Go.Proofs.YtnkohgciecmecaaGreatDoor.trialNames
set_option maxRecDepth 100000
theorem c_main : Tryz.pinned.checked.prog.mainIs = some (Rows.trialNamesCard.stood.harness.1, Rows.trialNamesCard.stood.harness.2.toList) := by kernel_rfl
end Go.Proofs.YtnkohgciecmecaaGreatDoor.trialNames
