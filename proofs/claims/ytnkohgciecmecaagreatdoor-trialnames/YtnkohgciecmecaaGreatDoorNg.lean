import Derived.Test.YtnkohgciecmecaaGreatDoorRows
import Derived.Test.YtnkohgciecmecaaGreatDoorCards
import Derived.KernelRfl
namespace Go.Proofs.YtnkohgciecmecaaGreatDoor.trialNames
set_option maxRecDepth 100000
theorem c_wf : Rows.trialNamesRow.wfByText (OpenSpec.ofChange Rows.trialNamesSpec) = true := by kernel_rfl
end Go.Proofs.YtnkohgciecmecaaGreatDoor.trialNames
