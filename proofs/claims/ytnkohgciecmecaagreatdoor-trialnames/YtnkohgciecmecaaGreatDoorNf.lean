import Derived.Test.YtnkohgciecmecaaGreatDoorRows
import Derived.KernelRfl
import Derived.JoinedOf
namespace Go.Proofs.YtnkohgciecmecaaGreatDoor.trialNames
set_option maxRecDepth 100000
theorem f_laid : laidOutB Tryz.pinned.checked.prog = true := by kernel_rfl
theorem f_maps : mapsRowed Tryz.pinned.checked.prog = true := by kernel_rfl
theorem f_tie : namedTie Tryz.pinned.checked.prog Rows.trialNamesRow.named (OpenSpec.ofChange Rows.trialNamesSpec).bare.vars = true := by kernel_rfl
theorem f_place : (Rows.trialNamesRow.inPlace == Tryz.pinned.checked.prog.inPlace 3) = true := by kernel_rfl
theorem f_unf : (Rows.trialNamesRow.unfollowed == Tryz.pinned.checked.prog.unfollowed 3) = true := by kernel_rfl
theorem f_rec : (Rows.trialNamesRow.recurses == Tryz.pinned.checked.prog.recurses 3) = true := by kernel_rfl
theorem f_named : (Rows.trialNamesRow.named == Tryz.pinned.checked.prog.varsNamed 3) = true := by kernel_rfl
theorem closed : joinedFacts Tryz.pinned.checked.prog 3 Tryz.f3 (OpenSpec.ofChange Rows.trialNamesSpec).bare Rows.trialNamesRow = true := by
  unfold joinedFacts
  rw [f_laid, f_maps, f_tie, f_place, f_unf, f_rec, f_named]
  kernel_rfl
end Go.Proofs.YtnkohgciecmecaaGreatDoor.trialNames
