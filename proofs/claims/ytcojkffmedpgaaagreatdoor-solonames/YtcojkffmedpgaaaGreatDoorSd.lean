import Derived.Test.YtcojkffmedpgaaaGreatDoorRows
import Derived.KernelRfl
import Derived.JoinedOf
namespace Go.Proofs.YtcojkffmedpgaaaGreatDoor.soloNames
set_option maxRecDepth 100000
theorem f_laid : laidOutB Tryz.pinned.checked.prog = true := by kernel_rfl
theorem f_maps : mapsRowed Tryz.pinned.checked.prog = true := by kernel_rfl
theorem f_tie : namedTie Tryz.pinned.checked.prog Rows.soloNamesRow.named (OpenSpec.ofChange Rows.soloNamesSpec).bare.vars = true := by kernel_rfl
theorem f_place : (Rows.soloNamesRow.inPlace == Tryz.pinned.checked.prog.inPlace 3) = true := by kernel_rfl
theorem f_unf : (Rows.soloNamesRow.unfollowed == Tryz.pinned.checked.prog.unfollowed 3) = true := by kernel_rfl
theorem f_rec : (Rows.soloNamesRow.recurses == Tryz.pinned.checked.prog.recurses 3) = true := by kernel_rfl
theorem f_named : (Rows.soloNamesRow.named == Tryz.pinned.checked.prog.varsNamed 3) = true := by kernel_rfl
theorem closed : joinedFacts Tryz.pinned.checked.prog 3 Tryz.f3 (OpenSpec.ofChange Rows.soloNamesSpec).bare Rows.soloNamesRow = true := by
  unfold joinedFacts
  rw [f_laid, f_maps, f_tie, f_place, f_unf, f_rec, f_named]
  kernel_rfl
end Go.Proofs.YtcojkffmedpgaaaGreatDoor.soloNames
