import Derived.Test.YtipejahmjdamjaaDoorDh
namespace Go.Proofs.YtipejahmjdamjaaDoor
open Go.RowKit Go.Shelf
set_option linter.unusedVariables false

theorem coreNames_any (w : World) (hT : Is.Tabs w) : Calls Tryd.prog 3 #[] w fun e w' => e = .returned (.bool true) ∧ Below w.heap.size w w' := by
  have HC : Hid (Calls _ _ _ _ _) := awake_any w hT
  clear hT
  go_enter Tryd.func3, Tryd.ntmps3
  go_wp2_with fail
  refine HC.out.mono ?_
  rintro e w1 ⟨rfl, hK⟩
  have HK : Hid (Below w.heap.size w w1) := hK.below (Nat.le_refl _) fun _ h => h.elim
  clear hK HC
  go_wp2
  go_ret
  exact ⟨rfl, HK.out⟩

end Go.Proofs.YtipejahmjdamjaaDoor
