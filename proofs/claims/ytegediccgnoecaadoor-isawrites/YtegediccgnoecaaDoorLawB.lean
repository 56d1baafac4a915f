import Derived.Test.YtegediccgnoecaaDoorREncAll
namespace Go.Proofs.YtegediccgnoecaaDoor
open Go.RowKit
set_option linter.unusedVariables false

set_option maxHeartbeats 1000000 in
theorem isaWrites_any (op a b c imm : Int) (w : World) (h : Tabs w) : Calls Tryd.prog 5 #[insV op a b c imm] w fun e w' => e = .returned (.bool true) ∧ Below w.heap.size w w' := by
  have E1 := fun w h => enc_any op a b c imm w h
  have E2 := fun w => renc_any op a b c imm w
  revert E1 E2
  generalize encW op a b c imm = wd
  generalize encE op a b c imm = er
  unfold insV
  intro E1 E2
  have HE1 : Hid (∀ w h, Calls _ _ _ w _) := E1
  have HE2 : Hid (∀ w, Calls _ _ _ w _) := E2
  have HT : Hid (Tabs w) := h
  clear h E1 E2
  go_enter Tryd.func5, Tryd.ntmps5
  go_wp2_with fail
  refine (HE1.out _ (HT.out.keep (below_new w _))).mono ?_
  rintro e w1 ⟨rfl, hb⟩
  obtain ⟨hblk, hbel⟩ := boxed_kept (l := [_, _, _, _, _]) hb
  obtain ⟨g, hg⟩ : ∃ g, g = w.heap.size := ⟨_, rfl⟩
  rw [← hg] at hblk
  rw [← hg]
  have HB : Hid (_ ∧ _) := And.intro hblk hbel
  clear hb hblk hbel hg
  go_wp2_with (refine wpList_load_row rfl 30 (.tmp 1) rfl g rfl 30 _ (0, 0) _ HB.out.1 Tryd.underlying30 rfl (by kernel_rfl) ?_)
  refine (HE2.out _).mono ?_
  rintro e w2 ⟨rfl, hb⟩
  have HB2 : Hid (Below _ _ _) := below_all HB.out.2 hb
  have HT2 : Hid (Tabs _) := HT.out.keep HB2.out
  clear hb HB HT
  go_wp2_with fail
  refine (awake_any _ HT2.out).mono ?_
  rintro e w3 ⟨rfl, hb⟩
  have HB3 : Hid (Below _ _ _) := below_all HB2.out hb
  clear hb
  go_wp2
  go_ret
  exact ⟨rfl, HB3.out⟩
end Go.Proofs.YtegediccgnoecaaDoor
