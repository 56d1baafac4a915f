import Derived.Test.YtipejahmjdamjaaGreatDoorYa
namespace Go.Proofs.YtipejahmjdamjaaGreatDoor
open Go.RowKit Go.Shelf
set_option linter.unusedVariables false
set_option maxRecDepth 6000

/-- Words that are no memory. -/
theorem blind_no (a : Option Addr) (L cp : Nat) (root at' : Int) (rg : List UInt32) (pc : Nat) (v : UInt32) (w : World) (hL : L ≤ 9223372036854775807) (hn : ¬ ∃ n, L = n * 16 ∧ 1 ≤ n ∧ n ≤ 1024) (hT : Is.Tabs w) :
    Calls Tryz.prog 7 #[.slice a L cp, .int .i64 root, .agg (ctx rg pc).toArray, .int .i64 at', .int .u32 (v.toNat : Int)] w fun e w' => e = .returned (.bool true) ∧ Keeps (fun _ => False) w w' := by
  obtain ⟨W, hW⟩ : ∃ W, W = w.alloc (.cells (ctx rg pc).toArray 40) := ⟨_, rfl⟩
  have hK0 : Keeps (fun _ => False) w W := by rw [hW]; exact (Keeps.refl _ w).alloc _
  have H1 : Hid (Calls _ _ _ _ _) := of_no a L cp W hL hn
  have H2 : Hid (Calls _ _ _ _ _) := awake_any W (tabs_kept hT hK0 fun _ h => h.elim)
  have HW : Hid (W = w.alloc (.cells (ctx rg pc).toArray 40)) := hW
  have H0 : Hid (Keeps (fun _ => False) w W) := hK0
  clear hW hK0 hL hn hT
  go_enter Tryz.func7, Tryz.ntmps7
  go_upto_region 1 with fail
  rw [← HW.out]
  go_wp2_with fail
  refine H1.out.mono ?_
  rintro e W' ⟨k, rfl, hk, hw⟩
  obtain rfl := hw.symm
  have g1 : ((k : Int) != 0) = true := by simp; omega
  clear hw hk
  go_wp2_with fail
  refine H2.out.mono ?_
  rintro e w2 ⟨rfl, hK2⟩
  have HE : Hid (Keeps (fun _ => False) w w2) := H0.out.trans hK2 fun _ _ h => h
  clear hK2 H2
  go_wp2
  go_ret
  exact ⟨rfl, HE.out⟩

end Go.Proofs.YtipejahmjdamjaaGreatDoor
