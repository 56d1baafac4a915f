import Derived.Test.YtipejahmjdamjaaGreatDoorZd
import Derived.Test.YtipejahmjdamjaaGreatDoorIn
namespace Go.Proofs.YtipejahmjdamjaaGreatDoor
open Go.RowKit Go.Shelf
set_option linter.unusedVariables false
set_option maxRecDepth 6000

/-- Words that are no memory. -/
theorem costs_no (a : Option Addr) (L cp : Nat) (root : Int) (rg : List UInt32) (pc ah bh : Nat) (w : World) (hL : L ≤ 9223372036854775807) (hn : ¬ ∃ n, L = n * 16 ∧ 1 ≤ n ∧ n ≤ 1024) (hT : Is.Tabs w) :
    Calls Tryz.prog 5 #[.slice a L cp, .int .i64 root, .agg (ctx rg pc).toArray, .int .u8 ah, .int .u8 bh] w fun e w' => e = .returned (.bool true) ∧ Keeps (fun _ => False) w w' := by
  obtain ⟨W, hW⟩ : ∃ W, W = w.alloc (.cells (ctx rg pc).toArray 40) := ⟨_, rfl⟩
  have hK0 : Keeps (fun _ => False) w W := by rw [hW]; exact (Keeps.refl _ w).alloc _
  have H1 : Hid (Calls _ _ _ _ _) := of_no a L cp W hL hn
  have H2 : Hid (Calls _ _ _ _ _) := awake_any W (tabs_kept hT hK0 fun _ h => h.elim)
  have HW : Hid (W = w.alloc (.cells (ctx rg pc).toArray 40)) := hW
  have H0 : Hid (Keeps (fun _ => False) w W) := hK0
  clear hW hK0 hL hn hT
  go_enter Tryz.func5, Tryz.ntmps5
  go_upto_region 1 with fail
  rw [← HW.out]
  go_wp2_with fail
  refine H1.out.mono ?_
  rintro e W' ⟨k, rfl, hk, hw⟩
  obtain rfl := hw.symm
  have g1 : ((k : Int) != 0) = true := by simp; omega
  clear hw hk
  go_wp2_with fail
  refine H2.out.mono ?_
  rintro e w2 ⟨rfl, hK2⟩
  have HE : Hid (Keeps (fun _ => False) w w2) := H0.out.trans hK2 fun _ _ h => h
  clear hK2 H2
  go_wp2
  go_ret
  exact ⟨rfl, HE.out⟩

theorem costs_any (a : Option Addr) (cp : Nat) (root : Int) (xs rg : List UInt32) (pc ah bh : Nat) (w : World) (hx : SegW w a xs) (hl : xs.length ≤ maxLen) (hg : rg.length = 16) (hp : pc < 4294967296) (hA : ah < 256) (hB : bh < 256) (hT : Is.Tabs w) :
    Calls Tryz.prog 5 #[.slice a xs.length cp, .int .i64 root, .agg (ctx rg pc).toArray, .int .u8 ah, .int .u8 bh] w fun e w' => e = .returned (.bool true) ∧ Keeps (fun _ => False) w w' := by
  by_cases hn : ∃ n, xs.length = n * 16 ∧ 1 ≤ n ∧ n ≤ 1024
  · obtain ⟨n, h1, h2, h3⟩ := hn
    exact costs_go a cp n root ah bh xs rg pc w hx h1 h2 h3 hg hp hA hB hT
  · exact costs_no a xs.length cp root rg pc ah bh w (by have : maxLen ≤ 9223372036854775807 := by decide
                                                         omega) hn hT

end Go.Proofs.YtipejahmjdamjaaGreatDoor
