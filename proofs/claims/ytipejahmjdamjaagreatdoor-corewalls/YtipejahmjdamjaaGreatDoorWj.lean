import Derived.Test.YtipejahmjdamjaaGreatDoorWf
import Derived.Test.YtipejahmjdamjaaGreatDoorWh
import Derived.Test.YtipejahmjdamjaaGreatDoorIn
namespace Go.Proofs.YtipejahmjdamjaaGreatDoor
open Go.RowKit Go.Shelf
set_option linter.unusedVariables false

theorem coreWalls_any (a : Option Addr) (cp : Nat) (root : Int) (clock : Nat) (xs rg : List UInt32) (pc : Nat) (w : World) (hx : SegW w a xs) (hl : xs.length ≤ maxLen) (hg : rg.length = 16) (hp : pc < 4294967296) (hk : clock < 4294967296) (hT : Is.Tabs w) :
    Calls Tryz.prog 6 #[.slice a xs.length cp, .int .i64 root, .agg (ctx rg pc).toArray, .int .u32 clock] w fun e w' => e = .returned (.bool true) ∧ Keeps (fun _ => False) w w' := by
  by_cases hn : ∃ n, xs.length = n * 16 ∧ 1 ≤ n ∧ n ≤ 1024
  · obtain ⟨n, h1, h2, h3⟩ := hn
    by_cases hr : 0 ≤ root ∧ root < n
    · obtain ⟨k, rfl⟩ := Int.eq_ofNat_of_zero_le hr.1
      exact walls_go a cp n k clock xs rg pc w hx h1 h2 h3 (by omega) hg hp hk hT
    · match rg, hg with
      | [r0, r1, r2, r3, r4, r5, r6, r7, r8, r9, r10, r11, r12, r13, r14, r15], hg =>
        by_cases h0 : root < 0
        · exact walls_under a cp n root clock xs r0 r1 r2 r3 r4 r5 r6 r7 r8 r9 r10 r11 r12 r13 r14 r15 _ rfl pc w hx h1 h2 h3 hr h0 hg hp hT
        · exact walls_above a cp n root clock xs r0 r1 r2 r3 r4 r5 r6 r7 r8 r9 r10 r11 r12 r13 r14 r15 _ rfl pc w hx h1 h2 h3 hr h0 hg hp hT
  · exact walls_no a xs.length cp root rg pc clock w (by have : maxLen ≤ 9223372036854775807 := by decide
                                                         omega) hn hT

end Go.Proofs.YtipejahmjdamjaaGreatDoor
