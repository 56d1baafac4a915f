import Derived.Test.YtipejahmjdamjaaGreatDoorYd
import Derived.Test.YtipejahmjdamjaaGreatDoorIn
namespace Go.Proofs.YtipejahmjdamjaaGreatDoor
open Go.RowKit Go.Shelf
set_option linter.unusedVariables false

theorem blind_any (a : Option Addr) (cp : Nat) (root at' : Int) (xs rg : List UInt32) (pc : Nat) (v : UInt32) (w : World) (hx : SegW w a xs) (hl : xs.length ≤ maxLen) (hg : rg.length = 16) (hp : pc < 4294967296) (ha : -9223372036854775808 ≤ at' ∧ at' ≤ 9223372036854775807) (hT : Is.Tabs w) :
    Calls Tryz.prog 7 #[.slice a xs.length cp, .int .i64 root, .agg (ctx rg pc).toArray, .int .i64 at', .int .u32 (v.toNat : Int)] w fun e w' => e = .returned (.bool true) ∧ Keeps (fun _ => False) w w' := by
  by_cases hn : ∃ n, xs.length = n * 16 ∧ 1 ≤ n ∧ n ≤ 1024
  · obtain ⟨n, h1, h2, h3⟩ := hn
    by_cases hb : at' < 0 ∨ (xs.length : Int) ≤ at' ∨ root < 0 ∨ (n : Int) ≤ root ∨ at' / 16 = root
    · exact blind_out a cp n root at' xs rg pc v w hx h1 h2 h3 hT hb ha
    · simp only [not_or] at hb
      obtain ⟨b1, b2, b3, b4, b5⟩ := hb
      obtain ⟨r, rfl⟩ := Int.eq_ofNat_of_zero_le (show 0 ≤ root by omega)
      obtain ⟨q, rfl⟩ := Int.eq_ofNat_of_zero_le (show 0 ≤ at' by omega)
      exact blind_go a cp n r q xs rg pc v w hx h1 h2 h3 (by omega) (by omega) (by omega) hg hp hT
  · exact blind_no a xs.length cp root at' rg pc v w (by have : maxLen ≤ 9223372036854775807 := by decide
                                                         omega) hn hT

end Go.Proofs.YtipejahmjdamjaaGreatDoor
