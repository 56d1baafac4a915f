import Derived.Test.YtmkeccibminnhabProg
import Derived.Test.YtmkeccibminnhabMath
import Derived.WalkKit
import Derived.WalkSpells
import Derived.WalkLawsBesides
import Derived.Deep.QuietTactic
import Derived.BigQuiet
namespace Go.Proofs.Ytmkeccibminnhab
open Go.RowKit

set_option maxHeartbeats 400000 in
theorem size_any (b : Nat) (a : Option Addr) (n c : Nat) (w : World) (hc : w.cell? ⟨b, 0, none⟩ = some (.slice a n c)) (_hn : n ≤ maxLen) :
    Calls Try.prog 21 #[.pointer (some ⟨b, 0, none⟩)] w fun e w' => e = .returned (.int .i64 n) ∧ w' = w := by
  unfold maxLen at _hn
  go_enter Try.func21, Try.ntmps21
  go_wp2
  go_ret
  exact ⟨rfl, rfl⟩

set_option maxHeartbeats 400000 in
theorem next_any (b g o n c p k : Nat) (w : World) (hc : w.cell? ⟨b, 0, none⟩ = some (.slice (some ⟨g, o, none⟩) n c)) (hp : w.cell? ⟨b, 1, none⟩ = some (.int .i64 p)) (hf : w.frozen? ⟨b, 1, none⟩ = false)
    (hn : p + k ≤ n) (hnc : n ≤ c) (hcm : c ≤ maxLen) :
    Calls Try.prog 33 #[.pointer (some ⟨b, 0, none⟩), .int .i64 k] w fun e w' => (∃ x, e = .returned (.slice (some ⟨g, x, none⟩) k (c - p)) ∧ (x = o + p ∨ (k = 0 ∧ x = o))) ∧ ∃ j, w' = (w.setCell ⟨b, 1, none⟩ (.int .i64 ((p : Int) + (k : Int)))).drewN j := by
  unfold maxLen at hcm
  by_cases hcp : c = p
  · obtain rfl : k = 0 := by omega
    obtain rfl : n = c := by omega
    subst hcp
    go_enter Try.func33, Try.ntmps33
    go_wp2
    go_quiet (fail)
    go_wp2
    go_ret
    exact ⟨⟨o, by simp, by simp⟩, _, rfl⟩
  · go_enter Try.func33, Try.ntmps33
    go_wp2
    go_quiet (fail)
    go_wp2
    go_ret
    exact ⟨⟨o + p, by simp, .inl rfl⟩, _, rfl⟩

end Go.Proofs.Ytmkeccibminnhab
