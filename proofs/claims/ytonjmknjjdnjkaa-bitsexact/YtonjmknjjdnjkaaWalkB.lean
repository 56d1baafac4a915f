import Derived.Test.YtonjmknjjdnjkaaProg
import Derived.Test.YtonjmknjjdnjkaaMath
import Derived.WalkKit
import Derived.WalkSpells
import Derived.WalkLawsBesides
import Derived.Deep.QuietTactic
import Derived.BigQuiet
namespace Go.Proofs.Ytonjmknjjdnjkaa
open Go.RowKit

set_option maxHeartbeats 400000 in
theorem size_any (b : Nat) (a : Option Addr) (n c : Nat) (w : World) (hc : w.cell? ⟨b, 0, none⟩ = some (.slice a n c)) (_hn : n ≤ maxLen) :
    Calls Try.prog 71 #[.pointer (some ⟨b, 0, none⟩)] w fun e w' => e = .returned (.int .i64 n) ∧ w' = w := by
  unfold maxLen at _hn
  go_enter Try.func71, Try.ntmps71
  go_wp2
  go_ret
  exact ⟨rfl, rfl⟩

set_option maxHeartbeats 400000 in
theorem at_any (b : Nat) (p : Nat) (w : World) (hc : w.cell? ⟨b, 1, none⟩ = some (.int .i64 p)) :
    Calls Try.prog 72 #[.pointer (some ⟨b, 0, none⟩)] w fun e w' => e = .returned (.int .i64 p) ∧ w' = w := by
  go_enter Try.func72, Try.ntmps72
  go_wp2
  go_ret
  exact ⟨rfl, rfl⟩

set_option maxHeartbeats 400000 in
theorem left_any (b : Nat) (a : Option Addr) (n c p : Nat) (w : World) (hc : w.cell? ⟨b, 0, none⟩ = some (.slice a n c)) (hp : w.cell? ⟨b, 1, none⟩ = some (.int .i64 p)) (hn : n ≤ maxLen) (hpn : p ≤ n) :
    Calls Try.prog 73 #[.pointer (some ⟨b, 0, none⟩)] w fun e w' => e = .returned (.int .i64 ((n : Int) - p)) ∧ w' = w := by
  have hn' := hn
  unfold maxLen at hn'
  go_enter Try.func73, Try.ntmps73
  go_wp2_with (first | (go_at_call 71; refine (size_any b a n c _ hc hn).mono ?_; rintro e w' ⟨rfl, rfl⟩) | (go_at_call 72; refine (at_any b p _ hp).mono ?_; rintro e w' ⟨rfl, rfl⟩))
  go_ret
  exact ⟨rfl, rfl⟩

set_option maxHeartbeats 400000 in
theorem refuse_any (b : Nat) (p er q : Int) (u : Value) (w : World) (hc : w.cell? ⟨b, 1, none⟩ = some (.int .i64 q)) (hd : w.cell? ⟨b, 2, none⟩ = some u) (hf : w.frozen? ⟨b, 1, none⟩ = false) (hg : w.frozen? ⟨b, 2, none⟩ = false) :
    Calls Try.prog 74 #[.pointer (some ⟨b, 0, none⟩), .int .i64 p, .int .i64 er] w fun e w' => e = .returned (.tuple #[]) ∧ w' = (w.setCell ⟨b, 1, none⟩ (.int .i64 p)).setCell ⟨b, 2, none⟩ (.int .i64 er) := by
  go_enter Try.func74, Try.ntmps74
  go_wp2
  go_end0
  exact ⟨rfl, rfl⟩

set_option maxHeartbeats 400000 in
theorem next_any (b g o n c p k : Nat) (w : World) (hc : w.cell? ⟨b, 0, none⟩ = some (.slice (some ⟨g, o, none⟩) n c)) (hp : w.cell? ⟨b, 1, none⟩ = some (.int .i64 p)) (hf : w.frozen? ⟨b, 1, none⟩ = false)
    (hn : p + k ≤ n) (hnc : n ≤ c) (hcm : c ≤ maxLen) :
    Calls Try.prog 75 #[.pointer (some ⟨b, 0, none⟩), .int .i64 k] w fun e w' => (∃ x, e = .returned (.slice (some ⟨g, x, none⟩) k (c - p)) ∧ (x = o + p ∨ (k = 0 ∧ x = o))) ∧ ∃ j, w' = (w.setCell ⟨b, 1, none⟩ (.int .i64 ((p : Int) + (k : Int)))).drewN j := by
  unfold maxLen at hcm
  by_cases hcp : c = p
  · obtain rfl : k = 0 := by omega
    obtain rfl : n = c := by omega
    subst hcp
    go_enter Try.func75, Try.ntmps75
    go_wp2
    go_quiet (fail)
    go_wp2
    go_ret
    exact ⟨⟨o, by simp, by simp⟩, _, rfl⟩
  · go_enter Try.func75, Try.ntmps75
    go_wp2
    go_quiet (fail)
    go_wp2
    go_ret
    exact ⟨⟨o + p, by simp, .inl rfl⟩, _, rfl⟩

end Go.Proofs.Ytonjmknjjdnjkaa
