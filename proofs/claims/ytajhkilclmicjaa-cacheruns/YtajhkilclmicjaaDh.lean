import Derived.Test.YtajhkilclmicjaaDg
import Derived.Test.YtajhkilclmicjaaRs
namespace Go.Proofs.Ytajhkilclmicjaa
open Go.RowKit Go.Shelf
set_option linter.unusedVariables false
set_option linter.unusedSimpArgs false
set_option maxRecDepth 6000

/-! ### What the program answers of no cache, and of words that are none -/
theorem lineOf_out (z : Int) (w : World) (hz : ¬ (0 ≤ z ∧ z < 16384)) : Calls Try.prog 33 #[.int .i64 z] w fun r w' => r = .returned (.tuple #[.int .i64 0, .bool false]) ∧ w' = w := by
  by_cases h0 : z < 0
  · go_enter Try.func33, Try.ntmps33
    go_wp2
    go_ret2
    exact ⟨rfl, rfl⟩
  · have h1 : z ≥ 16384 := by omega
    clear hz
    go_enter Try.func33, Try.ntmps33
    go_wp2
    go_ret2
    exact ⟨rfl, rfl⟩

theorem touch_nil (z : Int) (w : World) : Calls Try.prog 16 #[.pointer none, .int .i64 z] w fun r w' => r = .returned (.tuple #[.int .i64 0, .int .i64 3]) ∧ w' = w := by
  go_enter Try.func16, Try.ntmps16
  go_wp2
  go_ret2
  exact ⟨rfl, rfl⟩

theorem touch_out (c : Nat) (z : Int) (w : World) (hz : ¬ (0 ≤ z ∧ z < 16384)) : Calls Try.prog 16 #[ptr c, .int .i64 z] w fun r w' => r = .returned (.tuple #[.int .i64 0, .int .i64 70]) ∧ w' = w := by
  have H1 : Hid (Calls _ _ _ _ _) := lineOf_out z w hz
  clear hz
  go_enter Try.func16, Try.ntmps16
  go_wp2_with fail
  refine H1.out.mono ?_
  rintro r w1 ⟨rfl, rfl⟩
  clear H1
  go_wp2
  go_ret2
  exact ⟨rfl, rfl⟩

theorem holds_nil (z : Int) (w : World) : Calls Try.prog 18 #[.pointer none, .int .i64 z] w fun r w' => r = .returned (.bool false) ∧ w' = w := by
  by_cases hz : 0 ≤ z ∧ z < 16384
  · obtain ⟨a, rfl⟩ : ∃ a : Nat, z = a := ⟨z.toNat, by omega⟩
    have H1 : Hid (Calls _ _ _ _ _) := lineOf_in a (by omega) w
    obtain ⟨l, el⟩ : ∃ l, l = a / 4 := ⟨_, rfl⟩
    rw [← el] at H1
    clear hz el
    go_enter Try.func18, Try.ntmps18
    go_wp2_with fail
    refine H1.out.mono ?_
    rintro r w1 ⟨rfl, rfl⟩
    clear H1
    go_wp2
    go_ret
    exact ⟨rfl, rfl⟩
  · have H1 : Hid (Calls _ _ _ _ _) := lineOf_out z w hz
    clear hz
    go_enter Try.func18, Try.ntmps18
    go_wp2_with fail
    refine H1.out.mono ?_
    rintro r w1 ⟨rfl, rfl⟩
    clear H1
    go_wp2
    go_ret
    exact ⟨rfl, rfl⟩

theorem holds_out (c : Nat) (z : Int) (w : World) (hz : ¬ (0 ≤ z ∧ z < 16384)) : Calls Try.prog 18 #[ptr c, .int .i64 z] w fun r w' => r = .returned (.bool false) ∧ w' = w := by
  have H1 : Hid (Calls _ _ _ _ _) := lineOf_out z w hz
  clear hz
  go_enter Try.func18, Try.ntmps18
  go_wp2_with fail
  refine H1.out.mono ?_
  rintro r w1 ⟨rfl, rfl⟩
  clear H1
  go_wp2
  go_ret
  exact ⟨rfl, rfl⟩

theorem flush_nil (w : World) : Calls Try.prog 27 #[.pointer none] w fun r w' => r = .returned (.tuple #[]) ∧ w' = w := by
  go_enter Try.func27, Try.ntmps27
  go_wp2
  refine bodyPost_ret (results_none rfl _ _ _) rfl ?_
  exact ⟨rfl, rfl⟩

theorem lines_nil (w : World) : Calls Try.prog 12 #[.pointer none] w fun r w' => r = .returned (.slice none 0 0) ∧ w' = w := by
  go_enter Try.func12, Try.ntmps12
  go_wp2
  go_ret
  exact ⟨rfl, rfl⟩

theorem restore_nil (v : Value) (w : World) : Calls Try.prog 19 #[.pointer none, v] w fun r w' => r = .returned (.int .i64 3) ∧ w' = w := by
  go_enter Try.func19, Try.ntmps19
  go_wp2
  go_ret
  exact ⟨rfl, rfl⟩

end Go.Proofs.Ytajhkilclmicjaa
