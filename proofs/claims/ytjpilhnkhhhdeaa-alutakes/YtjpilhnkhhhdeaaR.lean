import Derived.Test.YtjpilhnkhhhdeaaB
namespace Go.Proofs.Ytjpilhnkhhhdeaa
open Go.RowKit
set_option linter.unusedVariables false

set_option maxHeartbeats 400000 in
theorem rdoes_any (k : Int) (w : World) : Calls Try.prog 12 #[.int .i64 k] w fun e w' => e = .returned (.bool (isDo k)) ∧ w' = w := by
  by_cases h1 : 5 ≤ k <;> by_cases h2 : k ≤ 17
  all_goals
    go_enter Try.func12, Try.ntmps12
    go_wp2
    go_ret
    exact ⟨ret_bool (by simp [isDo, h1, h2]), rfl⟩

set_option maxHeartbeats 400000 in
theorem rbranches_any (k : Int) (w : World) : Calls Try.prog 16 #[.int .i64 k] w fun e w' => e = .returned (.bool (isBr k)) ∧ w' = w := by
  by_cases h1 : 21 ≤ k <;> by_cases h2 : k ≤ 25
  all_goals
    go_enter Try.func16, Try.ntmps16
    go_wp2
    go_ret
    exact ⟨ret_bool (by simp [isBr, h1, h2]), rfl⟩

set_option maxHeartbeats 400000 in
theorem word_pos (n : Int) (w : World) (h1 : 0 ≤ n) (h2 : n ≤ 9223372036854775807) : Calls Try.prog 20 #[.int .i64 n] w fun e w' => e = .returned (.int .u32 (wd n : Nat)) ∧ w' = w := by
  go_enter Try.func20, Try.ntmps20
  go_wp2
  go_ret
  exact ⟨ret_int (wd_cast n).symm, rfl⟩

theorem tm_neg (n : Int) (h : n < 0) : -4294967296 < n.tmod 4294967296 ∧ n.tmod 4294967296 ≤ 0 ∧ n.tmod 4294967296 % 4294967296 = n % 4294967296 := by
  obtain ⟨m, rfl⟩ : ∃ m : Int, n = -m := ⟨-n, by omega⟩
  rw [Int.neg_tmod, Int.tmod_eq_emod_of_nonneg (by omega)]
  omega

set_option maxHeartbeats 400000 in
theorem word_neg (n : Int) (w : World) (h1 : n < 0) (h2 : -9223372036854775808 ≤ n) : Calls Try.prog 20 #[.int .i64 n] w fun e w' => e = .returned (.int .u32 (wd n : Nat)) ∧ w' = w := by
  have HT : Hid (-4294967296 < n.tmod 4294967296 ∧ n.tmod 4294967296 ≤ 0 ∧ n.tmod 4294967296 % 4294967296 = n % 4294967296) := tm_neg n h1
  by_cases h : n.tmod 4294967296 < 0
  · go_enter Try.func20, Try.ntmps20
    go_wp2
    go_ret
    refine ⟨ret_int ?_, rfl⟩
    rw [wd_cast, ← HT.out.2.2, show wrap64 (n.tmod 4294967296 + 4294967296) = n.tmod 4294967296 + 4294967296 by have := HT.out; unfold wrap64; omega]
    omega
  · have h0 : 0 ≤ n.tmod 4294967296 := by omega
    go_enter Try.func20, Try.ntmps20
    go_wp2
    go_ret
    refine ⟨ret_int ?_, rfl⟩
    rw [wd_cast, ← HT.out.2.2]

theorem word_any (n : Int) (w : World) (h1 : -9223372036854775808 ≤ n) (h2 : n ≤ 9223372036854775807) : Calls Try.prog 20 #[.int .i64 n] w fun e w' => e = .returned (.int .u32 (wd n : Nat)) ∧ w' = w := by
  by_cases h : 0 ≤ n
  · exact word_pos n w h h2
  · exact word_neg n w (by omega) h1

set_option maxHeartbeats 400000 in
theorem signed_any (x : Nat) (w : World) (hx : x < 4294967296) : Calls Try.prog 29 #[.int .u32 x] w fun e w' => e = .returned (.int .i64 (sg x)) ∧ w' = w := by
  by_cases h : 2147483648 ≤ (x : Int)
  · have e : sg x = (x : Int) - 4294967296 := by unfold sg; rw [if_pos (by omega)]
    rw [e]; clear e
    go_enter Try.func29, Try.ntmps29
    go_wp2
    go_ret
    exact ⟨rfl, rfl⟩
  · have e : sg x = (x : Int) := by unfold sg; rw [if_neg (by omega)]
    rw [e]; clear e
    go_enter Try.func29, Try.ntmps29
    go_wp2
    go_ret
    exact ⟨rfl, rfl⟩

set_option maxHeartbeats 400000 in
theorem magnitude_any (n : Int) (w : World) (h1 : -9223372036854775807 ≤ n) (h2 : n ≤ 9223372036854775807) : Calls Try.prog 31 #[.int .i64 n] w fun e w' => e = .returned (.int .i64 (n.natAbs : Int)) ∧ w' = w := by
  by_cases h : n < 0
  · have e : (n.natAbs : Int) = - n := by omega
    rw [e]; clear e
    go_enter Try.func31, Try.ntmps31
    go_wp2
    go_ret
    exact ⟨rfl, rfl⟩
  · have e : (n.natAbs : Int) = n := by omega
    rw [e]; clear e
    go_enter Try.func31, Try.ntmps31
    go_wp2
    go_ret
    exact ⟨rfl, rfl⟩

set_option maxHeartbeats 400000 in
theorem bit_any (x i : Nat) (w : World) (hx : x < 4294967296) (hi : i < 32) : Calls Try.prog 32 #[.int .u32 x, .int .i64 i] w fun e w' => e = .returned (.int .u32 ((x / 2 ^ i % 2 : Nat) : Int)) ∧ w' = w := by
  go_enter Try.func32, Try.ntmps32
  go_wp2
  go_ret
  refine ⟨ret_int ?_, rfl⟩
  rw [Nat.mod_eq_of_lt hi, Int.tmod_eq_emod_of_nonneg (Int.ediv_nonneg (by omega) (by exact Int.pow_nonneg (by omega)))]
  push_cast
  rfl
end Go.Proofs.Ytjpilhnkhhhdeaa
