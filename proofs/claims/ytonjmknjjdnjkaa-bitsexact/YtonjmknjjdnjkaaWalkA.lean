import Derived.Test.YtonjmknjjdnjkaaProg
import Derived.Test.YtonjmknjjdnjkaaMath
import Derived.WalkKit
import Derived.WalkSpells
import Derived.WalkLawsBesides
import Derived.Deep.QuietTactic
import Derived.BigQuiet
namespace Go.Proofs.Ytonjmknjjdnjkaa
open Go.RowKit

theorem ret_int {k : IntKind} {a b : Int} (h : a = b) : Ending.returned (.int k a) = .returned (.int k b) := by rw [h]

set_option maxHeartbeats 400000 in
theorem ones_any (n : Nat) (w : World) (h1 : 1 ≤ n) (h2 : n ≤ 32) :
    Calls Try.prog 70 #[.int .i64 n] w fun e w' => e = .returned (.int .u32 ((2 ^ n - 1 : Nat) : Int)) ∧ w' = w := by
  go_enter Try.func70, Try.ntmps70
  go_wp2
  go_ret
  exact ⟨ret_int (ones_eq n h2), rfl⟩

set_option maxHeartbeats 400000 in
theorem hasBits_yes (f n : Int) (w : World) (h0 : 0 ≤ f) (h1 : 1 ≤ n) (h2 : f ≤ 32 - n) :
    Calls Try.prog 69 #[.int .i64 f, .int .i64 n] w fun e w' => e = .returned (.bool true) ∧ w' = w := by
  go_enter Try.func69, Try.ntmps69
  go_wp2
  go_ret
  exact ⟨rfl, rfl⟩

set_option maxHeartbeats 400000 in
theorem hasBits_no (f n : Int) (w : World) (hn : n ≤ 9223372036854775807) (h : f < 0 ∨ n < 1 ∨ 32 - n < f) :
    Calls Try.prog 69 #[.int .i64 f, .int .i64 n] w fun e w' => e = .returned (.bool false) ∧ w' = w := by
  by_cases h0 : 0 ≤ f
  · by_cases h1 : 1 ≤ n
    · have h2 : ¬ f ≤ 32 - n := by omega
      clear h
      go_enter Try.func69, Try.ntmps69
      go_wp2
      go_ret
      exact ⟨rfl, rfl⟩
    · clear h
      go_enter Try.func69, Try.ntmps69
      go_wp2
      go_ret
      exact ⟨rfl, rfl⟩
  · clear h
    go_enter Try.func69, Try.ntmps69
    go_wp2
    go_ret
    exact ⟨rfl, rfl⟩

theorem ret_two {k k' : IntKind} {a b c : Int} (h : a = b) : Ending.returned (.tuple #[.int k a, .int k' c]) = .returned (.tuple #[.int k b, .int k' c]) := by rw [h]

set_option maxHeartbeats 400000 in
theorem field_yes (x f n : Nat) (w : World) (hx : x < 4294967296) (h1 : 1 ≤ n) (h2 : f + n ≤ 32) :
    Calls Try.prog 18 #[.int .u32 x, .int .i64 f, .int .i64 n] w fun e w' => e = .returned (.tuple #[.int .u32 (fieldN x f n), .int .i64 0]) ∧ ∃ k, w' = w.drewN k := by
  go_enter Try.func18, Try.ntmps18
  go_wp2_with (go_at_call 69; refine (hasBits_yes _ _ _ (by omega) (by omega) (by omega)).mono ?_; rintro e w' ⟨rfl, rfl⟩)
  go_quiet ((go_at_call 70; exact Calls.quiet_of_same (ones_any _ _ h1 (by omega))))
  go_wp2
  go_ret2
  exact ⟨ret_two (field_eq x f n hx (by omega)), _, rfl⟩

set_option maxHeartbeats 400000 in
theorem field_no (x : Nat) (f n : Int) (w : World) (hn : n ≤ 9223372036854775807) (h : f < 0 ∨ n < 1 ∨ 32 - n < f) :
    Calls Try.prog 18 #[.int .u32 x, .int .i64 f, .int .i64 n] w fun e w' => e = .returned (.tuple #[.int .u32 0, .int .i64 10]) ∧ w' = w := by
  go_enter Try.func18, Try.ntmps18
  go_wp2_with (go_at_call 69; refine (hasBits_no _ _ _ hn h).mono ?_; rintro e w' ⟨rfl, rfl⟩)
  go_ret2
  exact ⟨rfl, rfl⟩

set_option maxHeartbeats 400000 in
theorem put_yes (x f n v : Nat) (w : World) (hx : x < 4294967296) (h1 : 1 ≤ n) (h2 : f + n ≤ 32) (hv : v < 2 ^ n) :
    Calls Try.prog 17 #[.int .u32 x, .int .i64 f, .int .i64 n, .int .u32 v] w fun e w' => e = .returned (.tuple #[.int .u32 (putN x f n v), .int .i64 0]) ∧ ∃ k, w' = w.drewN k := by
  have hv' : ¬ (((2 ^ n - 1 : Nat) : Int) < (v : Int)) := by omega
  go_enter Try.func17, Try.ntmps17
  go_wp2_with (first | (go_at_call 69; refine (hasBits_yes _ _ _ (by omega) (by omega) (by omega)).mono ?_; rintro e w' ⟨rfl, rfl⟩) | (go_at_call 70; refine (ones_any _ _ h1 (by omega)).mono ?_; rintro e w' ⟨rfl, rfl⟩))
  go_quiet ((go_at_call 70; exact Calls.quiet_of_same (ones_any _ _ h1 (by omega))))
  go_wp2
  go_ret2
  exact ⟨ret_two (put_eq x f n v hx h2 hv), _, rfl⟩

set_option maxHeartbeats 400000 in
theorem put_val (x f n v : Nat) (w : World) (h1 : 1 ≤ n) (h2 : f + n ≤ 32) (hv : 2 ^ n ≤ v) :
    Calls Try.prog 17 #[.int .u32 x, .int .i64 f, .int .i64 n, .int .u32 v] w fun e w' => e = .returned (.tuple #[.int .u32 0, .int .i64 11]) ∧ w' = w := by
  have hv' : (((2 ^ n - 1 : Nat) : Int) < (v : Int)) := by have := Nat.two_pow_pos n; omega
  go_enter Try.func17, Try.ntmps17
  go_wp2_with (first | (go_at_call 69; refine (hasBits_yes _ _ _ (by omega) (by omega) (by omega)).mono ?_; rintro e w' ⟨rfl, rfl⟩) | (go_at_call 70; refine (ones_any _ _ h1 (by omega)).mono ?_; rintro e w' ⟨rfl, rfl⟩))
  go_ret2
  exact ⟨rfl, rfl⟩

set_option maxHeartbeats 400000 in
theorem put_no (x v : Nat) (f n : Int) (w : World) (hn : n ≤ 9223372036854775807) (h : f < 0 ∨ n < 1 ∨ 32 - n < f) :
    Calls Try.prog 17 #[.int .u32 x, .int .i64 f, .int .i64 n, .int .u32 v] w fun e w' => e = .returned (.tuple #[.int .u32 0, .int .i64 10]) ∧ w' = w := by
  go_enter Try.func17, Try.ntmps17
  go_wp2_with (go_at_call 69; refine (hasBits_no _ _ _ hn h).mono ?_; rintro e w' ⟨rfl, rfl⟩)
  go_ret2
  exact ⟨rfl, rfl⟩

set_option maxHeartbeats 400000 in
theorem signed_no (x : Nat) (n : Int) (w : World) (hn : n ≤ 9223372036854775807) (h : n < 1 ∨ 32 < n) :
    Calls Try.prog 20 #[.int .u32 x, .int .i64 n] w fun e w' => e = .returned (.tuple #[.int .i64 0, .int .i64 10]) ∧ w' = w := by
  go_enter Try.func20, Try.ntmps20
  go_wp2_with (go_at_call 69; refine (hasBits_no _ _ _ hn (by omega)).mono ?_; rintro e w' ⟨rfl, rfl⟩)
  go_ret2
  exact ⟨rfl, rfl⟩

set_option maxHeartbeats 400000 in
theorem signed_val (x n : Nat) (w : World) (h1 : 1 ≤ n) (h2 : n ≤ 32) (hx : 2 ^ n - 1 < x) :
    Calls Try.prog 20 #[.int .u32 x, .int .i64 n] w fun e w' => e = .returned (.tuple #[.int .i64 0, .int .i64 11]) ∧ w' = w := by
  go_enter Try.func20, Try.ntmps20
  go_wp2_with (first | (go_at_call 69; refine (hasBits_yes _ _ _ (by omega) (by omega) (by omega)).mono ?_; rintro e w' ⟨rfl, rfl⟩) | (go_at_call 70; refine (ones_any _ _ h1 (by omega)).mono ?_; rintro e w' ⟨rfl, rfl⟩))
  go_ret2
  exact ⟨rfl, rfl⟩

set_option maxHeartbeats 400000 in
theorem signed_lo' (x n : Nat) (w : World) (h1 : 1 ≤ n) (h2 : n ≤ 32) (hx : ¬ 2 ^ n - 1 < x) (hq : ((x : Int) / 2 ^ (n - 1) == 0) = true) (hx' : x < 4294967296) :
    Calls Try.prog 20 #[.int .u32 x, .int .i64 n] w fun e w' => e = .returned (.tuple #[.int .i64 x, .int .i64 0]) ∧ w' = w := by
  go_enter Try.func20, Try.ntmps20
  go_wp2_with (first | (go_at_call 69; refine (hasBits_yes _ _ _ (by omega) (by omega) (by omega)).mono ?_; rintro e w' ⟨rfl, rfl⟩) | (go_at_call 70; refine (ones_any _ _ h1 (by omega)).mono ?_; rintro e w' ⟨rfl, rfl⟩))
  go_ret2
  exact ⟨rfl, rfl⟩

set_option maxHeartbeats 400000 in
theorem signed_hi' (x n : Nat) (w : World) (h1 : 1 ≤ n) (h2 : n ≤ 32) (hx : ¬ 2 ^ n - 1 < x) (hq : ((x : Int) / 2 ^ (n - 1) == 0) = false) (hp : (2 : Int) ^ n ≤ 4294967296) (hp' : 0 < (2 : Int) ^ n) (hx' : x < 4294967296) :
    Calls Try.prog 20 #[.int .u32 x, .int .i64 n] w fun e w' => e = .returned (.tuple #[.int .i64 (x - 2 ^ n), .int .i64 0]) ∧ w' = w := by
  go_enter Try.func20, Try.ntmps20
  go_wp2_with (first | (go_at_call 69; refine (hasBits_yes _ _ _ (by omega) (by omega) (by omega)).mono ?_; rintro e w' ⟨rfl, rfl⟩) | (go_at_call 70; refine (ones_any _ _ h1 (by omega)).mono ?_; rintro e w' ⟨rfl, rfl⟩))
  go_ret2
  exact ⟨rfl, rfl⟩

set_option maxHeartbeats 400000 in
theorem unsigned_no (x n : Int) (w : World) (hn : n ≤ 9223372036854775807) (h : n < 1 ∨ 32 < n) :
    Calls Try.prog 19 #[.int .i64 x, .int .i64 n] w fun e w' => e = .returned (.tuple #[.int .u32 0, .int .i64 10]) ∧ w' = w := by
  go_enter Try.func19, Try.ntmps19
  go_wp2_with (go_at_call 69; refine (hasBits_no _ _ _ hn (by omega)).mono ?_; rintro e w' ⟨rfl, rfl⟩)
  go_ret2
  exact ⟨rfl, rfl⟩

set_option maxHeartbeats 400000 in
theorem unsigned_yes (x : Int) (n : Nat) (w : World) (h1 : 1 ≤ n) (h2 : n ≤ 32) (hp : (2 : Int) ^ (n - 1) ≤ 2147483648) (hp' : 0 < (2 : Int) ^ (n - 1)) (hl : ¬ x < - 2 ^ (n - 1)) (hu : ¬ 2 ^ (n - 1) ≤ x) :
    Calls Try.prog 19 #[.int .i64 x, .int .i64 n] w fun e w' => e = .returned (.tuple #[.int .u32 (x % 2 ^ n), .int .i64 0]) ∧ w' = w := by
  go_enter Try.func19, Try.ntmps19
  go_wp2_with (first | (go_at_call 69; refine (hasBits_yes _ _ _ (by omega) (by omega) (by omega)).mono ?_; rintro e w' ⟨rfl, rfl⟩) | (go_at_call 70; refine (ones_any _ _ h1 (by omega)).mono ?_; rintro e w' ⟨rfl, rfl⟩))
  go_ret2
  exact ⟨ret_two (unsigned_eq x n h2), rfl⟩

set_option maxHeartbeats 400000 in
theorem unsigned_low (x : Int) (n : Nat) (w : World) (h1 : 1 ≤ n) (h2 : n ≤ 32) (hp : (2 : Int) ^ (n - 1) ≤ 2147483648) (hp' : 0 < (2 : Int) ^ (n - 1)) (hl : x < - 2 ^ (n - 1)) :
    Calls Try.prog 19 #[.int .i64 x, .int .i64 n] w fun e w' => e = .returned (.tuple #[.int .u32 0, .int .i64 11]) ∧ w' = w := by
  go_enter Try.func19, Try.ntmps19
  go_wp2_with (first | (go_at_call 69; refine (hasBits_yes _ _ _ (by omega) (by omega) (by omega)).mono ?_; rintro e w' ⟨rfl, rfl⟩) | (go_at_call 70; refine (ones_any _ _ h1 (by omega)).mono ?_; rintro e w' ⟨rfl, rfl⟩))
  go_ret2
  exact ⟨rfl, rfl⟩

set_option maxHeartbeats 400000 in
theorem unsigned_high (x : Int) (n : Nat) (w : World) (h1 : 1 ≤ n) (h2 : n ≤ 32) (hp : (2 : Int) ^ (n - 1) ≤ 2147483648) (hp' : 0 < (2 : Int) ^ (n - 1)) (hl : ¬ x < - 2 ^ (n - 1)) (hu : 2 ^ (n - 1) ≤ x) :
    Calls Try.prog 19 #[.int .i64 x, .int .i64 n] w fun e w' => e = .returned (.tuple #[.int .u32 0, .int .i64 11]) ∧ w' = w := by
  go_enter Try.func19, Try.ntmps19
  go_wp2_with (first | (go_at_call 69; refine (hasBits_yes _ _ _ (by omega) (by omega) (by omega)).mono ?_; rintro e w' ⟨rfl, rfl⟩) | (go_at_call 70; refine (ones_any _ _ h1 (by omega)).mono ?_; rintro e w' ⟨rfl, rfl⟩))
  go_ret2
  exact ⟨rfl, rfl⟩

/-- What Unsigned answers, in one: the number and the error. -/
theorem unsigned_any (x : Int) (n : Nat) (w : World) (h1 : 1 ≤ n) (h2 : n ≤ 32) :
    Calls Try.prog 19 #[.int .i64 x, .int .i64 n] w fun e w' => (∃ v er : Int, e = .returned (.tuple #[.int .u32 v, .int .i64 er]) ∧ ((er = 0 ∧ v = x % 2 ^ n ∧ - 2 ^ (n - 1) ≤ x ∧ x < 2 ^ (n - 1)) ∨ (er = 11 ∧ v = 0 ∧ (x < - 2 ^ (n - 1) ∨ 2 ^ (n - 1) ≤ x)))) ∧ w' = w := by
  obtain ⟨a, b, _, _, _⟩ := pow_bd n h1 h2
  by_cases hl : x < - 2 ^ (n - 1)
  · exact (unsigned_low x n w h1 h2 a b hl).mono fun e w' ⟨he, hw⟩ => ⟨⟨0, 11, he, .inr ⟨rfl, rfl, .inl hl⟩⟩, hw⟩
  · by_cases hu : 2 ^ (n - 1) ≤ x
    · exact (unsigned_high x n w h1 h2 a b hl hu).mono fun e w' ⟨he, hw⟩ => ⟨⟨0, 11, he, .inr ⟨rfl, rfl, .inr hu⟩⟩, hw⟩
    · exact (unsigned_yes x n w h1 h2 a b hl hu).mono fun e w' ⟨he, hw⟩ => ⟨⟨_, 0, he, .inl ⟨rfl, rfl, by omega, by omega⟩⟩, hw⟩

/-- What Signed answers to the bits of a number. -/
theorem signed_back (x : Int) (n : Nat) (w : World) (h1 : 1 ≤ n) (h2 : n ≤ 32) (hl : - 2 ^ (n - 1) ≤ x) (hu : x < 2 ^ (n - 1)) :
    Calls Try.prog 20 #[.int .u32 (x % 2 ^ n), .int .i64 n] w fun e w' => e = .returned (.tuple #[.int .i64 x, .int .i64 0]) ∧ w' = w := by
  obtain ⟨a, b, c, d, g⟩ := pow_bd n h1 h2
  have hpos := Nat.two_pow_pos n
  by_cases h : 0 ≤ x
  · rw [back_lo x n h1 h2 h hu]
    obtain ⟨m, rfl⟩ : ∃ m : Nat, x = (m : Int) := ⟨x.toNat, by omega⟩
    have q : ((m : Int) / 2 ^ (n - 1) == 0) = true := by
      rw [Int.ediv_eq_zero_of_lt h hu]; rfl
    exact signed_lo' m n w h1 h2 (by omega) q (by omega)
  · rw [back_hi x n h1 h2 (by omega) hl]
    obtain ⟨m, hm⟩ : ∃ m : Nat, x + 2 ^ n = (m : Int) := ⟨(x + 2 ^ n).toNat, by omega⟩
    have q : ((m : Int) / 2 ^ (n - 1) == 0) = false := by
      have : (1 : Int) ≤ (m : Int) / 2 ^ (n - 1) := by
        apply Int.le_ediv_of_mul_le b
        omega
      simp only [beq_eq_false_iff_ne, ne_eq]
      omega
    rw [hm]
    refine (signed_hi' m n w h1 h2 (by omega) q (by omega) (by omega) (by omega)).mono fun e w' ⟨he, hw⟩ => ⟨?_, hw⟩
    rw [he]
    exact ret_two (by omega)
end Go.Proofs.Ytonjmknjjdnjkaa
