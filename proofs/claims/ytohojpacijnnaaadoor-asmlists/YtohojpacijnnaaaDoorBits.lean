import Derived.Test.YtohojpacijnnaaaDoorTab
namespace Go.Proofs.YtohojpacijnnaaaDoor.Is
open Go.RowKit
set_option linter.unusedVariables false

theorem ret_bool {a b : Bool} (h : a = b) : Ending.returned (.bool a) = .returned (.bool b) := by rw [h]
/-- May a register's number stand there? -/
def fitB (there : Bool) (n : Int) : Bool := if there then decide (0 ≤ n ∧ n ≤ 15) else decide (n = 0)

set_option maxHeartbeats 400000 in
theorem fits_any (n : Int) (there : Bool) (w : World) : Calls Tryd.prog 46 #[.int .i64 n, .bool there] w fun e w' => e = .returned (.bool (fitB there n)) ∧ w' = w := by
  by_cases h0 : n = 0
  · subst h0
    cases there
    · go_enter Tryd.func46, Tryd.ntmps46
      go_wp2
      go_ret
      exact ⟨rfl, rfl⟩
    · go_enter Tryd.func46, Tryd.ntmps46
      go_wp2
      go_ret
      exact ⟨rfl, rfl⟩
  · cases there
    · have e : fitB false n = false := by simp [fitB, h0]
      rw [e]; clear e
      go_enter Tryd.func46, Tryd.ntmps46
      go_wp2
      go_ret
      exact ⟨ret_bool (by simpa using h0), rfl⟩
    · by_cases h1 : 0 < n
      · by_cases h2 : n < 16
        · have e : fitB true n = true := by simp [fitB]; omega
          rw [e]; clear e
          go_enter Tryd.func46, Tryd.ntmps46
          go_wp2
          go_ret
          exact ⟨rfl, rfl⟩
        · have e : fitB true n = false := by simp [fitB]; omega
          rw [e]; clear e
          go_enter Tryd.func46, Tryd.ntmps46
          go_wp2
          go_ret
          exact ⟨ret_bool (by simpa using h0), rfl⟩
      · have e : fitB true n = false := by simp [fitB]; omega
        rw [e]; clear e
        go_enter Tryd.func46, Tryd.ntmps46
        go_wp2
        go_ret
        exact ⟨ret_bool (by simpa using h0), rfl⟩

set_option maxHeartbeats 400000 in
theorem ones18 (w : World) : Calls Tryd.prog 54 #[.int .i64 18] w fun e w' => e = .returned (.int .u32 262143) ∧ w' = w := by
  go_enter Tryd.func54, Tryd.ntmps54
  go_wp2
  go_ret
  exact ⟨rfl, rfl⟩

set_option maxHeartbeats 400000 in
theorem has18 (w : World) : Calls Tryd.prog 53 #[.int .i64 0, .int .i64 18] w fun e w' => e = .returned (.bool true) ∧ w' = w := by
  go_enter Tryd.func53, Tryd.ntmps53
  go_wp2
  go_ret
  exact ⟨rfl, rfl⟩

theorem mask18 (x : Int) : bits .and .u32 (x % 4294967296) 262143 = x % 262144 := by
  obtain ⟨m, hm⟩ : ∃ m : Nat, x % 4294967296 = (m : Int) := ⟨(x % 4294967296).toNat, by omega⟩
  have hlt : m < 4294967296 := by omega
  have e : (262143 : Int) = ((2 ^ 18 - 1 : Nat) : Int) := by decide
  rw [hm, e, u32_and_nat _ _ hlt (by decide), Nat.and_two_pow_sub_one_eq_mod]
  omega

theorem ret_two {k k' : IntKind} {a b c : Int} (h : a = b) : Ending.returned (.tuple #[.int k a, .int k' c]) = .returned (.tuple #[.int k b, .int k' c]) := by rw [h]
theorem ret_int {k : IntKind} {a b : Int} (h : a = b) : Ending.returned (.int k a) = .returned (.int k b) := by rw [h]

set_option maxHeartbeats 400000 in
theorem uns_yes (x : Int) (w : World) (h1 : -131072 ≤ x) (h2 : x < 131072) : Calls Tryd.prog 47 #[.int .i64 x, .int .i64 18] w fun e w' => e = .returned (.tuple #[.int .u32 (x % 262144), .int .i64 0]) ∧ w' = w := by
  go_enter Tryd.func47, Tryd.ntmps47
  go_wp2_with (first | (go_at_call 53; refine (has18 _).mono ?_; rintro e w' ⟨rfl, rfl⟩) | (go_at_call 54; refine (ones18 _).mono ?_; rintro e w' ⟨rfl, rfl⟩))
  go_ret2
  exact ⟨ret_two (mask18 x), rfl⟩

set_option maxHeartbeats 400000 in
theorem uns_no (x : Int) (w : World) (h : x < -131072 ∨ 131072 ≤ x) : Calls Tryd.prog 47 #[.int .i64 x, .int .i64 18] w fun e w' => e = .returned (.tuple #[.int .u32 0, .int .i64 11]) ∧ w' = w := by
  by_cases h1 : x < -131072
  · clear h
    go_enter Tryd.func47, Tryd.ntmps47
    go_wp2_with (first | (go_at_call 53; refine (has18 _).mono ?_; rintro e w' ⟨rfl, rfl⟩) | (go_at_call 54; refine (ones18 _).mono ?_; rintro e w' ⟨rfl, rfl⟩))
    go_ret2
    exact ⟨rfl, rfl⟩
  · have h2 : 131072 ≤ x := by omega
    clear h
    go_enter Tryd.func47, Tryd.ntmps47
    go_wp2_with (first | (go_at_call 53; refine (has18 _).mono ?_; rintro e w' ⟨rfl, rfl⟩) | (go_at_call 54; refine (ones18 _).mono ?_; rintro e w' ⟨rfl, rfl⟩))
    go_ret2
    exact ⟨rfl, rfl⟩

/-- What Signed makes of 18 bits. -/
def sgn18 (m : Int) : Int := if 131071 < m then m - 262144 else m

set_option maxHeartbeats 400000 in
theorem sgn_any (x : Nat) (w : World) (hx : x < 262144) : Calls Tryd.prog 45 #[.int .u32 x, .int .i64 18] w fun e w' => e = .returned (.tuple #[.int .i64 (sgn18 x), .int .i64 0]) ∧ w' = w := by
  by_cases h : x < 131072
  · have hq : ((x : Int) / 131072 == 0) = true := by simp only [beq_iff_eq]; omega
    have e : sgn18 x = x := by unfold sgn18; rw [if_neg (by omega)]
    rw [e]; clear e
    go_enter Tryd.func45, Tryd.ntmps45
    go_wp2_with (first | (go_at_call 53; refine (has18 _).mono ?_; rintro e w' ⟨rfl, rfl⟩) | (go_at_call 54; refine (ones18 _).mono ?_; rintro e w' ⟨rfl, rfl⟩))
    go_ret2
    exact ⟨rfl, rfl⟩
  · have hq : ((x : Int) / 131072 == 0) = false := by simp only [beq_eq_false_iff_ne]; omega
    have e : sgn18 x = x - 262144 := by unfold sgn18; rw [if_pos (by omega)]
    rw [e]; clear e
    go_enter Tryd.func45, Tryd.ntmps45
    go_wp2_with (first | (go_at_call 53; refine (has18 _).mono ?_; rintro e w' ⟨rfl, rfl⟩) | (go_at_call 54; refine (ones18 _).mono ?_; rintro e w' ⟨rfl, rfl⟩))
    go_ret2
    exact ⟨rfl, rfl⟩

set_option maxHeartbeats 400000 in
theorem reg22 (x : Nat) (w : World) (hx : x < 4294967296) : Calls Tryd.prog 44 #[.int .u32 x, .int .i64 22] w fun e w' => e = .returned (.int .i64 ((x / 4194304 % 16 : Nat) : Int)) ∧ w' = w := by
  go_enter Tryd.func44, Tryd.ntmps44
  go_wp2
  go_ret
  exact ⟨ret_int (by omega), rfl⟩
set_option maxHeartbeats 400000 in
theorem reg18 (x : Nat) (w : World) (hx : x < 4294967296) : Calls Tryd.prog 44 #[.int .u32 x, .int .i64 18] w fun e w' => e = .returned (.int .i64 ((x / 262144 % 16 : Nat) : Int)) ∧ w' = w := by
  go_enter Tryd.func44, Tryd.ntmps44
  go_wp2
  go_ret
  exact ⟨ret_int (by omega), rfl⟩
set_option maxHeartbeats 400000 in
theorem reg14 (x : Nat) (w : World) (hx : x < 4294967296) : Calls Tryd.prog 44 #[.int .u32 x, .int .i64 14] w fun e w' => e = .returned (.int .i64 ((x / 16384 % 16 : Nat) : Int)) ∧ w' = w := by
  go_enter Tryd.func44, Tryd.ntmps44
  go_wp2
  go_ret
  exact ⟨ret_int (by omega), rfl⟩
end Go.Proofs.YtohojpacijnnaaaDoor.Is
