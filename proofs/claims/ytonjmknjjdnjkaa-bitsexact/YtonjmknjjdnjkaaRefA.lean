import Derived.Test.YtonjmknjjdnjkaaSigned
import Derived.Test.YtonjmknjjdnjkaaBack
namespace Go.Proofs.Ytonjmknjjdnjkaa
open Go.RowKit
set_option linter.unusedVariables false

set_option maxHeartbeats 400000 in
theorem there_yes (f n : Nat) (w : World) (h1 : 1 ≤ n) (h2 : f + n ≤ 32) :
    Calls Try.prog 82 #[.int .i64 f, .int .i64 n] w fun e w' => e = .returned (.bool true) ∧ w' = w := by
  have a1 : (0 : Int) ≤ (f : Int) := by omega
  have a2 : (f : Int) ≤ 32 := by omega
  have a3 : (1 : Int) ≤ (n : Int) := by omega
  have a4 : (n : Int) ≤ 32 := by omega
  have a5 : (f : Int) + (n : Int) ≤ 32 := by omega
  go_enter Try.func82, Try.ntmps82
  go_wp2
  go_ret
  exact ⟨rfl, rfl⟩

set_option maxHeartbeats 400000 in
theorem there_no (f n : Int) (w : World) (h : f < 0 ∨ n < 1 ∨ 32 - n < f) :
    Calls Try.prog 82 #[.int .i64 f, .int .i64 n] w fun e w' => e = .returned (.bool false) ∧ w' = w := by
  by_cases a1 : 0 ≤ f
  · by_cases a2 : f ≤ 32
    · by_cases a3 : 1 ≤ n
      · by_cases a4 : n ≤ 32
        · have a5 : ¬ f + n ≤ 32 := by omega
          clear h
          go_enter Try.func82, Try.ntmps82
          go_wp2
          go_ret
          exact ⟨rfl, rfl⟩
        · clear h
          go_enter Try.func82, Try.ntmps82
          go_wp2
          go_ret
          exact ⟨rfl, rfl⟩
      · clear h
        go_enter Try.func82, Try.ntmps82
        go_wp2
        go_ret
        exact ⟨rfl, rfl⟩
    · clear h
      go_enter Try.func82, Try.ntmps82
      go_wp2
      go_ret
      exact ⟨rfl, rfl⟩
  · clear h
    go_enter Try.func82, Try.ntmps82
    go_wp2
    go_ret
    exact ⟨rfl, rfl⟩

def bitN (x i : Nat) : Nat := x / 2 ^ i % 2
theorem bitN_eq (x i : Nat) (hx : x < 4294967296) : bits .and .u32 ((x : Int) / 2 ^ i) 1 = ((bitN x i : Nat) : Int) := by
  rw [cast_div]
  exact odd_eq (x / 2 ^ i) (Nat.lt_of_le_of_lt (Nat.div_le_self _ _) hx)

set_option maxHeartbeats 400000 in
theorem bit_any (x i : Nat) (w : World) (hx : x < 4294967296) (hi : i < 32) :
    Calls Try.prog 83 #[.int .u32 x, .int .i64 i] w fun e w' => e = .returned (.int .u32 (bitN x i)) ∧ w' = w := by
  go_enter Try.func83, Try.ntmps83
  go_wp2
  go_ret
  exact ⟨ret_int (bitN_eq x i hx), rfl⟩

theorem low_step (P j : Nat) (hP : P < 4294967296) (hj : j < 32) : bits .or .u32 ((P % 2 ^ j : Nat) : Int) (((bitN P j : Nat) : Int) * 2 ^ j % 4294967296) = ((P % 2 ^ (j + 1) : Nat) : Int) := by
  have h0 := Nat.two_pow_pos j
  have h1 : (2 : Nat) ^ j ≤ 2 ^ 31 := two_le _ _ (by omega)
  have h2 : P % 2 ^ j < 2 ^ j := Nat.mod_lt _ h0
  have hb : bitN P j ≤ 1 := by unfold bitN; omega
  have h3 : bitN P j * 2 ^ j ≤ 1 * 2 ^ 31 := Nat.mul_le_mul hb h1
  have e1 : ((bitN P j : Nat) : Int) * 2 ^ j = ((bitN P j * 2 ^ j : Nat) : Int) := by simp
  have e2 : ((bitN P j * 2 ^ j : Nat) : Int) % 4294967296 = ((bitN P j * 2 ^ j : Nat) : Int) := by omega
  rw [e1, e2, u32_or_nat _ _ (by omega) (by omega), Nat.or_comm, nat_join j _ _ (Nat.mul_mod_left _ _) h2, Nat.pow_succ, Nat.mod_mul]
  unfold bitN
  rw [Nat.mul_comm, Nat.add_comm]

theorem shift_bit (x f j : Nat) : bitN x (f + j) = bitN (x / 2 ^ f) j := by
  unfold bitN
  rw [Nat.div_div_eq_div_mul, ← Nat.pow_add]

set_option maxHeartbeats 400000 in
theorem refField_yes (x f n : Nat) (w : World) (hx : x < 4294967296) (h1 : 1 ≤ n) (h2 : f + n ≤ 32) :
    Calls Try.prog 49 #[.int .u32 x, .int .i64 f, .int .i64 n] w fun e w' => e = .returned (.tuple #[.int .u32 (fieldN x f n), .int .i64 0]) ∧ w' = w := by
  go_enter Try.func49, Try.ntmps49
  go_wp2_with (go_at_call 82; refine (there_yes _ _ _ h1 h2).mono ?_; rintro e w' ⟨rfl, hw'⟩; obtain rfl := hw'.symm)
  go_loop [8, 9] (fun v i => ∃ j : Nat, j ≤ n ∧ i = .int .i64 j ∧ v = .int .u32 ((x / 2 ^ f % 2 ^ j : Nat) : Int)) (fun _ i => n - (intOf i).toNat)
  case atStart => exact ⟨0, by omega, rfl, by simp [Nat.mod_one]⟩
  case round =>
    obtain ⟨j, hj, rfl, rfl⟩ := hrel
    by_cases hlt : j < n
    · have hy : x / 2 ^ f < 4294967296 := Nat.lt_of_le_of_lt (Nat.div_le_self _ _) hx
      have HS : Hid (_ = _) := low_step (x / 2 ^ f) j hy (by omega)
      have HB := bit_any x (f + j) w hx (by omega)
      rw [shift_bit] at HB
      obtain ⟨B, hB⟩ : ∃ B, B = bitN (x / 2 ^ f) j := ⟨_, rfl⟩
      obtain ⟨A, hA⟩ : ∃ A, A = x / 2 ^ f % 2 ^ j := ⟨_, rfl⟩
      rw [← hB] at HB
      rw [← hA, ← hB] at HS
      rw [← hA]
      have HC : Hid (Calls _ _ _ _ _) := HB
      clear HB hB hA hy
      go_wp2_with fail
      refine HC.out.mono ?_
      rintro e w' ⟨rfl, hw'⟩; obtain rfl := hw'.symm
      go_wp2
      go_round
      case rel => exact ⟨j + 1, by omega, by go_num, by rw [HS.out]⟩
      case measure => simp [intOf]; omega
    · obtain rfl : j = n := by omega
      go_wp2
      go_ret2
      exact ⟨rfl, rfl⟩

set_option maxHeartbeats 400000 in
theorem refField_no (x : Nat) (f n : Int) (w : World) (h : f < 0 ∨ n < 1 ∨ 32 - n < f) :
    Calls Try.prog 49 #[.int .u32 x, .int .i64 f, .int .i64 n] w fun e w' => e = .returned (.tuple #[.int .u32 0, .int .i64 10]) ∧ w' = w := by
  go_enter Try.func49, Try.ntmps49
  go_wp2_with (go_at_call 82; refine (there_no _ _ _ h).mono ?_; rintro e w' ⟨rfl, hw'⟩; obtain rfl := hw'.symm)
  go_ret2
  exact ⟨rfl, rfl⟩

set_option maxHeartbeats 400000 in
theorem refPut_no (x v : Nat) (f n : Int) (w : World) (h : f < 0 ∨ n < 1 ∨ 32 - n < f) :
    Calls Try.prog 50 #[.int .u32 x, .int .i64 f, .int .i64 n, .int .u32 v] w fun e w' => e = .returned (.tuple #[.int .u32 0, .int .i64 10]) ∧ w' = w := by
  go_enter Try.func50, Try.ntmps50
  go_wp2_with (go_at_call 82; refine (there_no _ _ _ h).mono ?_; rintro e w' ⟨rfl, hw'⟩; obtain rfl := hw'.symm)
  go_ret2
  exact ⟨rfl, rfl⟩

theorem pow_u64 (n : Nat) (h : n ≤ 32) : (2 : Int) ^ n ≤ 4294967296 ∧ 0 < (2 : Int) ^ n := by
  have a := two_le n 32 h
  have b := Nat.two_pow_pos n
  rw [← pow_int]
  omega

set_option maxHeartbeats 400000 in
theorem refPut_val (x f n v : Nat) (w : World) (h1 : 1 ≤ n) (h2 : f + n ≤ 32) (hv : 2 ^ n ≤ v) (hv' : v < 4294967296) :
    Calls Try.prog 50 #[.int .u32 x, .int .i64 f, .int .i64 n, .int .u32 v] w fun e w' => e = .returned (.tuple #[.int .u32 0, .int .i64 11]) ∧ w' = w := by
  obtain ⟨pa, pb⟩ := pow_u64 n (by omega)
  have hge : (2 : Int) ^ n ≤ (v : Int) := by rw [← pow_int]; omega
  clear hv
  go_enter Try.func50, Try.ntmps50
  go_wp2_with (go_at_call 82; refine (there_yes _ _ _ h1 h2).mono ?_; rintro e w' ⟨rfl, hw'⟩; obtain rfl := hw'.symm)
  go_ret2
  exact ⟨rfl, rfl⟩

theorem bitN_put (x f n v i : Nat) (hx : x < 2 ^ 32) (h : f + n ≤ 32) (hv : v < 2 ^ n) : bitN (putN x f n v) i = if f ≤ i ∧ i < f + n then bitN v (i - f) else bitN x i := by
  have e : ∀ a b : Nat, ∀ k l, a.testBit k = b.testBit l → bitN a k = bitN b l := by
    intro a b k l hh
    rw [Nat.testBit_eq_decide_div_mod_eq, Nat.testBit_eq_decide_div_mod_eq] at hh
    have := decide_eq_decide.1 hh
    unfold bitN
    omega
  have hb := putN_bit x f n v i hx h hv
  split
  · rename_i hc
    rw [if_pos hc] at hb
    exact e _ _ _ _ hb
  · rename_i hc
    rw [if_neg hc] at hb
    exact e _ _ _ _ hb

set_option maxHeartbeats 1000000 in
theorem refPut_yes (x f n v : Nat) (w : World) (hx : x < 4294967296) (h1 : 1 ≤ n) (h2 : f + n ≤ 32) (hv : v < 2 ^ n) :
    Calls Try.prog 50 #[.int .u32 x, .int .i64 f, .int .i64 n, .int .u32 v] w fun e w' => e = .returned (.tuple #[.int .u32 (putN x f n v), .int .i64 0]) ∧ w' = w := by
  obtain ⟨pa, pb⟩ := pow_u64 n (by omega)
  have hge : ¬ (2 : Int) ^ n ≤ (v : Int) := by rw [← pow_int]; omega
  have hv32 : v < 4294967296 := by have := two_le n 32 (by omega); omega
  have HV : Hid (v < 2 ^ n) := hv
  have hPl := putN_lt x f n v hx h2 hv
  have HBP : Hid (∀ i, bitN (putN x f n v) i = if f ≤ i ∧ i < f + n then bitN v (i - f) else bitN x i) := fun i => bitN_put x f n v i hx h2 hv
  obtain ⟨P, hP⟩ : ∃ P, P = putN x f n v := ⟨_, rfl⟩
  rw [← hP] at hPl HBP
  rw [← hP]
  clear hv hP
  go_enter Try.func50, Try.ntmps50
  go_wp2_with (go_at_call 82; refine (there_yes _ _ _ h1 h2).mono ?_; rintro e w' ⟨rfl, hw'⟩; obtain rfl := hw'.symm)
  clear hge pa pb
  go_loop [10, 11] (fun o i => ∃ j : Nat, j ≤ 32 ∧ i = .int .i64 j ∧ o = .int .u32 ((P % 2 ^ j : Nat) : Int)) (fun _ i => 32 - (intOf i).toNat)
  case atStart => exact ⟨0, by omega, rfl, by simp [Nat.mod_one]⟩
  case round =>
    obtain ⟨j, hj, rfl, rfl⟩ := hrel
    by_cases hlt : (j : Int) < 32
    · have HS : Hid (_ = _) := low_step P j (by omega) (by omega)
      have hbp := HBP.out j
      have HC1 : Hid (Calls _ _ _ _ _) := bit_any x j w hx (by omega)
      obtain ⟨A, hA⟩ : ∃ A, A = P % 2 ^ j := ⟨_, rfl⟩
      rw [← hA] at HS
      rw [← hA]
      clear hA
      by_cases a1 : (f : Int) ≤ (j : Int)
      · by_cases a2 : (j : Int) < (f : Int) + (n : Int)
        · rw [if_pos (by omega)] at hbp
          have HC2 := bit_any v (j - f) w hv32 (by omega)
          rw [← hbp] at HC2
          obtain ⟨B, hB⟩ : ∃ B, B = bitN P j := ⟨_, rfl⟩
          rw [← hB] at HC2 HS
          have e : ((j - f : Nat) : Int) = (j : Int) - (f : Int) := by omega
          rw [e] at HC2
          have HC3 : Hid (Calls _ _ _ _ _) := HC2
          clear HC2 hB hbp e
          go_wp2_with fail
          refine HC1.out.mono ?_
          rintro e w' ⟨rfl, hw'⟩; obtain rfl := hw'.symm
          go_wp2_with fail
          refine HC3.out.mono ?_
          rintro e w' ⟨rfl, hw'⟩; obtain rfl := hw'.symm
          go_wp2
          go_round
          case rel => exact ⟨j + 1, by omega, by go_num, by rw [HS.out]⟩
          case measure => simp [intOf]; omega
        · rw [if_neg (by omega)] at hbp
          rw [← hbp] at HC1
          obtain ⟨B, hB⟩ : ∃ B, B = bitN P j := ⟨_, rfl⟩
          rw [← hB] at HC1 HS
          clear hB hbp
          go_wp2_with fail
          refine HC1.out.mono ?_
          rintro e w' ⟨rfl, hw'⟩; obtain rfl := hw'.symm
          go_wp2
          go_round
          case rel => exact ⟨j + 1, by omega, by go_num, by rw [HS.out]⟩
          case measure => simp [intOf]; omega
      · rw [if_neg (by omega)] at hbp
        rw [← hbp] at HC1
        obtain ⟨B, hB⟩ : ∃ B, B = bitN P j := ⟨_, rfl⟩
        rw [← hB] at HC1 HS
        clear hB hbp
        go_wp2_with fail
        refine HC1.out.mono ?_
        rintro e w' ⟨rfl, hw'⟩; obtain rfl := hw'.symm
        go_wp2
        go_round
        case rel => exact ⟨j + 1, by omega, by go_num, by rw [HS.out]⟩
        case measure => simp [intOf]; omega
    · obtain rfl : j = 32 := by omega
      go_wp2
      go_ret2
      refine ⟨?_, rfl⟩
      exact ret_two (by omega)

set_option maxHeartbeats 400000 in
theorem refSigned_no (x : Nat) (n : Int) (w : World) (h : n < 1 ∨ 32 < n) :
    Calls Try.prog 51 #[.int .u32 x, .int .i64 n] w fun e w' => e = .returned (.tuple #[.int .i64 0, .int .i64 10]) ∧ w' = w := by
  by_cases a : n < 1
  · clear h
    go_enter Try.func51, Try.ntmps51
    go_wp2
    go_ret2
    exact ⟨rfl, rfl⟩
  · have b : 32 < n := by omega
    clear h
    go_enter Try.func51, Try.ntmps51
    go_wp2
    go_ret2
    exact ⟨rfl, rfl⟩

theorem half_pow (n : Nat) (h1 : 1 ≤ n) : (2 : Int) ^ n / 2 = 2 ^ (n - 1) := by
  obtain ⟨m, rfl⟩ : ∃ m, n = m + 1 := ⟨n - 1, by omega⟩
  rw [Int.pow_succ]
  simp

set_option maxHeartbeats 400000 in
theorem refSigned_yes (x n : Nat) (w : World) (h1 : 1 ≤ n) (h2 : n ≤ 32) (hx : x < 4294967296) :
    Calls Try.prog 51 #[.int .u32 x, .int .i64 n] w fun e w' => e = .returned (if (2 : Int) ^ n ≤ x then .tuple #[.int .i64 0, .int .i64 11] else if (2 : Int) ^ (n - 1) ≤ x then .tuple #[.int .i64 (x - 2 ^ n), .int .i64 0] else .tuple #[.int .i64 x, .int .i64 0]) ∧ w' = w := by
  obtain ⟨pa, pb⟩ := pow_u64 n h2
  have hh := half_pow n h1
  have n1 : ¬ (n : Int) < 1 := by omega
  have n2 : ¬ (32 : Int) < (n : Int) := by omega
  by_cases a : (2 : Int) ^ n ≤ x
  · rw [if_pos a]
    go_enter Try.func51, Try.ntmps51
    go_wp2
    go_ret2
    exact ⟨rfl, rfl⟩
  · rw [if_neg a]
    by_cases b : (2 : Int) ^ (n - 1) ≤ x
    · rw [if_pos b]
      go_enter Try.func51, Try.ntmps51
      go_wp2
      go_ret2
      exact ⟨rfl, rfl⟩
    · rw [if_neg b]
      go_enter Try.func51, Try.ntmps51
      go_wp2
      go_ret2
      exact ⟨rfl, rfl⟩

set_option maxHeartbeats 400000 in
theorem refUnsigned_no (x n : Int) (w : World) (h : n < 1 ∨ 32 < n) :
    Calls Try.prog 52 #[.int .i64 x, .int .i64 n] w fun e w' => e = .returned (.tuple #[.int .u32 0, .int .i64 10]) ∧ w' = w := by
  by_cases a : n < 1
  · clear h
    go_enter Try.func52, Try.ntmps52
    go_wp2
    go_ret2
    exact ⟨rfl, rfl⟩
  · have b : 32 < n := by omega
    clear h
    go_enter Try.func52, Try.ntmps52
    go_wp2
    go_ret2
    exact ⟨rfl, rfl⟩

set_option maxHeartbeats 400000 in
theorem refUnsigned_yes (x : Int) (n : Nat) (w : World) (h1 : 1 ≤ n) (h2 : n ≤ 32) :
    Calls Try.prog 52 #[.int .i64 x, .int .i64 n] w fun e w' => e = .returned (if - 2 ^ (n - 1) ≤ x ∧ x < 2 ^ (n - 1) then .tuple #[.int .u32 (x % 2 ^ n), .int .i64 0] else .tuple #[.int .u32 0, .int .i64 11]) ∧ w' = w := by
  obtain ⟨pa, pb⟩ := pow_u64 n h2
  have hh := half_pow n h1
  have qa := (pow_bd n h1 h2).1
  have qb := (pow_bd n h1 h2).2.1
  have HE : Hid ((2 : Int) ^ n = 2 * 2 ^ (n - 1)) := (pow_bd n h1 h2).2.2.1
  have n1 : ¬ (n : Int) < 1 := by omega
  have n2 : ¬ (32 : Int) < (n : Int) := by omega
  by_cases a : x < - 2 ^ (n - 1)
  · rw [if_neg (by omega)]
    go_enter Try.func52, Try.ntmps52
    go_wp2
    go_ret2
    exact ⟨rfl, rfl⟩
  · by_cases b : 2 ^ (n - 1) - 1 < x
    · rw [if_neg (by omega)]
      go_enter Try.func52, Try.ntmps52
      go_wp2
      go_ret2
      exact ⟨rfl, rfl⟩
    · rw [if_pos (by omega)]
      by_cases c : x < 0
      · rw [back_hi x n h1 h2 c (by omega)]
        have hc : (x + 2 ^ n) % 4294967296 = x + 2 ^ n := Int.emod_eq_of_lt (by have := HE.out; omega) (by omega)
        go_enter Try.func52, Try.ntmps52
        go_wp2
        go_ret2
        exact ⟨rfl, rfl⟩
      · rw [back_lo x n h1 h2 (by omega) (by omega)]
        have hc : x % 4294967296 = x := Int.emod_eq_of_lt (by omega) (by omega)
        go_enter Try.func52, Try.ntmps52
        go_wp2
        go_ret2
        exact ⟨rfl, rfl⟩
end Go.Proofs.Ytonjmknjjdnjkaa
