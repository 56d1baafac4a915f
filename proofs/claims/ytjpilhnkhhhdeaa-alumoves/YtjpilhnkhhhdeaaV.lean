import Derived.Test.YtjpilhnkhhhdeaaM
namespace Go.Proofs.Ytjpilhnkhhhdeaa
open Go.RowKit
set_option linter.unusedVariables false

theorem wd_sg (x : Nat) (h : x < 4294967296) : wd (sg x) = x := by
  have := sg_mod x h
  unfold wd
  omega

set_option maxHeartbeats 2000000 in
theorem moved_13 (x0 y0 : Nat) (w : World) (hx : x0 < 4294967296) (hy : y0 < 4294967296) : Calls Try.prog 24 #[.int .i64 13, .int .u32 x0, .int .u32 y0] w fun e w' => e = .returned (.int .u32 (res 13 x0 y0 : Nat)) ∧ w' = w := by
  go_enter Try.func24, Try.ntmps24
  go_wp2
  go_loop [1, 7] (fun x n => ∃ x' n' : Nat, x' < 4294967296 ∧ n' < 32 ∧ Hid (x' * 2 ^ n' % 4294967296 = x0 * 2 ^ (y0 % 32) % 4294967296) ∧ x = .int .u32 x' ∧ n = .int .u32 n') (fun x n => (intOf n).toNat)
  case atStart => exact ⟨x0, y0 % 32, hx, by omega, rfl, rfl, by go_num⟩
  case round =>
    obtain ⟨x, n, hxx, hn, HE, rfl, rfl⟩ := hrel
    by_cases h0 : 0 < (n : Int)
    · obtain ⟨m, rfl⟩ : ∃ m, n = m + 1 := ⟨n - 1, by omega⟩
      have HX : Hid (∀ w, Calls _ _ _ w _) := fun w => bit_any x 31 w hxx (by omega)
      revert HX
      generalize x / 2 ^ 31 % 2 = hb
      intro HX
      go_wp2_with fail
      refine (HX.out _).mono ?_
      rintro e w1 ⟨rfl, hw⟩
      obtain rfl := hw.symm
      clear hw
      go_wp2_with fail
      refine (word_pos (2 * (x : Int)) _ (by omega) (by omega)).mono ?_
      rintro e w1 ⟨rfl, hw⟩
      obtain rfl := hw.symm
      clear hw
      have hl := wd_lt (2 * (x : Int))
      have HW : Hid (wd (2 * (x : Int)) = 2 * x % 4294967296) := by show _ = _; rw [← wd_nat]; push_cast; rfl
      revert hl HW
      generalize wd (2 * (x : Int)) = x2
      intro hl HW
      go_wp2_with fail
      go_round
      case rel =>
        refine ⟨x2, m, hl, by omega, ?_, rfl, by go_num⟩
        show _ = _
        rw [HW.out, shl_step]
        exact HE.out
      case measure => simp [intOf]
    · obtain rfl : n = 0 := by omega
      have HQ : Hid (x = res 13 x0 y0) := by
        have h := HE.out
        show x = wd ((x0 : Int) * 2 ^ (y0 % 32))
        have e : ((x0 : Int) * 2 ^ (y0 % 32)) = ((x0 * 2 ^ (y0 % 32) : Nat) : Int) := by push_cast; rfl
        rw [e, wd_nat, ← h, Nat.pow_zero, Nat.mul_one]
        omega
      clear HE
      go_wp2_with fail
      go_ret
      exact ⟨ret_int (by rw [← HQ.out]), rfl⟩

set_option maxHeartbeats 2000000 in
theorem moved_14 (x0 y0 : Nat) (w : World) (hx : x0 < 4294967296) (hy : y0 < 4294967296) : Calls Try.prog 24 #[.int .i64 14, .int .u32 x0, .int .u32 y0] w fun e w' => e = .returned (.int .u32 (res 14 x0 y0 : Nat)) ∧ w' = w := by
  go_enter Try.func24, Try.ntmps24
  go_wp2
  go_loop [1, 7] (fun x n => ∃ x' n' : Nat, x' < 4294967296 ∧ n' < 32 ∧ Hid (x' / 2 ^ n' = x0 / 2 ^ (y0 % 32)) ∧ x = .int .u32 x' ∧ n = .int .u32 n') (fun x n => (intOf n).toNat)
  case atStart => exact ⟨x0, y0 % 32, hx, by omega, rfl, rfl, by go_num⟩
  case round =>
    obtain ⟨x, n, hxx, hn, HE, rfl, rfl⟩ := hrel
    by_cases h0 : 0 < (n : Int)
    · obtain ⟨m, rfl⟩ : ∃ m, n = m + 1 := ⟨n - 1, by omega⟩
      have HX : Hid (∀ w, Calls _ _ _ w _) := fun w => bit_any x 31 w hxx (by omega)
      revert HX
      generalize x / 2 ^ 31 % 2 = hb
      intro HX
      go_wp2_with fail
      refine (HX.out _).mono ?_
      rintro e w1 ⟨rfl, hw⟩
      obtain rfl := hw.symm
      clear hw
      go_wp2_with fail
      go_round
      case rel =>
        refine ⟨x / 2, m, by omega, by omega, ?_, by go_num, by go_num⟩
        show _ = _
        rw [shr_step]
        exact HE.out
      case measure => simp [intOf]
    · obtain rfl : n = 0 := by omega
      have HQ : Hid (x = res 14 x0 y0) := by
        have h := HE.out
        show x = x0 / 2 ^ (y0 % 32)
        rw [← h, Nat.pow_zero, Nat.div_one]
      clear HE
      go_wp2_with fail
      go_ret
      exact ⟨ret_int (by rw [← HQ.out]), rfl⟩

set_option maxHeartbeats 2000000 in
theorem moved_15 (x0 y0 : Nat) (w : World) (hx : x0 < 4294967296) (hy : y0 < 4294967296) : Calls Try.prog 24 #[.int .i64 15, .int .u32 x0, .int .u32 y0] w fun e w' => e = .returned (.int .u32 (res 15 x0 y0 : Nat)) ∧ w' = w := by
  go_enter Try.func24, Try.ntmps24
  go_wp2
  go_loop [1, 7] (fun x n => ∃ x' n' : Nat, x' < 4294967296 ∧ n' < 32 ∧ Hid (sg x' / 2 ^ n' = sg x0 / 2 ^ (y0 % 32)) ∧ x = .int .u32 x' ∧ n = .int .u32 n') (fun x n => (intOf n).toNat)
  case atStart => exact ⟨x0, y0 % 32, hx, by omega, rfl, rfl, by go_num⟩
  case round =>
    obtain ⟨x, n, hxx, hn, HE, rfl, rfl⟩ := hrel
    by_cases h0 : 0 < (n : Int)
    · obtain ⟨m, rfl⟩ : ∃ m, n = m + 1 := ⟨n - 1, by omega⟩
      have HX : Hid (∀ w, Calls _ _ _ w _) := fun w => bit_any x 31 w hxx (by omega)
      have hb := high_bit x hxx
      by_cases hh : 2147483648 ≤ x
      · rw [if_pos hh] at hb
        rw [show x / 2 ^ 31 % 2 = 1 from hb] at HX
        clear hb
        go_wp2_with fail
        refine (HX.out _).mono ?_
        rintro e w1 ⟨rfl, hw⟩
        obtain rfl := hw.symm
        clear hw
        go_wp2_with fail
        go_round
        case rel =>
          refine ⟨x / 2 + 2147483648, m, by omega, by omega, ?_, by go_num, by go_num⟩
          show _ = _
          rw [sar_high x hxx hh, sar_step]
          exact HE.out
        case measure => simp [intOf]
      · rw [if_neg hh] at hb
        rw [show x / 2 ^ 31 % 2 = 0 from hb] at HX
        clear hb
        go_wp2_with fail
        refine (HX.out _).mono ?_
        rintro e w1 ⟨rfl, hw⟩
        obtain rfl := hw.symm
        clear hw
        go_wp2_with fail
        go_round
        case rel =>
          refine ⟨x / 2, m, by omega, by omega, ?_, by go_num, by go_num⟩
          show _ = _
          rw [sar_low x hh, sar_step]
          exact HE.out
        case measure => simp [intOf]
    · obtain rfl : n = 0 := by omega
      have HQ : Hid (x = res 15 x0 y0) := by
        have h := HE.out
        show x = wd (sg x0 / 2 ^ (y0 % 32))
        rw [← h, Int.pow_zero, Int.ediv_one, wd_sg x hxx]
      clear HE
      go_wp2_with fail
      go_ret
      exact ⟨ret_int (by rw [← HQ.out]), rfl⟩
end Go.Proofs.Ytjpilhnkhhhdeaa
