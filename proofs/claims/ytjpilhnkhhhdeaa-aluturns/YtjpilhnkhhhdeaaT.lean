import Derived.Test.YtjpilhnkhhhdeaaR
namespace Go.Proofs.Ytjpilhnkhhhdeaa
open Go.RowKit
set_option linter.unusedVariables false

theorem wd_nat (n : Nat) : wd (n : Int) = n % 4294967296 := by unfold wd; omega
theorem wd_mul (x y : Nat) : wd ((x : Int) * y) = x * y % 4294967296 := by rw [← wd_nat]; push_cast; rfl

set_option maxHeartbeats 1000000 in
theorem times_any (x0 y0 : Nat) (w : World) (hx : x0 < 4294967296) (hy : y0 < 4294967296) : Calls Try.prog 21 #[.int .u32 x0, .int .u32 y0] w fun e w' => e = .returned (.int .u32 (res 7 x0 y0 : Nat)) ∧ w' = w := by
  go_enter Try.func21, Try.ntmps21
  go_wp2
  go_loop [5, 0, 1] (fun n x y => ∃ n' x' y' : Nat, n' < 4294967296 ∧ x' < 4294967296 ∧ y' < 4294967296 ∧ Hid ((n' + x' * y') % 4294967296 = x0 * y0 % 4294967296) ∧ n = .int .i64 n' ∧ x = .int .u32 x' ∧ y = .int .u32 y') (fun n x y => (intOf y).toNat)
  case atStart => exact ⟨0, x0, y0, by omega, hx, hy, by show _ = _; rw [Nat.zero_add], rfl, rfl, rfl⟩
  case round =>
    obtain ⟨n, x, y, hn, hxx, hyy, HE, rfl, rfl, rfl⟩ := hrel
    by_cases h0 : 0 < (y : Int)
    · by_cases h1 : y % 2 = 1
      · have h1' : ((y : Int) % 2 == 1) = true := by
          have : (y : Int) % 2 = 1 := by omega
          rw [this]; rfl
        have HY : Hid (y % 2 = 1) := h1
        clear h1
        go_wp2_with fail
        refine (word_pos (2 * (x : Int)) _ (by omega) (by omega)).mono ?_
        rintro e w1 ⟨rfl, hw⟩
        obtain rfl := hw.symm
        clear hw
        have hl := wd_lt (2 * (x : Int))
        have HW : Hid (wd (2 * (x : Int)) = 2 * x % 4294967296) := by show _ = _; rw [← wd_nat]; push_cast; rfl
        revert hl HW
        generalize wd (2 * (x : Int)) = x2
        intro hl HW
        go_wp2_with fail
        go_round
        case rel =>
          refine ⟨(n + x) % 4294967296, x2, y / 2, by omega, hl, by omega, ?_, by go_num, rfl, by go_num⟩
          have := times_odd n x y HY.out
          rw [HW.out, this]
          exact HE.out
        case measure => simp [intOf]; omega
      · have h1' : ((y : Int) % 2 == 1) = false := by
          have : (y : Int) % 2 = 0 := by omega
          rw [this]; rfl
        have HY : Hid (y % 2 = 0) := by show _ = _; omega
        clear h1
        go_wp2_with fail
        refine (word_pos (2 * (x : Int)) _ (by omega) (by omega)).mono ?_
        rintro e w1 ⟨rfl, hw⟩
        obtain rfl := hw.symm
        clear hw
        have hl := wd_lt (2 * (x : Int))
        have HW : Hid (wd (2 * (x : Int)) = 2 * x % 4294967296) := by show _ = _; rw [← wd_nat]; push_cast; rfl
        revert hl HW
        generalize wd (2 * (x : Int)) = x2
        intro hl HW
        go_wp2_with fail
        go_round
        case rel =>
          refine ⟨n, x2, y / 2, by omega, hl, by omega, ?_, rfl, rfl, by go_num⟩
          have := times_even n x y HY.out
          rw [HW.out, this]
          exact HE.out
        case measure => simp [intOf]; omega
    · obtain rfl : y = 0 := by omega
      have HR : Hid ((n : Int) = (res 7 x0 y0 : Nat)) := by
        have h := HE.out
        show (n : Int) = (wd ((x0 : Int) * y0) : Nat)
        rw [wd_mul, ← h]
        omega
      go_wp2_with fail
      go_ret
      exact ⟨ret_int HR.out, rfl⟩
end Go.Proofs.Ytjpilhnkhhhdeaa
