import Derived.Test.YtipejahmjdamjaaGreatDoorC
import Derived.Test.YtipejahmjdamjaaGreatDoorPg
import Derived.Handy
namespace Go.Proofs.YtipejahmjdamjaaGreatDoor
open Go.RowKit
set_option linter.unusedVariables false

/-- Is it one of the first so many? -/
def inR (n m : Int) : Bool := decide (0 ≤ n) && decide (n < m)
theorem inR_true {n m : Int} (h1 : 0 ≤ n) (h2 : n < m) : inR n m = true := by simp [inR, h1, h2]
theorem inR_false {n m : Int} (h : ¬ (0 ≤ n ∧ n < m)) : inR n m = false := by
  rw [Bool.eq_false_iff]; intro e; simp [inR] at e; exact h e
theorem inR_iff {n m : Int} : inR n m = true ↔ 0 ≤ n ∧ n < m := by simp [inR]

theorem ret_two {k k' : IntKind} {a b c d : Int} (h : a = b) (h' : c = d) : Ending.returned (.tuple #[.int k a, .int k' c]) = .returned (.tuple #[.int k b, .int k' d]) := by rw [h, h']
theorem ret_three {k k' : IntKind} {a b c d : Int} {x y : Bool} (h : a = b) (h' : c = d) (h'' : x = y) : Ending.returned (.tuple #[.int k a, .int k' c, .bool x]) = .returned (.tuple #[.int k b, .int k' d, .bool y]) := by rw [h, h', h'']

set_option maxHeartbeats 400000 in
theorem within_any (n m : Int) (w : World) : Calls Tryz.prog 65 #[.int .i64 n, .int .i64 m] w fun e w' => e = .returned (.bool (inR n m)) ∧ w' = w := by
  by_cases h1 : 0 ≤ n <;> by_cases h2 : n < m
  all_goals
    go_enter Tryz.func65, Tryz.ntmps65
    go_wp2
    go_ret
    exact ⟨ret_bool (by simp [inR, h1, h2]), rfl⟩

set_option maxHeartbeats 400000 in
theorem rights_any (n : Int) (w : World) : Calls Tryz.prog 67 #[.int .i64 n] w fun e w' => e = .returned (.bool (inR n 8)) ∧ w' = w := by
  have HC : Hid (Calls _ _ _ _ _) := within_any n 8 w
  go_enter Tryz.func67, Tryz.ntmps67
  go_wp2_with fail
  refine HC.out.mono ?_
  rintro e w1 ⟨rfl, hw⟩
  obtain rfl := hw.symm
  clear hw
  go_wp2
  go_ret
  exact ⟨rfl, rfl⟩

theorem or_int (f r : Nat) (hf : f < 1024) (hr : r < 8) : bits .or .u32 (bits .or .u32 2147483648 ((f : Int) * 8)) (r : Int) = ((enc f r).toNat : Int) := by
  have e1 : (f : Int) * (8 : Int) = ((f <<< 3 : Nat) : Int) := by rw [Nat.shiftLeft_eq]; omega
  have e2 : (2147483648 : Int) = ((2147483648 : Nat) : Int) := rfl
  have hs : f <<< 3 < 4294967296 := by rw [Nat.shiftLeft_eq]; omega
  have ho : 2147483648 ||| f <<< 3 < 4294967296 := Nat.or_lt_two_pow (n := 32) (by decide) hs
  rw [show ((f : Int) * (8 : Int)) = ((f <<< 3 : Nat) : Int) from e1, e2, u32_or_nat _ _ (by omega) hs, u32_or_nat _ _ ho (by omega), or_shape f r hf hr, enc_nat f r hf hr]

theorem and_int (x : Nat) (h : x < 4294967296) : bits .and .u32 (x : Int) 2147483648 = if isT x then 2147483648 else 0 := by
  have e2 : (2147483648 : Int) = ((2147483648 : Nat) : Int) := rfl
  rw [e2, u32_and_nat _ _ h (by omega), and_top x h]
  split <;> rfl
theorem and_int7 (x : Nat) (h : x < 4294967296) : bits .and .u32 (x : Int) 7 = ((x % 8 : Nat) : Int) := by
  have e2 : (7 : Int) = ((2 ^ 3 - 1 : Nat) : Int) := rfl
  rw [e2, u32_and_nat _ _ h (by omega), Nat.and_two_pow_sub_one_eq_mod]
theorem and_int1023 (x : Nat) (h : x < 4294967296) : bits .and .u32 ((x : Int) / 8) 1023 = ((x / 8 % 1024 : Nat) : Int) := by
  have e2 : (1023 : Int) = ((2 ^ 10 - 1 : Nat) : Int) := rfl
  have e3 : (x : Int) / 8 = ((x / 8 : Nat) : Int) := by omega
  rw [e2, e3, u32_and_nat _ _ (by omega) (by omega), Nat.and_two_pow_sub_one_eq_mod]

set_option maxHeartbeats 400000 in
theorem decode_any (x : Nat) (w : World) (hx : x < 4294967296) : Calls Tryz.prog 37 #[.int .u32 x] w fun e w' => e = .returned (.tuple #[.int .i64 (frm x : Nat), .int .i64 (rts x : Nat), .bool (isT x)]) ∧ w' = w := by
  have h1 := and_int x hx
  by_cases ht : isT x = true
  · have h2 : (bits .and .u32 (x : Int) 2147483648 == 0) = false := by rw [h1, if_pos ht]; rfl
    have h3 := and_int7 x hx
    have h4 := and_int1023 x hx
    rw [show frm x = x / 8 % 1024 from if_pos ht, show rts x = x % 8 from if_pos ht, ht]
    have H3 : Hid (_ = _) := h3
    have H4 : Hid (_ = _) := h4
    clear h1 ht h3 h4
    go_enter Tryz.func37, Tryz.ntmps37
    go_wp2
    go_ret3
    exact ⟨ret_three (by rw [H4.out]; go_arith) (by rw [H3.out]; go_arith) rfl, rfl⟩
  · have h2 : (bits .and .u32 (x : Int) 2147483648 == 0) = true := by rw [h1, if_neg ht]; rfl
    rw [show frm x = 0 from if_neg ht, show rts x = 0 from if_neg ht, Bool.eq_false_iff.2 ht]
    clear h1 ht
    go_enter Tryz.func37, Tryz.ntmps37
    go_wp2
    go_ret3
    exact ⟨rfl, rfl⟩

end Go.Proofs.YtipejahmjdamjaaGreatDoor
