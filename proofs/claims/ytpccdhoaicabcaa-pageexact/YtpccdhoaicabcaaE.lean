import Derived.Test.YtpccdhoaicabcaaC
import Derived.Test.YtpccdhoaicabcaaPg
import Derived.Handy
namespace Go.Proofs.Ytpccdhoaicabcaa
open Go.RowKit
set_option linter.unusedVariables false

/-- Is it one of the first so many? -/
def inR (n m : Int) : Bool := decide (0 ≤ n) && decide (n < m)
theorem inR_true {n m : Int} (h1 : 0 ≤ n) (h2 : n < m) : inR n m = true := by simp [inR, h1, h2]
theorem inR_false {n m : Int} (h : ¬ (0 ≤ n ∧ n < m)) : inR n m = false := by
  rw [Bool.eq_false_iff]; intro e; simp [inR] at e; exact h e
theorem inR_iff {n m : Int} : inR n m = true ↔ 0 ≤ n ∧ n < m := by simp [inR]

theorem ret_two {k k' : IntKind} {a b c d : Int} (h : a = b) (h' : c = d) : Ending.returned (.tuple #[.int k a, .int k' c]) = .returned (.tuple #[.int k b, .int k' d]) := by rw [h, h']
theorem ret_three {k k' : IntKind} {a b c d : Int} {x y : Bool} (h : a = b) (h' : c = d) (h'' : x = y) : Ending.returned (.tuple #[.int k a, .int k' c, .bool x]) = .returned (.tuple #[.int k b, .int k' d, .bool y]) := by rw [h, h', h'']

set_option maxHeartbeats 400000 in
theorem within_any (n m : Int) (w : World) : Calls Try.prog 40 #[.int .i64 n, .int .i64 m] w fun e w' => e = .returned (.bool (inR n m)) ∧ w' = w := by
  by_cases h1 : 0 ≤ n <;> by_cases h2 : n < m
  all_goals
    go_enter Try.func40, Try.ntmps40
    go_wp2
    go_ret
    exact ⟨ret_bool (by simp [inR, h1, h2]), rfl⟩

set_option maxHeartbeats 400000 in
theorem rights_any (n : Int) (w : World) : Calls Try.prog 42 #[.int .i64 n] w fun e w' => e = .returned (.bool (inR n 8)) ∧ w' = w := by
  have HC : Hid (Calls _ _ _ _ _) := within_any n 8 w
  go_enter Try.func42, Try.ntmps42
  go_wp2_with fail
  refine HC.out.mono ?_
  rintro e w1 ⟨rfl, hw⟩
  obtain rfl := hw.symm
  clear hw
  go_wp2
  go_ret
  exact ⟨rfl, rfl⟩

theorem or_int (f r : Nat) (hf : f < 1024) (hr : r < 8) : bits .or .u32 (bits .or .u32 2147483648 ((f : Int) * 8)) (r : Int) = ((enc f r).toNat : Int) := by
  have e1 : (f : Int) * (8 : Int) = ((f <<< 3 : Nat) : Int) := by rw [Nat.shiftLeft_eq]; omega
  have e2 : (2147483648 : Int) = ((2147483648 : Nat) : Int) := rfl
  have hs : f <<< 3 < 4294967296 := by rw [Nat.shiftLeft_eq]; omega
  have ho : 2147483648 ||| f <<< 3 < 4294967296 := Nat.or_lt_two_pow (n := 32) (by decide) hs
  rw [show ((f : Int) * (8 : Int)) = ((f <<< 3 : Nat) : Int) from e1, e2, u32_or_nat _ _ (by omega) hs, u32_or_nat _ _ ho (by omega), or_shape f r hf hr, enc_nat f r hf hr]

set_option maxHeartbeats 400000 in
theorem encode_in (f r : Nat) (w : World) (hf : f < 1024) (hr : r < 8) : Calls Try.prog 18 #[.int .i64 f, .int .i64 r] w fun e w' => e = .returned (.tuple #[.int .u32 ((enc f r).toNat : Int), .int .i64 0]) ∧ w' = w := by
  have HC := within_any f 1024 w
  have HD := rights_any r w
  rw [inR_true (by omega) (by omega)] at HC HD
  have HC : Hid (Calls _ _ _ _ _) := HC
  have HD : Hid (Calls _ _ _ _ _) := HD
  go_enter Try.func18, Try.ntmps18
  go_wp2_with fail
  refine HC.out.mono ?_
  rintro e w1 ⟨rfl, hw⟩
  obtain rfl := hw.symm
  clear hw HC
  go_wp2_with fail
  refine HD.out.mono ?_
  rintro e w1 ⟨rfl, hw⟩
  obtain rfl := hw.symm
  clear hw HD
  go_wp2
  go_ret2
  exact ⟨ret_two (or_int f r hf hr) rfl, rfl⟩

set_option maxHeartbeats 400000 in
theorem encode_out (f r : Int) (w : World) (h : ¬ ((0 ≤ f ∧ f < 1024) ∧ 0 ≤ r ∧ r < 8)) : Calls Try.prog 18 #[.int .i64 f, .int .i64 r] w fun e w' => e = .returned (.tuple #[.int .u32 0, .int .i64 90]) ∧ w' = w := by
  have HC := within_any f 1024 w
  have HD := rights_any r w
  by_cases h1 : 0 ≤ f ∧ f < 1024
  · rw [inR_true h1.1 h1.2] at HC
    rw [inR_false (fun h2 => h ⟨h1, h2⟩)] at HD
    have HC : Hid (Calls _ _ _ _ _) := HC
    have HD : Hid (Calls _ _ _ _ _) := HD
    clear h h1
    go_enter Try.func18, Try.ntmps18
    go_wp2_with fail
    refine HC.out.mono ?_
    rintro e w1 ⟨rfl, hw⟩
    obtain rfl := hw.symm
    clear hw HC
    go_wp2_with fail
    refine HD.out.mono ?_
    rintro e w1 ⟨rfl, hw⟩
    obtain rfl := hw.symm
    clear hw HD
    go_wp2
    go_ret2
    exact ⟨rfl, rfl⟩
  · rw [inR_false h1] at HC
    have HC : Hid (Calls _ _ _ _ _) := HC
    clear h h1 HD
    go_enter Try.func18, Try.ntmps18
    go_wp2_with fail
    refine HC.out.mono ?_
    rintro e w1 ⟨rfl, hw⟩
    obtain rfl := hw.symm
    clear hw HC
    go_wp2
    go_ret2
    exact ⟨rfl, rfl⟩

theorem and_int (x : Nat) (h : x < 4294967296) : bits .and .u32 (x : Int) 2147483648 = if isT x then 2147483648 else 0 := by
  have e2 : (2147483648 : Int) = ((2147483648 : Nat) : Int) := rfl
  rw [e2, u32_and_nat _ _ h (by omega), and_top x h]
  split <;> rfl
theorem and_int7 (x : Nat) (h : x < 4294967296) : bits .and .u32 (x : Int) 7 = ((x % 8 : Nat) : Int) := by
  have e2 : (7 : Int) = ((2 ^ 3 - 1 : Nat) : Int) := rfl
  rw [e2, u32_and_nat _ _ h (by omega), Nat.and_two_pow_sub_one_eq_mod]
theorem and_int1023 (x : Nat) (h : x < 4294967296) : bits .and .u32 ((x : Int) / 8) 1023 = ((x / 8 % 1024 : Nat) : Int) := by
  have e2 : (1023 : Int) = ((2 ^ 10 - 1 : Nat) : Int) := rfl
  have e3 : (x : Int) / 8 = ((x / 8 : Nat) : Int) := by omega
  rw [e2, e3, u32_and_nat _ _ (by omega) (by omega), Nat.and_two_pow_sub_one_eq_mod]

set_option maxHeartbeats 400000 in
theorem decode_any (x : Nat) (w : World) (hx : x < 4294967296) : Calls Try.prog 19 #[.int .u32 x] w fun e w' => e = .returned (.tuple #[.int .i64 (frm x : Nat), .int .i64 (rts x : Nat), .bool (isT x)]) ∧ w' = w := by
  have h1 := and_int x hx
  by_cases ht : isT x = true
  · have h2 : (bits .and .u32 (x : Int) 2147483648 == 0) = false := by rw [h1, if_pos ht]; rfl
    have h3 := and_int7 x hx
    have h4 := and_int1023 x hx
    rw [show frm x = x / 8 % 1024 from if_pos ht, show rts x = x % 8 from if_pos ht, ht]
    have H3 : Hid (_ = _) := h3
    have H4 : Hid (_ = _) := h4
    clear h1 ht h3 h4
    go_enter Try.func19, Try.ntmps19
    go_wp2
    go_ret3
    exact ⟨ret_three (by rw [H4.out]; go_arith) (by rw [H3.out]; go_arith) rfl, rfl⟩
  · have h2 : (bits .and .u32 (x : Int) 2147483648 == 0) = true := by rw [h1, if_neg ht]; rfl
    rw [show frm x = 0 from if_neg ht, show rts x = 0 from if_neg ht, Bool.eq_false_iff.2 ht]
    clear h1 ht
    go_enter Try.func19, Try.ntmps19
    go_wp2
    go_ret3
    exact ⟨rfl, rfl⟩

set_option maxRecDepth 20000 in
set_option maxHeartbeats 400000 in
theorem rencode_in (f r : Nat) (w : World) (hf : f < 1024) (hr : r < 8) : Calls Try.prog 44 #[.int .i64 f, .int .i64 r] w fun e w' => e = .returned (.tuple #[.int .u32 ((enc f r).toNat : Int), .int .i64 0]) ∧ w' = w := by
  have HE : Hid (_ = _) := enc_nat f r hf hr
  have h1 : (f : Int) < 1024 := by omega
  have h2 : (r : Int) ≤ 7 := by omega
  clear hf hr
  go_enter Try.func44, Try.ntmps44
  go_wp2
  go_ret2
  exact ⟨ret_two (by rw [HE.out]; omega) rfl, rfl⟩

set_option maxHeartbeats 800000 in
theorem rencode_out (f r : Int) (w : World) (h : ¬ ((0 ≤ f ∧ f < 1024) ∧ 0 ≤ r ∧ r < 8)) : Calls Try.prog 44 #[.int .i64 f, .int .i64 r] w fun e w' => e = .returned (.tuple #[.int .u32 0, .int .i64 90]) ∧ w' = w := by
  by_cases h1 : f < 0
  · clear h
    go_enter Try.func44, Try.ntmps44
    go_wp2
    go_ret2
    exact ⟨rfl, rfl⟩
  · by_cases h2 : 1024 ≤ f
    · clear h
      go_enter Try.func44, Try.ntmps44
      go_wp2
      go_ret2
      exact ⟨rfl, rfl⟩
    · by_cases h3 : r < 0
      · clear h
        go_enter Try.func44, Try.ntmps44
        go_wp2
        go_ret2
        exact ⟨rfl, rfl⟩
      · have h4 : 7 < r := by omega
        clear h
        go_enter Try.func44, Try.ntmps44
        go_wp2
        go_ret2
        exact ⟨rfl, rfl⟩

set_option maxRecDepth 20000 in
set_option maxHeartbeats 400000 in
theorem rdecode_any (x : Nat) (w : World) (hx : x < 4294967296) : Calls Try.prog 45 #[.int .u32 x] w fun e w' => e = .returned (.tuple #[.int .i64 (frm x : Nat), .int .i64 (rts x : Nat), .bool (isT x)]) ∧ w' = w := by
  by_cases ht : isT x = true
  · rw [show frm x = x / 8 % 1024 from if_pos ht, show rts x = x % 8 from if_pos ht, ht]
    have h2 : (2147483648 : Int) ≤ x := by unfold isT at ht; simp at ht; omega
    have g2 : decide ((x : Int) < 2147483648) = false := decide_eq_false (by omega)
    have H3 : Hid (True ∧ (x : Int) < 4294967296) := ⟨trivial, by omega⟩
    clear ht hx h2
    go_enter Try.func45, Try.ntmps45
    go_wp2
    go_ret3
    exact ⟨ret_three (by have := H3.out.2; go_arith) (by have := H3.out.2; go_arith) rfl, rfl⟩
  · rw [show frm x = 0 from if_neg ht, show rts x = 0 from if_neg ht, Bool.eq_false_iff.2 ht]
    have h2 : (x : Int) < 2147483648 := by unfold isT at ht; simp at ht; omega
    clear ht hx
    go_enter Try.func45, Try.ntmps45
    go_wp2
    go_ret3
    exact ⟨rfl, rfl⟩

end Go.Proofs.Ytpccdhoaicabcaa
