import Derived.Test.YtjpilhnkhhhdeaaLawC
namespace Go.Proofs.Ytjpilhnkhhhdeaa
open Go.RowKit
set_option linter.unusedVariables false

/-- What a branch answers. -/
def Took (k : Int) (x y : Nat) (b : Bool) : Prop := Hid (∀ w : World, Calls Try.prog 13 #[.int .i64 k, .int .u32 x, .int .u32 y] w fun e w' => e = .returned (.tuple #[.bool b, .int .i64 0]) ∧ w' = w)
theorem took_of (k : Int) (x y : Nat) (b : Bool) (hx : x < 4294967296) (hy : y < 4294967296) (h1 : 21 ≤ k) (h2 : k ≤ 25) (hb : takeV k x y = b) : Took k x y b := by
  subst hb
  exact fun w => takes_yes k x y w hx hy ((isBr_iff k).2 ⟨h1, h2⟩)

set_option maxHeartbeats 400000 in
theorem branched_000 (x y : Nat) (w : World) (C1 : Took 23 x y false) (C2 : Took 24 x y true) (C3 : Took 25 x y false) (C4 : Took 21 x y true) (C5 : Took 22 x y false) : Calls Try.prog 18 #[.int .u32 x, .int .u32 y, .int .u32 0, .int .u32 0, .int .u32 0] w fun e w' => e = .returned (.bool true) ∧ w' = w := by
  unfold Took at *
  go_enter Try.func18, Try.ntmps18
  go_wp2_with fail
  refine (C1.out _).mono ?_
  rintro e w1 ⟨rfl, hw⟩
  obtain rfl := hw.symm
  clear hw
  go_wp2_with fail
  refine (C2.out _).mono ?_
  rintro e w1 ⟨rfl, hw⟩
  obtain rfl := hw.symm
  clear hw
  go_wp2_with fail
  refine (C3.out _).mono ?_
  rintro e w1 ⟨rfl, hw⟩
  obtain rfl := hw.symm
  clear hw
  go_wp2_with fail
  refine (C4.out _).mono ?_
  rintro e w1 ⟨rfl, hw⟩
  obtain rfl := hw.symm
  clear hw
  go_wp2_with fail
  refine (C5.out _).mono ?_
  rintro e w1 ⟨rfl, hw⟩
  obtain rfl := hw.symm
  clear hw
  go_wp2_with fail
  go_ret
  exact ⟨rfl, rfl⟩

set_option maxHeartbeats 400000 in
theorem branched_001 (x y : Nat) (w : World) (C1 : Took 23 x y false) (C2 : Took 24 x y true) (C3 : Took 25 x y false) (C4 : Took 21 x y false) (C5 : Took 22 x y true) : Calls Try.prog 18 #[.int .u32 x, .int .u32 y, .int .u32 0, .int .u32 0, .int .u32 1] w fun e w' => e = .returned (.bool true) ∧ w' = w := by
  unfold Took at *
  go_enter Try.func18, Try.ntmps18
  go_wp2_with fail
  refine (C1.out _).mono ?_
  rintro e w1 ⟨rfl, hw⟩
  obtain rfl := hw.symm
  clear hw
  go_wp2_with fail
  refine (C2.out _).mono ?_
  rintro e w1 ⟨rfl, hw⟩
  obtain rfl := hw.symm
  clear hw
  go_wp2_with fail
  refine (C3.out _).mono ?_
  rintro e w1 ⟨rfl, hw⟩
  obtain rfl := hw.symm
  clear hw
  go_wp2_with fail
  refine (C4.out _).mono ?_
  rintro e w1 ⟨rfl, hw⟩
  obtain rfl := hw.symm
  clear hw
  go_wp2_with fail
  refine (C5.out _).mono ?_
  rintro e w1 ⟨rfl, hw⟩
  obtain rfl := hw.symm
  clear hw
  go_wp2_with fail
  go_ret
  exact ⟨rfl, rfl⟩

set_option maxHeartbeats 400000 in
theorem branched_010 (x y : Nat) (w : World) (C1 : Took 23 x y false) (C2 : Took 24 x y true) (C3 : Took 25 x y true) (C4 : Took 21 x y true) (C5 : Took 22 x y false) : Calls Try.prog 18 #[.int .u32 x, .int .u32 y, .int .u32 0, .int .u32 1, .int .u32 0] w fun e w' => e = .returned (.bool true) ∧ w' = w := by
  unfold Took at *
  go_enter Try.func18, Try.ntmps18
  go_wp2_with fail
  refine (C1.out _).mono ?_
  rintro e w1 ⟨rfl, hw⟩
  obtain rfl := hw.symm
  clear hw
  go_wp2_with fail
  refine (C2.out _).mono ?_
  rintro e w1 ⟨rfl, hw⟩
  obtain rfl := hw.symm
  clear hw
  go_wp2_with fail
  refine (C3.out _).mono ?_
  rintro e w1 ⟨rfl, hw⟩
  obtain rfl := hw.symm
  clear hw
  go_wp2_with fail
  refine (C4.out _).mono ?_
  rintro e w1 ⟨rfl, hw⟩
  obtain rfl := hw.symm
  clear hw
  go_wp2_with fail
  refine (C5.out _).mono ?_
  rintro e w1 ⟨rfl, hw⟩
  obtain rfl := hw.symm
  clear hw
  go_wp2_with fail
  go_ret
  exact ⟨rfl, rfl⟩

set_option maxHeartbeats 400000 in
theorem branched_011 (x y : Nat) (w : World) (C1 : Took 23 x y false) (C2 : Took 24 x y true) (C3 : Took 25 x y true) (C4 : Took 21 x y false) (C5 : Took 22 x y true) : Calls Try.prog 18 #[.int .u32 x, .int .u32 y, .int .u32 0, .int .u32 1, .int .u32 1] w fun e w' => e = .returned (.bool true) ∧ w' = w := by
  unfold Took at *
  go_enter Try.func18, Try.ntmps18
  go_wp2_with fail
  refine (C1.out _).mono ?_
  rintro e w1 ⟨rfl, hw⟩
  obtain rfl := hw.symm
  clear hw
  go_wp2_with fail
  refine (C2.out _).mono ?_
  rintro e w1 ⟨rfl, hw⟩
  obtain rfl := hw.symm
  clear hw
  go_wp2_with fail
  refine (C3.out _).mono ?_
  rintro e w1 ⟨rfl, hw⟩
  obtain rfl := hw.symm
  clear hw
  go_wp2_with fail
  refine (C4.out _).mono ?_
  rintro e w1 ⟨rfl, hw⟩
  obtain rfl := hw.symm
  clear hw
  go_wp2_with fail
  refine (C5.out _).mono ?_
  rintro e w1 ⟨rfl, hw⟩
  obtain rfl := hw.symm
  clear hw
  go_wp2_with fail
  go_ret
  exact ⟨rfl, rfl⟩

set_option maxHeartbeats 400000 in
theorem branched_100 (x y : Nat) (w : World) (C1 : Took 23 x y true) (C2 : Took 24 x y false) (C3 : Took 25 x y false) (C4 : Took 21 x y true) (C5 : Took 22 x y false) : Calls Try.prog 18 #[.int .u32 x, .int .u32 y, .int .u32 1, .int .u32 0, .int .u32 0] w fun e w' => e = .returned (.bool true) ∧ w' = w := by
  unfold Took at *
  go_enter Try.func18, Try.ntmps18
  go_wp2_with fail
  refine (C1.out _).mono ?_
  rintro e w1 ⟨rfl, hw⟩
  obtain rfl := hw.symm
  clear hw
  go_wp2_with fail
  refine (C2.out _).mono ?_
  rintro e w1 ⟨rfl, hw⟩
  obtain rfl := hw.symm
  clear hw
  go_wp2_with fail
  refine (C3.out _).mono ?_
  rintro e w1 ⟨rfl, hw⟩
  obtain rfl := hw.symm
  clear hw
  go_wp2_with fail
  refine (C4.out _).mono ?_
  rintro e w1 ⟨rfl, hw⟩
  obtain rfl := hw.symm
  clear hw
  go_wp2_with fail
  refine (C5.out _).mono ?_
  rintro e w1 ⟨rfl, hw⟩
  obtain rfl := hw.symm
  clear hw
  go_wp2_with fail
  go_ret
  exact ⟨rfl, rfl⟩

set_option maxHeartbeats 400000 in
theorem branched_101 (x y : Nat) (w : World) (C1 : Took 23 x y true) (C2 : Took 24 x y false) (C3 : Took 25 x y false) (C4 : Took 21 x y false) (C5 : Took 22 x y true) : Calls Try.prog 18 #[.int .u32 x, .int .u32 y, .int .u32 1, .int .u32 0, .int .u32 1] w fun e w' => e = .returned (.bool true) ∧ w' = w := by
  unfold Took at *
  go_enter Try.func18, Try.ntmps18
  go_wp2_with fail
  refine (C1.out _).mono ?_
  rintro e w1 ⟨rfl, hw⟩
  obtain rfl := hw.symm
  clear hw
  go_wp2_with fail
  refine (C2.out _).mono ?_
  rintro e w1 ⟨rfl, hw⟩
  obtain rfl := hw.symm
  clear hw
  go_wp2_with fail
  refine (C3.out _).mono ?_
  rintro e w1 ⟨rfl, hw⟩
  obtain rfl := hw.symm
  clear hw
  go_wp2_with fail
  refine (C4.out _).mono ?_
  rintro e w1 ⟨rfl, hw⟩
  obtain rfl := hw.symm
  clear hw
  go_wp2_with fail
  refine (C5.out _).mono ?_
  rintro e w1 ⟨rfl, hw⟩
  obtain rfl := hw.symm
  clear hw
  go_wp2_with fail
  go_ret
  exact ⟨rfl, rfl⟩

set_option maxHeartbeats 400000 in
theorem branched_110 (x y : Nat) (w : World) (C1 : Took 23 x y true) (C2 : Took 24 x y false) (C3 : Took 25 x y true) (C4 : Took 21 x y true) (C5 : Took 22 x y false) : Calls Try.prog 18 #[.int .u32 x, .int .u32 y, .int .u32 1, .int .u32 1, .int .u32 0] w fun e w' => e = .returned (.bool true) ∧ w' = w := by
  unfold Took at *
  go_enter Try.func18, Try.ntmps18
  go_wp2_with fail
  refine (C1.out _).mono ?_
  rintro e w1 ⟨rfl, hw⟩
  obtain rfl := hw.symm
  clear hw
  go_wp2_with fail
  refine (C2.out _).mono ?_
  rintro e w1 ⟨rfl, hw⟩
  obtain rfl := hw.symm
  clear hw
  go_wp2_with fail
  refine (C3.out _).mono ?_
  rintro e w1 ⟨rfl, hw⟩
  obtain rfl := hw.symm
  clear hw
  go_wp2_with fail
  refine (C4.out _).mono ?_
  rintro e w1 ⟨rfl, hw⟩
  obtain rfl := hw.symm
  clear hw
  go_wp2_with fail
  refine (C5.out _).mono ?_
  rintro e w1 ⟨rfl, hw⟩
  obtain rfl := hw.symm
  clear hw
  go_wp2_with fail
  go_ret
  exact ⟨rfl, rfl⟩

set_option maxHeartbeats 400000 in
theorem branched_111 (x y : Nat) (w : World) (C1 : Took 23 x y true) (C2 : Took 24 x y false) (C3 : Took 25 x y true) (C4 : Took 21 x y false) (C5 : Took 22 x y true) : Calls Try.prog 18 #[.int .u32 x, .int .u32 y, .int .u32 1, .int .u32 1, .int .u32 1] w fun e w' => e = .returned (.bool true) ∧ w' = w := by
  unfold Took at *
  go_enter Try.func18, Try.ntmps18
  go_wp2_with fail
  refine (C1.out _).mono ?_
  rintro e w1 ⟨rfl, hw⟩
  obtain rfl := hw.symm
  clear hw
  go_wp2_with fail
  refine (C2.out _).mono ?_
  rintro e w1 ⟨rfl, hw⟩
  obtain rfl := hw.symm
  clear hw
  go_wp2_with fail
  refine (C3.out _).mono ?_
  rintro e w1 ⟨rfl, hw⟩
  obtain rfl := hw.symm
  clear hw
  go_wp2_with fail
  refine (C4.out _).mono ?_
  rintro e w1 ⟨rfl, hw⟩
  obtain rfl := hw.symm
  clear hw
  go_wp2_with fail
  refine (C5.out _).mono ?_
  rintro e w1 ⟨rfl, hw⟩
  obtain rfl := hw.symm
  clear hw
  go_wp2_with fail
  go_ret
  exact ⟨rfl, rfl⟩

theorem xor_top (x y : Nat) (hx : x < 4294967296) (hy : y < 4294967296) : (x ^^^ y) / 2147483648 = if x / 2147483648 + y / 2147483648 = 1 then 1 else 0 := by
  have h := bit_xor x y 31
  have hR := lt32_xor x y hx hy
  have e : (2 : Nat) ^ 31 = 2147483648 := by decide
  rw [e] at h
  rw [show x / 2147483648 % 2 = x / 2147483648 by omega, show y / 2147483648 % 2 = y / 2147483648 by omega, show (x ^^^ y) / 2147483648 % 2 = (x ^^^ y) / 2147483648 by omega] at h
  exact h


set_option maxHeartbeats 1000000 in
theorem orders_eq (x y : Nat) (w : World) (hx : x < 4294967296) (hy : y < 4294967296) (h : x = y) : Calls Try.prog 6 #[.int .u32 x, .int .u32 y] w fun e w' => e = .returned (.bool true) ∧ w' = w := by
  have sx : (¬ sg x < sg y) := by unfold sg; split <;> split <;> omega
  have sy : (¬ sg y < sg x) := by unfold sg; split <;> split <;> omega
  have hne : ((x : Int) == (y : Int)) = true := by rw [eq_cast]; simp; omega
  have hs : (bits .xor .u32 (x : Int) (y : Int) / 2147483648 == 1) = false := by
    rw [u32_xor_nat x y hx hy]
    have e := xor_top x y hx hy
    rw [if_neg (by omega)] at e
    have e' : ((x ^^^ y : Nat) : Int) / 2147483648 = ((x ^^^ y) / 2147483648 : Nat) := by generalize x ^^^ y = R; omega
    rw [e', e]
    rfl
  have C1 : Made 16 x y 0 := made_of 16 x y _ hx hy (by omega) (by omega) (by omega) (by show b2w (decide _) = _; simp [sx, b2w])
  have C2 : Made 16 y x 0 := made_of 16 y x _ hy hx (by omega) (by omega) (by omega) (by show b2w (decide _) = _; simp [sy, b2w])
  have C3 : Made 17 x y 0 := made_of 17 x y _ hx hy (by omega) (by omega) (by omega) (by show b2w (decide _) = _; have : ¬ x < y := (by omega); simp [this, b2w])
  have C4 : Made 17 y x 0 := made_of 17 y x _ hy hx (by omega) (by omega) (by omega) (by show b2w (decide _) = _; have : ¬ y < x := (by omega); simp [this, b2w])
  have HB : Hid (∀ w, Calls _ _ _ w _) := fun w => branched_000 x y w
    (took_of 23 x y _ hx hy (by omega) (by omega) (by show decide _ = _; simp [sx]))
    (took_of 24 x y _ hx hy (by omega) (by omega) (by show (!decide _) = _; simp [sx]))
    (took_of 25 x y _ hx hy (by omega) (by omega) (by show decide _ = _; simp; omega))
    (took_of 21 x y _ hx hy (by omega) (by omega) (by show (x == y) = _; simp; omega))
    (took_of 22 x y _ hx hy (by omega) (by omega) (by show (x != y) = _; simp; omega))
  clear h sx sy
  unfold Made at *
  go_enter Try.func6, Try.ntmps6
  go_wp2_with fail
  refine (C1.out _).mono ?_
  rintro e w1 ⟨rfl, hw⟩
  obtain rfl := hw.symm
  clear hw
  go_wp2_with fail
  refine (C2.out _).mono ?_
  rintro e w1 ⟨rfl, hw⟩
  obtain rfl := hw.symm
  clear hw
  go_wp2_with fail
  refine (C3.out _).mono ?_
  rintro e w1 ⟨rfl, hw⟩
  obtain rfl := hw.symm
  clear hw
  go_wp2_with fail
  refine (C4.out _).mono ?_
  rintro e w1 ⟨rfl, hw⟩
  obtain rfl := hw.symm
  clear hw
  go_wp2_with fail
  refine (HB.out _).mono ?_
  rintro e w1 ⟨rfl, hw⟩
  obtain rfl := hw.symm
  clear hw
  go_wp2_with fail
  go_ret
  exact ⟨rfl, rfl⟩

set_option maxHeartbeats 1000000 in
theorem orders_ls (x y : Nat) (w : World) (hx : x < 4294967296) (hy : y < 4294967296) (h : x < y ∧ (x / 2147483648 = y / 2147483648)) : Calls Try.prog 6 #[.int .u32 x, .int .u32 y] w fun e w' => e = .returned (.bool true) ∧ w' = w := by
  have sx : (sg x < sg y) := by unfold sg; split <;> split <;> omega
  have sy : (¬ sg y < sg x) := by unfold sg; split <;> split <;> omega
  have hne : ((x : Int) == (y : Int)) = false := by rw [eq_cast]; simp; omega
  have hs : (bits .xor .u32 (x : Int) (y : Int) / 2147483648 == 1) = false := by
    rw [u32_xor_nat x y hx hy]
    have e := xor_top x y hx hy
    rw [if_neg (by omega)] at e
    have e' : ((x ^^^ y : Nat) : Int) / 2147483648 = ((x ^^^ y) / 2147483648 : Nat) := by generalize x ^^^ y = R; omega
    rw [e', e]
    rfl
  have C1 : Made 16 x y 1 := made_of 16 x y _ hx hy (by omega) (by omega) (by omega) (by show b2w (decide _) = _; simp [sx, b2w])
  have C2 : Made 16 y x 0 := made_of 16 y x _ hy hx (by omega) (by omega) (by omega) (by show b2w (decide _) = _; simp [sy, b2w])
  have C3 : Made 17 x y 1 := made_of 17 x y _ hx hy (by omega) (by omega) (by omega) (by show b2w (decide _) = _; have : x < y := (by omega); simp [this, b2w])
  have C4 : Made 17 y x 0 := made_of 17 y x _ hy hx (by omega) (by omega) (by omega) (by show b2w (decide _) = _; have : ¬ y < x := (by omega); simp [this, b2w])
  have HB : Hid (∀ w, Calls _ _ _ w _) := fun w => branched_111 x y w
    (took_of 23 x y _ hx hy (by omega) (by omega) (by show decide _ = _; simp [sx]))
    (took_of 24 x y _ hx hy (by omega) (by omega) (by show (!decide _) = _; simp [sx]))
    (took_of 25 x y _ hx hy (by omega) (by omega) (by show decide _ = _; simp; omega))
    (took_of 21 x y _ hx hy (by omega) (by omega) (by show (x == y) = _; simp; omega))
    (took_of 22 x y _ hx hy (by omega) (by omega) (by show (x != y) = _; simp; omega))
  clear h sx sy
  unfold Made at *
  go_enter Try.func6, Try.ntmps6
  go_wp2_with fail
  refine (C1.out _).mono ?_
  rintro e w1 ⟨rfl, hw⟩
  obtain rfl := hw.symm
  clear hw
  go_wp2_with fail
  refine (C2.out _).mono ?_
  rintro e w1 ⟨rfl, hw⟩
  obtain rfl := hw.symm
  clear hw
  go_wp2_with fail
  refine (C3.out _).mono ?_
  rintro e w1 ⟨rfl, hw⟩
  obtain rfl := hw.symm
  clear hw
  go_wp2_with fail
  refine (C4.out _).mono ?_
  rintro e w1 ⟨rfl, hw⟩
  obtain rfl := hw.symm
  clear hw
  go_wp2_with fail
  refine (HB.out _).mono ?_
  rintro e w1 ⟨rfl, hw⟩
  obtain rfl := hw.symm
  clear hw
  go_wp2_with fail
  go_ret
  exact ⟨rfl, rfl⟩

set_option maxHeartbeats 1000000 in
theorem orders_ld (x y : Nat) (w : World) (hx : x < 4294967296) (hy : y < 4294967296) (h : x < y ∧ ¬ (x / 2147483648 = y / 2147483648)) : Calls Try.prog 6 #[.int .u32 x, .int .u32 y] w fun e w' => e = .returned (.bool true) ∧ w' = w := by
  have sx : (¬ sg x < sg y) := by unfold sg; split <;> split <;> omega
  have sy : (sg y < sg x) := by unfold sg; split <;> split <;> omega
  have hne : ((x : Int) == (y : Int)) = false := by rw [eq_cast]; simp; omega
  have hs : (bits .xor .u32 (x : Int) (y : Int) / 2147483648 == 1) = true := by
    rw [u32_xor_nat x y hx hy]
    have e := xor_top x y hx hy
    rw [if_pos (by omega)] at e
    have e' : ((x ^^^ y : Nat) : Int) / 2147483648 = ((x ^^^ y) / 2147483648 : Nat) := by generalize x ^^^ y = R; omega
    rw [e', e]
    rfl
  have C1 : Made 16 x y 0 := made_of 16 x y _ hx hy (by omega) (by omega) (by omega) (by show b2w (decide _) = _; simp [sx, b2w])
  have C2 : Made 16 y x 1 := made_of 16 y x _ hy hx (by omega) (by omega) (by omega) (by show b2w (decide _) = _; simp [sy, b2w])
  have C3 : Made 17 x y 1 := made_of 17 x y _ hx hy (by omega) (by omega) (by omega) (by show b2w (decide _) = _; have : x < y := (by omega); simp [this, b2w])
  have C4 : Made 17 y x 0 := made_of 17 y x _ hy hx (by omega) (by omega) (by omega) (by show b2w (decide _) = _; have : ¬ y < x := (by omega); simp [this, b2w])
  have HB : Hid (∀ w, Calls _ _ _ w _) := fun w => branched_011 x y w
    (took_of 23 x y _ hx hy (by omega) (by omega) (by show decide _ = _; simp [sx]))
    (took_of 24 x y _ hx hy (by omega) (by omega) (by show (!decide _) = _; simp [sx]))
    (took_of 25 x y _ hx hy (by omega) (by omega) (by show decide _ = _; simp; omega))
    (took_of 21 x y _ hx hy (by omega) (by omega) (by show (x == y) = _; simp; omega))
    (took_of 22 x y _ hx hy (by omega) (by omega) (by show (x != y) = _; simp; omega))
  clear h sx sy
  unfold Made at *
  go_enter Try.func6, Try.ntmps6
  go_wp2_with fail
  refine (C1.out _).mono ?_
  rintro e w1 ⟨rfl, hw⟩
  obtain rfl := hw.symm
  clear hw
  go_wp2_with fail
  refine (C2.out _).mono ?_
  rintro e w1 ⟨rfl, hw⟩
  obtain rfl := hw.symm
  clear hw
  go_wp2_with fail
  refine (C3.out _).mono ?_
  rintro e w1 ⟨rfl, hw⟩
  obtain rfl := hw.symm
  clear hw
  go_wp2_with fail
  refine (C4.out _).mono ?_
  rintro e w1 ⟨rfl, hw⟩
  obtain rfl := hw.symm
  clear hw
  go_wp2_with fail
  refine (HB.out _).mono ?_
  rintro e w1 ⟨rfl, hw⟩
  obtain rfl := hw.symm
  clear hw
  go_wp2_with fail
  go_ret
  exact ⟨rfl, rfl⟩

set_option maxHeartbeats 1000000 in
theorem orders_gs (x y : Nat) (w : World) (hx : x < 4294967296) (hy : y < 4294967296) (h : y < x ∧ (x / 2147483648 = y / 2147483648)) : Calls Try.prog 6 #[.int .u32 x, .int .u32 y] w fun e w' => e = .returned (.bool true) ∧ w' = w := by
  have sx : (¬ sg x < sg y) := by unfold sg; split <;> split <;> omega
  have sy : (sg y < sg x) := by unfold sg; split <;> split <;> omega
  have hne : ((x : Int) == (y : Int)) = false := by rw [eq_cast]; simp; omega
  have hs : (bits .xor .u32 (x : Int) (y : Int) / 2147483648 == 1) = false := by
    rw [u32_xor_nat x y hx hy]
    have e := xor_top x y hx hy
    rw [if_neg (by omega)] at e
    have e' : ((x ^^^ y : Nat) : Int) / 2147483648 = ((x ^^^ y) / 2147483648 : Nat) := by generalize x ^^^ y = R; omega
    rw [e', e]
    rfl
  have C1 : Made 16 x y 0 := made_of 16 x y _ hx hy (by omega) (by omega) (by omega) (by show b2w (decide _) = _; simp [sx, b2w])
  have C2 : Made 16 y x 1 := made_of 16 y x _ hy hx (by omega) (by omega) (by omega) (by show b2w (decide _) = _; simp [sy, b2w])
  have C3 : Made 17 x y 0 := made_of 17 x y _ hx hy (by omega) (by omega) (by omega) (by show b2w (decide _) = _; have : ¬ x < y := (by omega); simp [this, b2w])
  have C4 : Made 17 y x 1 := made_of 17 y x _ hy hx (by omega) (by omega) (by omega) (by show b2w (decide _) = _; have : y < x := (by omega); simp [this, b2w])
  have HB : Hid (∀ w, Calls _ _ _ w _) := fun w => branched_001 x y w
    (took_of 23 x y _ hx hy (by omega) (by omega) (by show decide _ = _; simp [sx]))
    (took_of 24 x y _ hx hy (by omega) (by omega) (by show (!decide _) = _; simp [sx]))
    (took_of 25 x y _ hx hy (by omega) (by omega) (by show decide _ = _; simp; omega))
    (took_of 21 x y _ hx hy (by omega) (by omega) (by show (x == y) = _; simp; omega))
    (took_of 22 x y _ hx hy (by omega) (by omega) (by show (x != y) = _; simp; omega))
  clear h sx sy
  unfold Made at *
  go_enter Try.func6, Try.ntmps6
  go_wp2_with fail
  refine (C1.out _).mono ?_
  rintro e w1 ⟨rfl, hw⟩
  obtain rfl := hw.symm
  clear hw
  go_wp2_with fail
  refine (C2.out _).mono ?_
  rintro e w1 ⟨rfl, hw⟩
  obtain rfl := hw.symm
  clear hw
  go_wp2_with fail
  refine (C3.out _).mono ?_
  rintro e w1 ⟨rfl, hw⟩
  obtain rfl := hw.symm
  clear hw
  go_wp2_with fail
  refine (C4.out _).mono ?_
  rintro e w1 ⟨rfl, hw⟩
  obtain rfl := hw.symm
  clear hw
  go_wp2_with fail
  refine (HB.out _).mono ?_
  rintro e w1 ⟨rfl, hw⟩
  obtain rfl := hw.symm
  clear hw
  go_wp2_with fail
  go_ret
  exact ⟨rfl, rfl⟩

set_option maxHeartbeats 1000000 in
theorem orders_gd (x y : Nat) (w : World) (hx : x < 4294967296) (hy : y < 4294967296) (h : y < x ∧ ¬ (x / 2147483648 = y / 2147483648)) : Calls Try.prog 6 #[.int .u32 x, .int .u32 y] w fun e w' => e = .returned (.bool true) ∧ w' = w := by
  have sx : (sg x < sg y) := by unfold sg; split <;> split <;> omega
  have sy : (¬ sg y < sg x) := by unfold sg; split <;> split <;> omega
  have hne : ((x : Int) == (y : Int)) = false := by rw [eq_cast]; simp; omega
  have hs : (bits .xor .u32 (x : Int) (y : Int) / 2147483648 == 1) = true := by
    rw [u32_xor_nat x y hx hy]
    have e := xor_top x y hx hy
    rw [if_pos (by omega)] at e
    have e' : ((x ^^^ y : Nat) : Int) / 2147483648 = ((x ^^^ y) / 2147483648 : Nat) := by generalize x ^^^ y = R; omega
    rw [e', e]
    rfl
  have C1 : Made 16 x y 1 := made_of 16 x y _ hx hy (by omega) (by omega) (by omega) (by show b2w (decide _) = _; simp [sx, b2w])
  have C2 : Made 16 y x 0 := made_of 16 y x _ hy hx (by omega) (by omega) (by omega) (by show b2w (decide _) = _; simp [sy, b2w])
  have C3 : Made 17 x y 0 := made_of 17 x y _ hx hy (by omega) (by omega) (by omega) (by show b2w (decide _) = _; have : ¬ x < y := (by omega); simp [this, b2w])
  have C4 : Made 17 y x 1 := made_of 17 y x _ hy hx (by omega) (by omega) (by omega) (by show b2w (decide _) = _; have : y < x := (by omega); simp [this, b2w])
  have HB : Hid (∀ w, Calls _ _ _ w _) := fun w => branched_101 x y w
    (took_of 23 x y _ hx hy (by omega) (by omega) (by show decide _ = _; simp [sx]))
    (took_of 24 x y _ hx hy (by omega) (by omega) (by show (!decide _) = _; simp [sx]))
    (took_of 25 x y _ hx hy (by omega) (by omega) (by show decide _ = _; simp; omega))
    (took_of 21 x y _ hx hy (by omega) (by omega) (by show (x == y) = _; simp; omega))
    (took_of 22 x y _ hx hy (by omega) (by omega) (by show (x != y) = _; simp; omega))
  clear h sx sy
  unfold Made at *
  go_enter Try.func6, Try.ntmps6
  go_wp2_with fail
  refine (C1.out _).mono ?_
  rintro e w1 ⟨rfl, hw⟩
  obtain rfl := hw.symm
  clear hw
  go_wp2_with fail
  refine (C2.out _).mono ?_
  rintro e w1 ⟨rfl, hw⟩
  obtain rfl := hw.symm
  clear hw
  go_wp2_with fail
  refine (C3.out _).mono ?_
  rintro e w1 ⟨rfl, hw⟩
  obtain rfl := hw.symm
  clear hw
  go_wp2_with fail
  refine (C4.out _).mono ?_
  rintro e w1 ⟨rfl, hw⟩
  obtain rfl := hw.symm
  clear hw
  go_wp2_with fail
  refine (HB.out _).mono ?_
  rintro e w1 ⟨rfl, hw⟩
  obtain rfl := hw.symm
  clear hw
  go_wp2_with fail
  go_ret
  exact ⟨rfl, rfl⟩

theorem aluOrders_any (x y : Nat) (w : World) (hx : x < 4294967296) (hy : y < 4294967296) : Calls Try.prog 6 #[.int .u32 x, .int .u32 y] w fun e w' => e = .returned (.bool true) ∧ w' = w := by
  by_cases he : x = y
  · exact orders_eq x y w hx hy he
  · by_cases hl : x < y <;> by_cases hs : x / 2147483648 = y / 2147483648
    · exact orders_ls x y w hx hy ⟨hl, hs⟩
    · exact orders_ld x y w hx hy ⟨hl, hs⟩
    · exact orders_gs x y w hx hy ⟨by omega, hs⟩
    · exact orders_gd x y w hx hy ⟨by omega, hs⟩
end Go.Proofs.Ytjpilhnkhhhdeaa
