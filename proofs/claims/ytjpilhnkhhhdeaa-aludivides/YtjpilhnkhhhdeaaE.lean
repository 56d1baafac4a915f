import Derived.Test.YtjpilhnkhhhdeaaD
namespace Go.Proofs.Ytjpilhnkhhhdeaa
open Go.RowKit
set_option linter.unusedVariables false
set_option linter.unusedSimpArgs false

theorem isDo_num (k : Int) (h1 : 5 ≤ k) (h2 : k ≤ 17) (w : World) : Calls Try.prog 12 #[.int .i64 k] w fun e w' => e = .returned (.bool true) ∧ w' = w := by
  have h := rdoes_any k w
  rw [(isDo_iff k).2 ⟨h1, h2⟩] at h
  exact h

set_option maxHeartbeats 400000 in
theorem rdo_no (k : Int) (x y : Nat) (w : World) (h : isDo k = false) : Calls Try.prog 10 #[.int .i64 k, .int .u32 x, .int .u32 y] w fun e w' => e = .returned (.tuple #[.int .u32 0, .int .i64 30]) ∧ w' = w := by
  have D := fun w => rdoes_any k w
  rw [h] at D
  have HD : Hid (∀ w, Calls _ _ _ w _) := D
  clear D h
  go_enter Try.func10, Try.ntmps10
  go_wp2_with fail
  refine (HD.out _).mono ?_
  rintro e w1 ⟨rfl, hw⟩
  obtain rfl := hw.symm
  clear hw
  go_wp2_with fail
  go_ret2
  exact ⟨rfl, rfl⟩

set_option maxHeartbeats 400000 in
theorem rdo_zero (k : Int) (x : Nat) (w : World) (h : k = 8 ∨ k = 9) : Calls Try.prog 10 #[.int .i64 k, .int .u32 x, .int .u32 0] w fun e w' => e = .returned (.tuple #[.int .u32 0, .int .i64 31]) ∧ w' = w := by
  have HD : Hid (∀ w, Calls _ _ _ w _) := isDo_num k (by omega) (by omega)
  rcases h with rfl | rfl
  all_goals
    go_enter Try.func10, Try.ntmps10
    go_wp2_with fail
    refine (HD.out _).mono ?_
    rintro e w1 ⟨rfl, hw⟩
    obtain rfl := hw.symm
    clear hw
    go_wp2_with fail
    go_ret2
    exact ⟨rfl, rfl⟩

set_option maxHeartbeats 400000 in
theorem rdo_5 (x y : Nat) (w : World) (hx : x < 4294967296) (hy : y < 4294967296) : Calls Try.prog 10 #[.int .i64 5, .int .u32 x, .int .u32 y] w fun e w' => e = .returned (.tuple #[.int .u32 (res 5 x y : Nat), .int .i64 0]) ∧ w' = w := by
  have HD : Hid (∀ w, Calls _ _ _ w _) := isDo_num 5 (by omega) (by omega)
  go_enter Try.func10, Try.ntmps10
  go_wp2_with fail
  refine (HD.out _).mono ?_
  rintro e w1 ⟨rfl, hw⟩
  obtain rfl := hw.symm
  clear hw
  go_wp2_with fail
  refine (word_any _ _ (by omega) (by omega)).mono ?_
  rintro e w1 ⟨rfl, hw⟩
  obtain rfl := hw.symm
  clear hw
  go_wp2_with fail
  go_ret2
  exact ⟨rfl, rfl⟩

set_option maxHeartbeats 400000 in
theorem rdo_6 (x y : Nat) (w : World) (hx : x < 4294967296) (hy : y < 4294967296) : Calls Try.prog 10 #[.int .i64 6, .int .u32 x, .int .u32 y] w fun e w' => e = .returned (.tuple #[.int .u32 (res 6 x y : Nat), .int .i64 0]) ∧ w' = w := by
  have HD : Hid (∀ w, Calls _ _ _ w _) := isDo_num 6 (by omega) (by omega)
  go_enter Try.func10, Try.ntmps10
  go_wp2_with fail
  refine (HD.out _).mono ?_
  rintro e w1 ⟨rfl, hw⟩
  obtain rfl := hw.symm
  clear hw
  go_wp2_with fail
  refine (word_any _ _ (by omega) (by omega)).mono ?_
  rintro e w1 ⟨rfl, hw⟩
  obtain rfl := hw.symm
  clear hw
  go_wp2_with fail
  go_ret2
  exact ⟨rfl, rfl⟩

set_option maxHeartbeats 400000 in
theorem rdo_7 (x y : Nat) (w : World) (hx : x < 4294967296) (hy : y < 4294967296) : Calls Try.prog 10 #[.int .i64 7, .int .u32 x, .int .u32 y] w fun e w' => e = .returned (.tuple #[.int .u32 (res 7 x y : Nat), .int .i64 0]) ∧ w' = w := by
  have HD : Hid (∀ w, Calls _ _ _ w _) := isDo_num 7 (by omega) (by omega)
  go_enter Try.func10, Try.ntmps10
  go_wp2_with fail
  refine (HD.out _).mono ?_
  rintro e w1 ⟨rfl, hw⟩
  obtain rfl := hw.symm
  clear hw
  go_wp2_with fail
  refine (times_any x y _ hx hy).mono ?_
  rintro e w1 ⟨rfl, hw⟩
  obtain rfl := hw.symm
  clear hw
  go_wp2_with fail
  go_ret2
  exact ⟨rfl, rfl⟩

set_option maxHeartbeats 400000 in
theorem rdo_8 (x y : Nat) (w : World) (hx : x < 4294967296) (hy : y < 4294967296) (h0 : 0 < y) : Calls Try.prog 10 #[.int .i64 8, .int .u32 x, .int .u32 y] w fun e w' => e = .returned (.tuple #[.int .u32 (res 8 x y : Nat), .int .i64 0]) ∧ w' = w := by
  have HD : Hid (∀ w, Calls _ _ _ w _) := isDo_num 8 (by omega) (by omega)
  have hz : ¬ (y : Int) = 0 := by omega
  go_enter Try.func10, Try.ntmps10
  go_wp2_with fail
  refine (HD.out _).mono ?_
  rintro e w1 ⟨rfl, hw⟩
  obtain rfl := hw.symm
  clear hw
  go_wp2_with fail
  refine (divided_any x y _ hx hy h0).mono ?_
  rintro e w1 ⟨rfl, hw⟩
  obtain rfl := hw.symm
  clear hw
  go_wp2_with fail
  go_ret2
  exact ⟨rfl, rfl⟩

set_option maxHeartbeats 400000 in
theorem rdo_9 (x y : Nat) (w : World) (hx : x < 4294967296) (hy : y < 4294967296) (h0 : 0 < y) : Calls Try.prog 10 #[.int .i64 9, .int .u32 x, .int .u32 y] w fun e w' => e = .returned (.tuple #[.int .u32 (res 9 x y : Nat), .int .i64 0]) ∧ w' = w := by
  have HD : Hid (∀ w, Calls _ _ _ w _) := isDo_num 9 (by omega) (by omega)
  have hz : ¬ (y : Int) = 0 := by omega
  go_enter Try.func10, Try.ntmps10
  go_wp2_with fail
  refine (HD.out _).mono ?_
  rintro e w1 ⟨rfl, hw⟩
  obtain rfl := hw.symm
  clear hw
  go_wp2_with fail
  refine (divided_any x y _ hx hy h0).mono ?_
  rintro e w1 ⟨rfl, hw⟩
  obtain rfl := hw.symm
  clear hw
  go_wp2_with fail
  go_ret2
  exact ⟨rfl, rfl⟩

set_option maxHeartbeats 400000 in
theorem rdo_10 (x y : Nat) (w : World) (hx : x < 4294967296) (hy : y < 4294967296) : Calls Try.prog 10 #[.int .i64 10, .int .u32 x, .int .u32 y] w fun e w' => e = .returned (.tuple #[.int .u32 (res 10 x y : Nat), .int .i64 0]) ∧ w' = w := by
  have HD : Hid (∀ w, Calls _ _ _ w _) := isDo_num 10 (by omega) (by omega)
  go_enter Try.func10, Try.ntmps10
  go_wp2_with fail
  refine (HD.out _).mono ?_
  rintro e w1 ⟨rfl, hw⟩
  obtain rfl := hw.symm
  clear hw
  go_wp2_with fail
  refine (mixed_10 x y _ hx hy).mono ?_
  rintro e w1 ⟨rfl, hw⟩
  obtain rfl := hw.symm
  clear hw
  go_wp2_with fail
  go_ret2
  exact ⟨rfl, rfl⟩

set_option maxHeartbeats 400000 in
theorem rdo_11 (x y : Nat) (w : World) (hx : x < 4294967296) (hy : y < 4294967296) : Calls Try.prog 10 #[.int .i64 11, .int .u32 x, .int .u32 y] w fun e w' => e = .returned (.tuple #[.int .u32 (res 11 x y : Nat), .int .i64 0]) ∧ w' = w := by
  have HD : Hid (∀ w, Calls _ _ _ w _) := isDo_num 11 (by omega) (by omega)
  go_enter Try.func10, Try.ntmps10
  go_wp2_with fail
  refine (HD.out _).mono ?_
  rintro e w1 ⟨rfl, hw⟩
  obtain rfl := hw.symm
  clear hw
  go_wp2_with fail
  refine (mixed_11 x y _ hx hy).mono ?_
  rintro e w1 ⟨rfl, hw⟩
  obtain rfl := hw.symm
  clear hw
  go_wp2_with fail
  go_ret2
  exact ⟨rfl, rfl⟩

set_option maxHeartbeats 400000 in
theorem rdo_12 (x y : Nat) (w : World) (hx : x < 4294967296) (hy : y < 4294967296) : Calls Try.prog 10 #[.int .i64 12, .int .u32 x, .int .u32 y] w fun e w' => e = .returned (.tuple #[.int .u32 (res 12 x y : Nat), .int .i64 0]) ∧ w' = w := by
  have HD : Hid (∀ w, Calls _ _ _ w _) := isDo_num 12 (by omega) (by omega)
  go_enter Try.func10, Try.ntmps10
  go_wp2_with fail
  refine (HD.out _).mono ?_
  rintro e w1 ⟨rfl, hw⟩
  obtain rfl := hw.symm
  clear hw
  go_wp2_with fail
  refine (mixed_12 x y _ hx hy).mono ?_
  rintro e w1 ⟨rfl, hw⟩
  obtain rfl := hw.symm
  clear hw
  go_wp2_with fail
  go_ret2
  exact ⟨rfl, rfl⟩

set_option maxHeartbeats 400000 in
theorem rdo_13 (x y : Nat) (w : World) (hx : x < 4294967296) (hy : y < 4294967296) : Calls Try.prog 10 #[.int .i64 13, .int .u32 x, .int .u32 y] w fun e w' => e = .returned (.tuple #[.int .u32 (res 13 x y : Nat), .int .i64 0]) ∧ w' = w := by
  have HD : Hid (∀ w, Calls _ _ _ w _) := isDo_num 13 (by omega) (by omega)
  go_enter Try.func10, Try.ntmps10
  go_wp2_with fail
  refine (HD.out _).mono ?_
  rintro e w1 ⟨rfl, hw⟩
  obtain rfl := hw.symm
  clear hw
  go_wp2_with fail
  refine (moved_13 x y _ hx hy).mono ?_
  rintro e w1 ⟨rfl, hw⟩
  obtain rfl := hw.symm
  clear hw
  go_wp2_with fail
  go_ret2
  exact ⟨rfl, rfl⟩

set_option maxHeartbeats 400000 in
theorem rdo_14 (x y : Nat) (w : World) (hx : x < 4294967296) (hy : y < 4294967296) : Calls Try.prog 10 #[.int .i64 14, .int .u32 x, .int .u32 y] w fun e w' => e = .returned (.tuple #[.int .u32 (res 14 x y : Nat), .int .i64 0]) ∧ w' = w := by
  have HD : Hid (∀ w, Calls _ _ _ w _) := isDo_num 14 (by omega) (by omega)
  go_enter Try.func10, Try.ntmps10
  go_wp2_with fail
  refine (HD.out _).mono ?_
  rintro e w1 ⟨rfl, hw⟩
  obtain rfl := hw.symm
  clear hw
  go_wp2_with fail
  refine (moved_14 x y _ hx hy).mono ?_
  rintro e w1 ⟨rfl, hw⟩
  obtain rfl := hw.symm
  clear hw
  go_wp2_with fail
  go_ret2
  exact ⟨rfl, rfl⟩

set_option maxHeartbeats 400000 in
theorem rdo_15 (x y : Nat) (w : World) (hx : x < 4294967296) (hy : y < 4294967296) : Calls Try.prog 10 #[.int .i64 15, .int .u32 x, .int .u32 y] w fun e w' => e = .returned (.tuple #[.int .u32 (res 15 x y : Nat), .int .i64 0]) ∧ w' = w := by
  have HD : Hid (∀ w, Calls _ _ _ w _) := isDo_num 15 (by omega) (by omega)
  go_enter Try.func10, Try.ntmps10
  go_wp2_with fail
  refine (HD.out _).mono ?_
  rintro e w1 ⟨rfl, hw⟩
  obtain rfl := hw.symm
  clear hw
  go_wp2_with fail
  refine (moved_15 x y _ hx hy).mono ?_
  rintro e w1 ⟨rfl, hw⟩
  obtain rfl := hw.symm
  clear hw
  go_wp2_with fail
  go_ret2
  exact ⟨rfl, rfl⟩

set_option maxHeartbeats 400000 in
theorem rdo_16 (x y : Nat) (w : World) (hx : x < 4294967296) (hy : y < 4294967296) : Calls Try.prog 10 #[.int .i64 16, .int .u32 x, .int .u32 y] w fun e w' => e = .returned (.tuple #[.int .u32 (res 16 x y : Nat), .int .i64 0]) ∧ w' = w := by
  have HD : Hid (∀ w, Calls _ _ _ w _) := isDo_num 16 (by omega) (by omega)
  have B := fun w => rbelow_signed 16 x y w hx hy (by omega)
  have hr : res 16 x y = b2w (decide (sg x < sg y)) := rfl
  rw [hr]
  revert B
  generalize decide (sg x < sg y) = b
  intro B
  have HB : Hid (∀ w, Calls _ _ _ w _) := B
  clear B hr
  cases b
  all_goals
    go_enter Try.func10, Try.ntmps10
    go_wp2_with fail
    refine (HD.out _).mono ?_
    rintro e w1 ⟨rfl, hw⟩
    obtain rfl := hw.symm
    clear hw
    go_wp2_with fail
    refine (HB.out _).mono ?_
    rintro e w1 ⟨rfl, hw⟩
    obtain rfl := hw.symm
    clear hw
    go_wp2_with fail
    go_ret2
    exact ⟨rfl, rfl⟩

set_option maxHeartbeats 400000 in
theorem rdo_17 (x y : Nat) (w : World) (hx : x < 4294967296) (hy : y < 4294967296) : Calls Try.prog 10 #[.int .i64 17, .int .u32 x, .int .u32 y] w fun e w' => e = .returned (.tuple #[.int .u32 (res 17 x y : Nat), .int .i64 0]) ∧ w' = w := by
  have HD : Hid (∀ w, Calls _ _ _ w _) := isDo_num 17 (by omega) (by omega)
  have B := fun w => rbelow_plain 17 x y w hx hy (by omega)
  have hr : res 17 x y = b2w (decide (x < y)) := rfl
  rw [hr]
  revert B
  generalize decide (x < y) = b
  intro B
  have HB : Hid (∀ w, Calls _ _ _ w _) := B
  clear B hr
  cases b
  all_goals
    go_enter Try.func10, Try.ntmps10
    go_wp2_with fail
    refine (HD.out _).mono ?_
    rintro e w1 ⟨rfl, hw⟩
    obtain rfl := hw.symm
    clear hw
    go_wp2_with fail
    refine (HB.out _).mono ?_
    rintro e w1 ⟨rfl, hw⟩
    obtain rfl := hw.symm
    clear hw
    go_wp2_with fail
    go_ret2
    exact ⟨rfl, rfl⟩

theorem rdo_yes (k : Int) (x y : Nat) (w : World) (hx : x < 4294967296) (hy : y < 4294967296) (h1 : 5 ≤ k) (h2 : k ≤ 17) (h0 : k = 8 ∨ k = 9 → 0 < y) :
    Calls Try.prog 10 #[.int .i64 k, .int .u32 x, .int .u32 y] w fun e w' => e = .returned (.tuple #[.int .u32 (res k.toNat x y : Nat), .int .i64 0]) ∧ w' = w := by
  have h : k = 5 ∨ k = 6 ∨ k = 7 ∨ k = 8 ∨ k = 9 ∨ k = 10 ∨ k = 11 ∨ k = 12 ∨ k = 13 ∨ k = 14 ∨ k = 15 ∨ k = 16 ∨ k = 17 := by omega
  rcases h with rfl | rfl | rfl | rfl | rfl | rfl | rfl | rfl | rfl | rfl | rfl | rfl | rfl
  · exact rdo_5 x y w hx hy
  · exact rdo_6 x y w hx hy
  · exact rdo_7 x y w hx hy
  · exact rdo_8 x y w hx hy (h0 (.inl rfl))
  · exact rdo_9 x y w hx hy (h0 (.inr rfl))
  · exact rdo_10 x y w hx hy
  · exact rdo_11 x y w hx hy
  · exact rdo_12 x y w hx hy
  · exact rdo_13 x y w hx hy
  · exact rdo_14 x y w hx hy
  · exact rdo_15 x y w hx hy
  · exact rdo_16 x y w hx hy
  · exact rdo_17 x y w hx hy

theorem rdo_any (k : Int) (x y : Nat) (w : World) (hx : x < 4294967296) (hy : y < 4294967296) :
    Calls Try.prog 10 #[.int .i64 k, .int .u32 x, .int .u32 y] w fun e w' => e = .returned (.tuple #[.int .u32 (doW k x y : Nat), .int .i64 (doE k y)]) ∧ w' = w := by
  cases h : isDo k
  · have e1 : doE k y = 30 := by simp [doE, h]
    have e2 : doW k x y = 0 := by simp [doW, e1]
    rw [e1, e2]
    exact rdo_no k x y w h
  · by_cases h0 : y = 0 ∧ (k = 8 ∨ k = 9)
    · have e1 : doE k y = 31 := by simp [doE, h, h0]
      have e2 : doW k x y = 0 := by simp [doW, e1]
      rw [e1, e2, h0.1]
      exact rdo_zero k x w h0.2
    · have e1 : doE k y = 0 := by simp [doE, h, h0]
      have e2 : doW k x y = res k.toNat x y := by simp [doW, e1]
      rw [e1, e2]
      have hk := (isDo_iff k).1 h
      exact rdo_yes k x y w hx hy hk.1 hk.2 (fun h => by by_cases a : y = 0; exact absurd ⟨a, h⟩ h0; omega)

set_option maxHeartbeats 400000 in
theorem rtakes_no (k : Int) (x y : Nat) (w : World) (h : isBr k = false) : Calls Try.prog 14 #[.int .i64 k, .int .u32 x, .int .u32 y] w fun e w' => e = .returned (.tuple #[.bool false, .int .i64 30]) ∧ w' = w := by
  have D := fun w => rbranches_any k w
  rw [h] at D
  have HD : Hid (∀ w, Calls _ _ _ w _) := D
  clear D h
  go_enter Try.func14, Try.ntmps14
  go_wp2_with fail
  refine (HD.out _).mono ?_
  rintro e w1 ⟨rfl, hw⟩
  obtain rfl := hw.symm
  clear hw
  go_wp2_with fail
  go_ret2
  exact ⟨rfl, rfl⟩

theorem isBr_num (k : Int) (h1 : 21 ≤ k) (h2 : k ≤ 25) (w : World) : Calls Try.prog 16 #[.int .i64 k] w fun e w' => e = .returned (.bool true) ∧ w' = w := by
  have h := rbranches_any k w
  rw [(isBr_iff k).2 ⟨h1, h2⟩] at h
  exact h
theorem ret_two {a b : Bool} {n : Int} (h : a = b) : Ending.returned (.tuple #[.bool a, .int .i64 n]) = .returned (.tuple #[.bool b, .int .i64 n]) := by rw [h]

set_option maxHeartbeats 400000 in
theorem rtakes_21 (x y : Nat) (w : World) (hx : x < 4294967296) (hy : y < 4294967296) : Calls Try.prog 14 #[.int .i64 21, .int .u32 x, .int .u32 y] w fun e w' => e = .returned (.tuple #[.bool (takeV 21 x y), .int .i64 0]) ∧ w' = w := by
  have HD : Hid (∀ w, Calls _ _ _ w _) := isBr_num 21 (by omega) (by omega)
  go_enter Try.func14, Try.ntmps14
  go_wp2_with fail
  refine (HD.out _).mono ?_
  rintro e w1 ⟨rfl, hw⟩
  obtain rfl := hw.symm
  clear hw
  go_wp2_with fail
  go_ret2
  refine ⟨ret_two ?_, rfl⟩
  rw [eq_cast]
  rfl

set_option maxHeartbeats 400000 in
theorem rtakes_22 (x y : Nat) (w : World) (hx : x < 4294967296) (hy : y < 4294967296) : Calls Try.prog 14 #[.int .i64 22, .int .u32 x, .int .u32 y] w fun e w' => e = .returned (.tuple #[.bool (takeV 22 x y), .int .i64 0]) ∧ w' = w := by
  have HD : Hid (∀ w, Calls _ _ _ w _) := isBr_num 22 (by omega) (by omega)
  go_enter Try.func14, Try.ntmps14
  go_wp2_with fail
  refine (HD.out _).mono ?_
  rintro e w1 ⟨rfl, hw⟩
  obtain rfl := hw.symm
  clear hw
  go_wp2_with fail
  go_ret2
  refine ⟨ret_two ?_, rfl⟩
  show (!((x : Int) == (y : Int))) = _
  rw [eq_cast]
  rfl

set_option maxHeartbeats 400000 in
theorem rtakes_23 (x y : Nat) (w : World) (hx : x < 4294967296) (hy : y < 4294967296) : Calls Try.prog 14 #[.int .i64 23, .int .u32 x, .int .u32 y] w fun e w' => e = .returned (.tuple #[.bool (takeV 23 x y), .int .i64 0]) ∧ w' = w := by
  have HD : Hid (∀ w, Calls _ _ _ w _) := isBr_num 23 (by omega) (by omega)
  go_enter Try.func14, Try.ntmps14
  go_wp2_with fail
  refine (HD.out _).mono ?_
  rintro e w1 ⟨rfl, hw⟩
  obtain rfl := hw.symm
  clear hw
  go_wp2_with fail
  refine (rbelow_signed 23 x y _ hx hy (by omega)).mono ?_
  rintro e w1 ⟨rfl, hw⟩
  obtain rfl := hw.symm
  clear hw
  go_wp2_with fail
  go_ret2
  exact ⟨rfl, rfl⟩

set_option maxHeartbeats 400000 in
theorem rtakes_24 (x y : Nat) (w : World) (hx : x < 4294967296) (hy : y < 4294967296) : Calls Try.prog 14 #[.int .i64 24, .int .u32 x, .int .u32 y] w fun e w' => e = .returned (.tuple #[.bool (takeV 24 x y), .int .i64 0]) ∧ w' = w := by
  have HD : Hid (∀ w, Calls _ _ _ w _) := isBr_num 24 (by omega) (by omega)
  go_enter Try.func14, Try.ntmps14
  go_wp2_with fail
  refine (HD.out _).mono ?_
  rintro e w1 ⟨rfl, hw⟩
  obtain rfl := hw.symm
  clear hw
  go_wp2_with fail
  refine (rbelow_signed 24 x y _ hx hy (by omega)).mono ?_
  rintro e w1 ⟨rfl, hw⟩
  obtain rfl := hw.symm
  clear hw
  go_wp2_with fail
  go_ret2
  exact ⟨rfl, rfl⟩

set_option maxHeartbeats 400000 in
theorem rtakes_25 (x y : Nat) (w : World) (hx : x < 4294967296) (hy : y < 4294967296) : Calls Try.prog 14 #[.int .i64 25, .int .u32 x, .int .u32 y] w fun e w' => e = .returned (.tuple #[.bool (takeV 25 x y), .int .i64 0]) ∧ w' = w := by
  have HD : Hid (∀ w, Calls _ _ _ w _) := isBr_num 25 (by omega) (by omega)
  go_enter Try.func14, Try.ntmps14
  go_wp2_with fail
  refine (HD.out _).mono ?_
  rintro e w1 ⟨rfl, hw⟩
  obtain rfl := hw.symm
  clear hw
  go_wp2_with fail
  refine (rbelow_plain 25 x y _ hx hy (by omega)).mono ?_
  rintro e w1 ⟨rfl, hw⟩
  obtain rfl := hw.symm
  clear hw
  go_wp2_with fail
  go_ret2
  exact ⟨rfl, rfl⟩

theorem rtakes_any (k : Int) (x y : Nat) (w : World) (hx : x < 4294967296) (hy : y < 4294967296) : Calls Try.prog 14 #[.int .i64 k, .int .u32 x, .int .u32 y] w fun e w' => e = .returned (.tuple #[.bool (takeV k x y), .int .i64 (takeE k)]) ∧ w' = w := by
  cases h : isBr k
  · have hk : ¬ (21 ≤ k ∧ k ≤ 25) := fun a => by rw [(isBr_iff k).2 a] at h; cases h
    have e1 : takeE k = 30 := by simp [takeE, h]
    have e2 : takeV k x y = false := by
      unfold takeV
      rw [if_neg (by omega), if_neg (by omega), if_neg (by omega), if_neg (by omega), if_neg (by omega)]
    rw [e1, e2]
    exact rtakes_no k x y w h
  · have e1 : takeE k = 0 := by simp [takeE, h]
    rw [e1]
    have hk := (isBr_iff k).1 h
    have h : k = 21 ∨ k = 22 ∨ k = 23 ∨ k = 24 ∨ k = 25 := by omega
    rcases h with rfl | rfl | rfl | rfl | rfl
    · exact rtakes_21 x y w hx hy
    · exact rtakes_22 x y w hx hy
    · exact rtakes_23 x y w hx hy
    · exact rtakes_24 x y w hx hy
    · exact rtakes_25 x y w hx hy
end Go.Proofs.Ytjpilhnkhhhdeaa
