import Derived.Test.YtjpilhnkhhhdeaaV
namespace Go.Proofs.Ytjpilhnkhhhdeaa
open Go.RowKit
set_option linter.unusedVariables false
set_option linter.unusedSimpArgs false

set_option maxHeartbeats 400000 in
theorem divided_11 (x y : Nat) (w : World) (hx : x < 4294967296) (hy : y < 4294967296) (h0 : 0 < y) (hn : sg x < 0) (hd : sg y < 0) : Calls Try.prog 22 #[.int .u32 x, .int .u32 y] w fun e w' => e = .returned (.tuple #[.int .u32 (res 8 x y : Nat), .int .u32 (res 9 x y : Nat)]) ∧ w' = w := by
  have bx := sg_bd x hx
  have by' := sg_bd y hy
  have nz := sg_zero y hy h0
  have e8 : res 8 x y = wd (((sg x).natAbs / (sg y).natAbs : Nat)) := by
    show wd _ = _
    rw [tdiv_mag]
    simp [hn, hd]
  have e9 : res 9 x y = wd (-((sg x).natAbs % (sg y).natAbs : Nat)) := by
    show wd _ = _
    rw [tmod_mag]
    simp [hn, hd]
  rw [e8, e9]
  clear e8 e9
  have HX : Hid (∀ w, Calls _ _ _ w _) := fun w => signed_any x w hx
  have HY : Hid (∀ w, Calls _ _ _ w _) := fun w => signed_any y w hy
  have HMX : Hid (∀ w, Calls _ _ _ w _) := fun w => magnitude_any (sg x) w (by omega) (by omega)
  have HMY : Hid (∀ w, Calls _ _ _ w _) := fun w => magnitude_any (sg y) w (by omega) (by omega)
  have HQ : Hid (∀ w, Calls _ _ _ w _) := fun w => quotient_any (sg x).natAbs (sg y).natAbs w (by omega) (by omega) (by omega)
  have hq : (sg x).natAbs / (sg y).natAbs ≤ 2147483648 := Nat.le_trans (Nat.div_le_self _ _) (by omega)
  have hr : (sg x).natAbs % (sg y).natAbs ≤ 2147483648 := Nat.le_trans (Nat.mod_le _ _) (by omega)
  have HW : Hid (∀ n : Int, -2147483648 ≤ n → n ≤ 2147483648 → ∀ w, Calls _ _ _ w _) := fun n h1 h2 w => word_any n w (by omega) (by omega)
  revert HX HY HMX HMY HQ hq hr hn hd
  generalize (sg x).natAbs / (sg y).natAbs = q
  generalize (sg x).natAbs % (sg y).natAbs = r
  generalize (sg x).natAbs = mx
  generalize (sg y).natAbs = my
  generalize sg x = sx
  generalize sg y = sy
  intro hn hd HX HY HMX HMY HQ hq hr
  clear bx by' nz
  have gx : decide (sx < 0) = true := by simpa using hn
  have gy : decide (sy < 0) = true := by simpa using hd
  have gx' : (!decide (sx < 0)) = false := by rw [gx]; rfl
  have gy' : (!decide (sy < 0)) = false := by rw [gy]; rfl
  go_enter Try.func22, Try.ntmps22
  go_wp2_with fail
  refine (HX.out _).mono ?_
  rintro e w1 ⟨rfl, hw⟩
  obtain rfl := hw.symm
  clear hw
  go_wp2_with fail
  refine (HY.out _).mono ?_
  rintro e w1 ⟨rfl, hw⟩
  obtain rfl := hw.symm
  clear hw
  go_wp2_with fail
  refine (HMX.out _).mono ?_
  rintro e w1 ⟨rfl, hw⟩
  obtain rfl := hw.symm
  clear hw
  go_wp2_with fail
  refine (HMY.out _).mono ?_
  rintro e w1 ⟨rfl, hw⟩
  obtain rfl := hw.symm
  clear hw
  go_wp2_with fail
  refine (HQ.out _).mono ?_
  rintro e w1 ⟨rfl, hw⟩
  obtain rfl := hw.symm
  clear hw
  go_wp2_with fail
  refine (HW.out _ (by omega) (by omega) _).mono ?_
  rintro e w1 ⟨rfl, hw⟩
  obtain rfl := hw.symm
  clear hw
  go_wp2_with fail
  refine (HW.out _ (by omega) (by omega) _).mono ?_
  rintro e w1 ⟨rfl, hw⟩
  obtain rfl := hw.symm
  clear hw
  go_wp2_with fail
  go_ret2
  exact ⟨rfl, rfl⟩

set_option maxHeartbeats 400000 in
theorem divided_10 (x y : Nat) (w : World) (hx : x < 4294967296) (hy : y < 4294967296) (h0 : 0 < y) (hn : sg x < 0) (hd : ¬ sg y < 0) : Calls Try.prog 22 #[.int .u32 x, .int .u32 y] w fun e w' => e = .returned (.tuple #[.int .u32 (res 8 x y : Nat), .int .u32 (res 9 x y : Nat)]) ∧ w' = w := by
  have bx := sg_bd x hx
  have by' := sg_bd y hy
  have nz := sg_zero y hy h0
  have e8 : res 8 x y = wd (-((sg x).natAbs / (sg y).natAbs : Nat)) := by
    show wd _ = _
    rw [tdiv_mag]
    simp [hn, hd]
  have e9 : res 9 x y = wd (-((sg x).natAbs % (sg y).natAbs : Nat)) := by
    show wd _ = _
    rw [tmod_mag]
    simp [hn, hd]
  rw [e8, e9]
  clear e8 e9
  have HX : Hid (∀ w, Calls _ _ _ w _) := fun w => signed_any x w hx
  have HY : Hid (∀ w, Calls _ _ _ w _) := fun w => signed_any y w hy
  have HMX : Hid (∀ w, Calls _ _ _ w _) := fun w => magnitude_any (sg x) w (by omega) (by omega)
  have HMY : Hid (∀ w, Calls _ _ _ w _) := fun w => magnitude_any (sg y) w (by omega) (by omega)
  have HQ : Hid (∀ w, Calls _ _ _ w _) := fun w => quotient_any (sg x).natAbs (sg y).natAbs w (by omega) (by omega) (by omega)
  have hq : (sg x).natAbs / (sg y).natAbs ≤ 2147483648 := Nat.le_trans (Nat.div_le_self _ _) (by omega)
  have hr : (sg x).natAbs % (sg y).natAbs ≤ 2147483648 := Nat.le_trans (Nat.mod_le _ _) (by omega)
  have HW : Hid (∀ n : Int, -2147483648 ≤ n → n ≤ 2147483648 → ∀ w, Calls _ _ _ w _) := fun n h1 h2 w => word_any n w (by omega) (by omega)
  revert HX HY HMX HMY HQ hq hr hn hd
  generalize (sg x).natAbs / (sg y).natAbs = q
  generalize (sg x).natAbs % (sg y).natAbs = r
  generalize (sg x).natAbs = mx
  generalize (sg y).natAbs = my
  generalize sg x = sx
  generalize sg y = sy
  intro hn hd HX HY HMX HMY HQ hq hr
  clear bx by' nz
  have gx : decide (sx < 0) = true := by simpa using hn
  have gy : decide (sy < 0) = false := by simpa using hd
  have gx' : (!decide (sx < 0)) = false := by rw [gx]; rfl
  have gy' : (!decide (sy < 0)) = true := by rw [gy]; rfl
  go_enter Try.func22, Try.ntmps22
  go_wp2_with fail
  refine (HX.out _).mono ?_
  rintro e w1 ⟨rfl, hw⟩
  obtain rfl := hw.symm
  clear hw
  go_wp2_with fail
  refine (HY.out _).mono ?_
  rintro e w1 ⟨rfl, hw⟩
  obtain rfl := hw.symm
  clear hw
  go_wp2_with fail
  refine (HMX.out _).mono ?_
  rintro e w1 ⟨rfl, hw⟩
  obtain rfl := hw.symm
  clear hw
  go_wp2_with fail
  refine (HMY.out _).mono ?_
  rintro e w1 ⟨rfl, hw⟩
  obtain rfl := hw.symm
  clear hw
  go_wp2_with fail
  refine (HQ.out _).mono ?_
  rintro e w1 ⟨rfl, hw⟩
  obtain rfl := hw.symm
  clear hw
  go_wp2_with fail
  refine (HW.out _ (by omega) (by omega) _).mono ?_
  rintro e w1 ⟨rfl, hw⟩
  obtain rfl := hw.symm
  clear hw
  go_wp2_with fail
  refine (HW.out _ (by omega) (by omega) _).mono ?_
  rintro e w1 ⟨rfl, hw⟩
  obtain rfl := hw.symm
  clear hw
  go_wp2_with fail
  go_ret2
  exact ⟨rfl, rfl⟩

set_option maxHeartbeats 400000 in
theorem divided_01 (x y : Nat) (w : World) (hx : x < 4294967296) (hy : y < 4294967296) (h0 : 0 < y) (hn : ¬ sg x < 0) (hd : sg y < 0) : Calls Try.prog 22 #[.int .u32 x, .int .u32 y] w fun e w' => e = .returned (.tuple #[.int .u32 (res 8 x y : Nat), .int .u32 (res 9 x y : Nat)]) ∧ w' = w := by
  have bx := sg_bd x hx
  have by' := sg_bd y hy
  have nz := sg_zero y hy h0
  have e8 : res 8 x y = wd (-((sg x).natAbs / (sg y).natAbs : Nat)) := by
    show wd _ = _
    rw [tdiv_mag]
    simp [hn, hd]
  have e9 : res 9 x y = wd (((sg x).natAbs % (sg y).natAbs : Nat)) := by
    show wd _ = _
    rw [tmod_mag]
    simp [hn, hd]
  rw [e8, e9]
  clear e8 e9
  have HX : Hid (∀ w, Calls _ _ _ w _) := fun w => signed_any x w hx
  have HY : Hid (∀ w, Calls _ _ _ w _) := fun w => signed_any y w hy
  have HMX : Hid (∀ w, Calls _ _ _ w _) := fun w => magnitude_any (sg x) w (by omega) (by omega)
  have HMY : Hid (∀ w, Calls _ _ _ w _) := fun w => magnitude_any (sg y) w (by omega) (by omega)
  have HQ : Hid (∀ w, Calls _ _ _ w _) := fun w => quotient_any (sg x).natAbs (sg y).natAbs w (by omega) (by omega) (by omega)
  have hq : (sg x).natAbs / (sg y).natAbs ≤ 2147483648 := Nat.le_trans (Nat.div_le_self _ _) (by omega)
  have hr : (sg x).natAbs % (sg y).natAbs ≤ 2147483648 := Nat.le_trans (Nat.mod_le _ _) (by omega)
  have HW : Hid (∀ n : Int, -2147483648 ≤ n → n ≤ 2147483648 → ∀ w, Calls _ _ _ w _) := fun n h1 h2 w => word_any n w (by omega) (by omega)
  revert HX HY HMX HMY HQ hq hr hn hd
  generalize (sg x).natAbs / (sg y).natAbs = q
  generalize (sg x).natAbs % (sg y).natAbs = r
  generalize (sg x).natAbs = mx
  generalize (sg y).natAbs = my
  generalize sg x = sx
  generalize sg y = sy
  intro hn hd HX HY HMX HMY HQ hq hr
  clear bx by' nz
  have gx : decide (sx < 0) = false := by simpa using hn
  have gy : decide (sy < 0) = true := by simpa using hd
  have gx' : (!decide (sx < 0)) = true := by rw [gx]; rfl
  have gy' : (!decide (sy < 0)) = false := by rw [gy]; rfl
  go_enter Try.func22, Try.ntmps22
  go_wp2_with fail
  refine (HX.out _).mono ?_
  rintro e w1 ⟨rfl, hw⟩
  obtain rfl := hw.symm
  clear hw
  go_wp2_with fail
  refine (HY.out _).mono ?_
  rintro e w1 ⟨rfl, hw⟩
  obtain rfl := hw.symm
  clear hw
  go_wp2_with fail
  refine (HMX.out _).mono ?_
  rintro e w1 ⟨rfl, hw⟩
  obtain rfl := hw.symm
  clear hw
  go_wp2_with fail
  refine (HMY.out _).mono ?_
  rintro e w1 ⟨rfl, hw⟩
  obtain rfl := hw.symm
  clear hw
  go_wp2_with fail
  refine (HQ.out _).mono ?_
  rintro e w1 ⟨rfl, hw⟩
  obtain rfl := hw.symm
  clear hw
  go_wp2_with fail
  refine (HW.out _ (by omega) (by omega) _).mono ?_
  rintro e w1 ⟨rfl, hw⟩
  obtain rfl := hw.symm
  clear hw
  go_wp2_with fail
  refine (HW.out _ (by omega) (by omega) _).mono ?_
  rintro e w1 ⟨rfl, hw⟩
  obtain rfl := hw.symm
  clear hw
  go_wp2_with fail
  go_ret2
  exact ⟨rfl, rfl⟩

set_option maxHeartbeats 400000 in
theorem divided_00 (x y : Nat) (w : World) (hx : x < 4294967296) (hy : y < 4294967296) (h0 : 0 < y) (hn : ¬ sg x < 0) (hd : ¬ sg y < 0) : Calls Try.prog 22 #[.int .u32 x, .int .u32 y] w fun e w' => e = .returned (.tuple #[.int .u32 (res 8 x y : Nat), .int .u32 (res 9 x y : Nat)]) ∧ w' = w := by
  have bx := sg_bd x hx
  have by' := sg_bd y hy
  have nz := sg_zero y hy h0
  have e8 : res 8 x y = wd (((sg x).natAbs / (sg y).natAbs : Nat)) := by
    show wd _ = _
    rw [tdiv_mag]
    simp [hn, hd]
  have e9 : res 9 x y = wd (((sg x).natAbs % (sg y).natAbs : Nat)) := by
    show wd _ = _
    rw [tmod_mag]
    simp [hn, hd]
  rw [e8, e9]
  clear e8 e9
  have HX : Hid (∀ w, Calls _ _ _ w _) := fun w => signed_any x w hx
  have HY : Hid (∀ w, Calls _ _ _ w _) := fun w => signed_any y w hy
  have HMX : Hid (∀ w, Calls _ _ _ w _) := fun w => magnitude_any (sg x) w (by omega) (by omega)
  have HMY : Hid (∀ w, Calls _ _ _ w _) := fun w => magnitude_any (sg y) w (by omega) (by omega)
  have HQ : Hid (∀ w, Calls _ _ _ w _) := fun w => quotient_any (sg x).natAbs (sg y).natAbs w (by omega) (by omega) (by omega)
  have hq : (sg x).natAbs / (sg y).natAbs ≤ 2147483648 := Nat.le_trans (Nat.div_le_self _ _) (by omega)
  have hr : (sg x).natAbs % (sg y).natAbs ≤ 2147483648 := Nat.le_trans (Nat.mod_le _ _) (by omega)
  have HW : Hid (∀ n : Int, -2147483648 ≤ n → n ≤ 2147483648 → ∀ w, Calls _ _ _ w _) := fun n h1 h2 w => word_any n w (by omega) (by omega)
  revert HX HY HMX HMY HQ hq hr hn hd
  generalize (sg x).natAbs / (sg y).natAbs = q
  generalize (sg x).natAbs % (sg y).natAbs = r
  generalize (sg x).natAbs = mx
  generalize (sg y).natAbs = my
  generalize sg x = sx
  generalize sg y = sy
  intro hn hd HX HY HMX HMY HQ hq hr
  clear bx by' nz
  have gx : decide (sx < 0) = false := by simpa using hn
  have gy : decide (sy < 0) = false := by simpa using hd
  have gx' : (!decide (sx < 0)) = true := by rw [gx]; rfl
  have gy' : (!decide (sy < 0)) = true := by rw [gy]; rfl
  go_enter Try.func22, Try.ntmps22
  go_wp2_with fail
  refine (HX.out _).mono ?_
  rintro e w1 ⟨rfl, hw⟩
  obtain rfl := hw.symm
  clear hw
  go_wp2_with fail
  refine (HY.out _).mono ?_
  rintro e w1 ⟨rfl, hw⟩
  obtain rfl := hw.symm
  clear hw
  go_wp2_with fail
  refine (HMX.out _).mono ?_
  rintro e w1 ⟨rfl, hw⟩
  obtain rfl := hw.symm
  clear hw
  go_wp2_with fail
  refine (HMY.out _).mono ?_
  rintro e w1 ⟨rfl, hw⟩
  obtain rfl := hw.symm
  clear hw
  go_wp2_with fail
  refine (HQ.out _).mono ?_
  rintro e w1 ⟨rfl, hw⟩
  obtain rfl := hw.symm
  clear hw
  go_wp2_with fail
  refine (HW.out _ (by omega) (by omega) _).mono ?_
  rintro e w1 ⟨rfl, hw⟩
  obtain rfl := hw.symm
  clear hw
  go_wp2_with fail
  refine (HW.out _ (by omega) (by omega) _).mono ?_
  rintro e w1 ⟨rfl, hw⟩
  obtain rfl := hw.symm
  clear hw
  go_wp2_with fail
  go_ret2
  exact ⟨rfl, rfl⟩

theorem divided_any (x y : Nat) (w : World) (hx : x < 4294967296) (hy : y < 4294967296) (h0 : 0 < y) : Calls Try.prog 22 #[.int .u32 x, .int .u32 y] w fun e w' => e = .returned (.tuple #[.int .u32 (res 8 x y : Nat), .int .u32 (res 9 x y : Nat)]) ∧ w' = w := by
  by_cases hn : sg x < 0 <;> by_cases hd : sg y < 0
  · exact divided_11 x y w hx hy h0 hn hd
  · exact divided_10 x y w hx hy h0 hn hd
  · exact divided_01 x y w hx hy h0 hn hd
  · exact divided_00 x y w hx hy h0 hn hd

set_option maxHeartbeats 400000 in
theorem rbelow_signed (k : Int) (x y : Nat) (w : World) (hx : x < 4294967296) (hy : y < 4294967296) (hk : k = 16 ∨ k = 23 ∨ k = 24) : Calls Try.prog 25 #[.int .i64 k, .int .u32 x, .int .u32 y] w fun e w' => e = .returned (.bool (decide (sg x < sg y))) ∧ w' = w := by
  have HX : Hid (∀ w, Calls _ _ _ w _) := fun w => signed_any x w hx
  have HY : Hid (∀ w, Calls _ _ _ w _) := fun w => signed_any y w hy
  revert HX HY
  generalize sg x = sx
  generalize sg y = sy
  intro HX HY
  rcases hk with rfl | rfl | rfl
  all_goals
    go_enter Try.func25, Try.ntmps25
    go_wp2_with fail
    refine (HX.out _).mono ?_
    rintro e w1 ⟨rfl, hw⟩
    obtain rfl := hw.symm
    clear hw
    go_wp2_with fail
    refine (HY.out _).mono ?_
    rintro e w1 ⟨rfl, hw⟩
    obtain rfl := hw.symm
    clear hw
    go_wp2_with fail
    go_ret
    exact ⟨rfl, rfl⟩

set_option maxHeartbeats 400000 in
theorem rbelow_plain (k : Int) (x y : Nat) (w : World) (hx : x < 4294967296) (hy : y < 4294967296) (hk : k = 17 ∨ k = 25) : Calls Try.prog 25 #[.int .i64 k, .int .u32 x, .int .u32 y] w fun e w' => e = .returned (.bool (decide (x < y))) ∧ w' = w := by
  rcases hk with rfl | rfl
  all_goals
    go_enter Try.func25, Try.ntmps25
    go_wp2_with fail
    go_ret
    exact ⟨rfl, rfl⟩
end Go.Proofs.Ytjpilhnkhhhdeaa
