import Derived.Test.YtipejahmjdamjaaGreatDoorAlA
namespace Go.Proofs.YtipejahmjdamjaaGreatDoor.Al
open Go.RowKit
set_option linter.unusedVariables false

/-- Is it an operation that makes a word; one that branches? -/
def isDo (k : Int) : Bool := decide (5 ≤ k) && decide (k ≤ 17)
def isBr (k : Int) : Bool := decide (21 ≤ k) && decide (k ≤ 25)
theorem isDo_iff (k : Int) : isDo k = true ↔ 5 ≤ k ∧ k ≤ 17 := by simp [isDo]
theorem isBr_iff (k : Int) : isBr k = true ↔ 21 ≤ k ∧ k ≤ 25 := by simp [isBr]
/-- The error and the word of Do. -/
def doE (k : Int) (y : Nat) : Int := if isDo k then (if y = 0 ∧ (k = 8 ∨ k = 9) then 31 else 0) else 30
def doW (k : Int) (x y : Nat) : Nat := if doE k y = 0 then res k.toNat x y else 0
/-- What Takes answers. -/
def takeV (k : Int) (x y : Nat) : Bool := if k = 21 then x == y else if k = 22 then x != y else if k = 23 then decide (sg x < sg y) else if k = 24 then !decide (sg x < sg y) else if k = 25 then decide (x < y) else false
def takeE (k : Int) : Int := if isBr k then 0 else 30

set_option maxHeartbeats 400000 in
theorem does_any (k : Int) (w : World) : Calls Tryz.prog 204 #[.int .i64 k] w fun e w' => e = .returned (.bool (isDo k)) ∧ w' = w := by
  by_cases h1 : 5 ≤ k <;> by_cases h2 : k ≤ 17
  all_goals
    go_enter Tryz.func204, Tryz.ntmps204
    go_wp2
    go_ret
    exact ⟨ret_bool (by simp [isDo, h1, h2]), rfl⟩

set_option maxHeartbeats 400000 in
theorem branches_any (k : Int) (w : World) : Calls Tryz.prog 206 #[.int .i64 k] w fun e w' => e = .returned (.bool (isBr k)) ∧ w' = w := by
  by_cases h1 : 21 ≤ k <;> by_cases h2 : k ≤ 25
  all_goals
    go_enter Tryz.func206, Tryz.ntmps206
    go_wp2
    go_ret
    exact ⟨ret_bool (by simp [isBr, h1, h2]), rfl⟩

set_option maxHeartbeats 400000 in
theorem do_no (k : Int) (x y : Nat) (w : World) (h : isDo k = false) : Calls Tryz.prog 186 #[.int .i64 k, .int .u32 x, .int .u32 y] w fun e w' => e = .returned (.tuple #[.int .u32 0, .int .i64 30]) ∧ w' = w := by
  have D := fun w => does_any k w
  rw [h] at D
  have HD : Hid (∀ w, Calls _ _ _ w _) := D
  clear D h
  go_enter Tryz.func186, Tryz.ntmps186
  go_wp2_with fail
  refine (HD.out _).mono ?_
  rintro e w1 ⟨rfl, hw⟩
  obtain rfl := hw.symm
  clear hw
  go_wp2_with fail
  go_ret2
  exact ⟨rfl, rfl⟩

set_option maxHeartbeats 400000 in
theorem do_zero (k : Int) (x : Nat) (w : World) (h : k = 8 ∨ k = 9) : Calls Tryz.prog 186 #[.int .i64 k, .int .u32 x, .int .u32 0] w fun e w' => e = .returned (.tuple #[.int .u32 0, .int .i64 31]) ∧ w' = w := by
  have D := fun w => does_any k w
  have h' : isDo k = true := (isDo_iff k).2 (by omega)
  rw [h'] at D
  have HD : Hid (∀ w, Calls _ _ _ w _) := D
  clear D h'
  rcases h with rfl | rfl
  all_goals
    go_enter Tryz.func186, Tryz.ntmps186
    go_wp2_with fail
    refine (HD.out _).mono ?_
    rintro e w1 ⟨rfl, hw⟩
    obtain rfl := hw.symm
    clear hw
    go_wp2_with fail
    go_ret2
    exact ⟨rfl, rfl⟩

set_option maxHeartbeats 400000 in
theorem do_yes (k : Int) (x y : Nat) (w : World) (hx : x < 4294967296) (hy : y < 4294967296) (h : isDo k = true) (h0 : k = 8 ∨ k = 9 → 0 < y) :
    Calls Tryz.prog 186 #[.int .i64 k, .int .u32 x, .int .u32 y] w fun e w' => e = .returned (.tuple #[.int .u32 (res k.toNat x y : Nat), .int .i64 0]) ∧ w' = w := by
  have D := fun w => does_any k w
  have hk := (isDo_iff k).1 h
  rw [h] at D
  have HD : Hid (∀ w, Calls _ _ _ w _) := D
  have HM : Hid (∀ w, Calls _ _ _ w _) := fun w => made_any k x y w hx hy hk.1 hk.2 h0
  by_cases hz : 0 < y
  · have hn : ¬ (y : Int) = 0 := by omega
    clear D h hk h0 hz
    go_enter Tryz.func186, Tryz.ntmps186
    go_wp2_with fail
    refine (HD.out _).mono ?_
    rintro e w1 ⟨rfl, hw⟩
    obtain rfl := hw.symm
    clear hw
    go_wp2_with fail
    refine (HM.out _).mono ?_
    rintro e w1 ⟨rfl, hw⟩
    obtain rfl := hw.symm
    clear hw
    go_wp2_with fail
    go_ret2
    exact ⟨rfl, rfl⟩
  · have h8 : (k == 8) = false := beq_false_of_ne (fun h => hz (h0 (.inl h)))
    have h9 : (k == 9) = false := beq_false_of_ne (fun h => hz (h0 (.inr h)))
    obtain rfl : y = 0 := by omega
    clear D h hk h0 hz
    go_enter Tryz.func186, Tryz.ntmps186
    go_wp2_with fail
    refine (HD.out _).mono ?_
    rintro e w1 ⟨rfl, hw⟩
    obtain rfl := hw.symm
    clear hw
    go_wp2_with fail
    refine (HM.out _).mono ?_
    rintro e w1 ⟨rfl, hw⟩
    obtain rfl := hw.symm
    clear hw
    go_wp2_with fail
    go_ret2
    exact ⟨rfl, rfl⟩

theorem do_any (k : Int) (x y : Nat) (w : World) (hx : x < 4294967296) (hy : y < 4294967296) :
    Calls Tryz.prog 186 #[.int .i64 k, .int .u32 x, .int .u32 y] w fun e w' => e = .returned (.tuple #[.int .u32 (doW k x y : Nat), .int .i64 (doE k y)]) ∧ w' = w := by
  cases h : isDo k
  · have e1 : doE k y = 30 := by simp [doE, h]
    have e2 : doW k x y = 0 := by simp [doW, e1]
    rw [e1, e2]
    exact do_no k x y w h
  · by_cases h0 : y = 0 ∧ (k = 8 ∨ k = 9)
    · have e1 : doE k y = 31 := by simp [doE, h, h0]
      have e2 : doW k x y = 0 := by simp [doW, e1]
      rw [e1, e2, h0.1]
      exact do_zero k x w h0.2
    · have e1 : doE k y = 0 := by simp [doE, h, h0]
      have e2 : doW k x y = res k.toNat x y := by simp [doW, e1]
      rw [e1, e2]
      exact do_yes k x y w hx hy h (fun h => by by_cases a : y = 0; exact absurd ⟨a, h⟩ h0; omega)

theorem isDo_k (k : Nat) (h : 5 ≤ k) (h2 : k ≤ 17) : isDo k = true := (isDo_iff _).2 (by omega)

theorem eq_cast (x y : Nat) : ((x : Int) == (y : Int)) = (x == y) := by
  by_cases h : x = y
  · subst h; simp
  · have h' : ¬ (x : Int) = y := by omega
    rw [beq_false_of_ne h', beq_false_of_ne h]

set_option maxHeartbeats 400000 in
theorem taken_any (k : Int) (x y : Nat) (w : World) (hx : x < 4294967296) (hy : y < 4294967296) (h1 : 21 ≤ k) (h2 : k ≤ 25) :
    Calls Tryz.prog 207 #[.int .i64 k, .int .u32 x, .int .u32 y] w fun e w' => e = .returned (.bool (takeV k x y)) ∧ w' = w := by
  have h : k = 21 ∨ k = 22 ∨ k = 23 ∨ k = 24 ∨ k = 25 := by omega
  clear h1 h2
  rcases h with rfl | rfl | rfl | rfl | rfl
  · go_enter Tryz.func207, Tryz.ntmps207
    go_wp2_with fail
    go_ret
    refine ⟨ret_bool ?_, rfl⟩
    rw [eq_cast]
    simp [takeV]
  · go_enter Tryz.func207, Tryz.ntmps207
    go_wp2_with fail
    go_ret
    refine ⟨ret_bool ?_, rfl⟩
    rw [eq_cast]
    rfl
  · have HB : Hid (∀ w, Calls _ _ _ w _) := fun w => below_any x y w hx hy
    go_enter Tryz.func207, Tryz.ntmps207
    go_wp2_with fail
    refine (HB.out _).mono ?_
    rintro e w1 ⟨rfl, hw⟩
    obtain rfl := hw.symm
    clear hw
    go_wp2_with fail
    go_ret
    exact ⟨rfl, rfl⟩
  · have HB : Hid (∀ w, Calls _ _ _ w _) := fun w => below_any x y w hx hy
    go_enter Tryz.func207, Tryz.ntmps207
    go_wp2_with fail
    refine (HB.out _).mono ?_
    rintro e w1 ⟨rfl, hw⟩
    obtain rfl := hw.symm
    clear hw
    go_wp2_with fail
    go_ret
    exact ⟨rfl, rfl⟩
  · go_enter Tryz.func207, Tryz.ntmps207
    go_wp2_with fail
    go_ret
    exact ⟨rfl, rfl⟩

set_option maxHeartbeats 400000 in
theorem takes_no (k : Int) (x y : Nat) (w : World) (h : isBr k = false) : Calls Tryz.prog 189 #[.int .i64 k, .int .u32 x, .int .u32 y] w fun e w' => e = .returned (.tuple #[.bool false, .int .i64 30]) ∧ w' = w := by
  have D := fun w => branches_any k w
  rw [h] at D
  have HD : Hid (∀ w, Calls _ _ _ w _) := D
  clear D h
  go_enter Tryz.func189, Tryz.ntmps189
  go_wp2_with fail
  refine (HD.out _).mono ?_
  rintro e w1 ⟨rfl, hw⟩
  obtain rfl := hw.symm
  clear hw
  go_wp2_with fail
  go_ret2
  exact ⟨rfl, rfl⟩

set_option maxHeartbeats 400000 in
theorem takes_yes (k : Int) (x y : Nat) (w : World) (hx : x < 4294967296) (hy : y < 4294967296) (h : isBr k = true) : Calls Tryz.prog 189 #[.int .i64 k, .int .u32 x, .int .u32 y] w fun e w' => e = .returned (.tuple #[.bool (takeV k x y), .int .i64 0]) ∧ w' = w := by
  have D := fun w => branches_any k w
  have hk := (isBr_iff k).1 h
  rw [h] at D
  have HD : Hid (∀ w, Calls _ _ _ w _) := D
  have HM : Hid (∀ w, Calls _ _ _ w _) := fun w => taken_any k x y w hx hy hk.1 hk.2
  clear D h hk
  go_enter Tryz.func189, Tryz.ntmps189
  go_wp2_with fail
  refine (HD.out _).mono ?_
  rintro e w1 ⟨rfl, hw⟩
  obtain rfl := hw.symm
  clear hw
  go_wp2_with fail
  refine (HM.out _).mono ?_
  rintro e w1 ⟨rfl, hw⟩
  obtain rfl := hw.symm
  clear hw
  go_wp2_with fail
  go_ret2
  exact ⟨rfl, rfl⟩

theorem takes_any (k : Int) (x y : Nat) (w : World) (hx : x < 4294967296) (hy : y < 4294967296) : Calls Tryz.prog 189 #[.int .i64 k, .int .u32 x, .int .u32 y] w fun e w' => e = .returned (.tuple #[.bool (takeV k x y), .int .i64 (takeE k)]) ∧ w' = w := by
  cases h : isBr k
  · have hk : ¬ (21 ≤ k ∧ k ≤ 25) := fun a => by rw [(isBr_iff k).2 a] at h; cases h
    have e1 : takeE k = 30 := by simp [takeE, h]
    have e2 : takeV k x y = false := by
      unfold takeV
      rw [if_neg (by omega), if_neg (by omega), if_neg (by omega), if_neg (by omega), if_neg (by omega)]
    rw [e1, e2]
    exact takes_no k x y w h
  · have e1 : takeE k = 0 := by simp [takeE, h]
    rw [e1]
    exact takes_yes k x y w hx hy h
end Go.Proofs.YtipejahmjdamjaaGreatDoor.Al
