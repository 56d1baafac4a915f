import Derived.Test.YtipejahmjdamjaaDoorProg
import Derived.Test.YtipejahmjdamjaaDoorAlMath
import Derived.WalkKit
import Derived.WalkSpells
import Derived.WalkLawsBesides
import Derived.Deep.QuietTactic
import Derived.BigQuiet
import Derived.Below
namespace Go.Proofs.YtipejahmjdamjaaDoor.Al
open Go.RowKit
set_option linter.unusedVariables false

theorem wrap_sg (x : Nat) (h : x < 4294967296) : wrap32 (x : Int) = sg x := by unfold wrap32 sg; split <;> omega
theorem wrap_mod (n : Int) : wrap32 n % 4294967296 = n % 4294967296 := by unfold wrap32; omega
theorem sg_zero (x : Nat) (h : x < 4294967296) (h0 : 0 < x) : ¬ sg x = 0 := by unfold sg; split <;> omega
theorem ret_int {k : IntKind} {a b : Int} (h : a = b) : Ending.returned (.int k a) = .returned (.int k b) := by rw [h]
theorem ret_bool {a b : Bool} (h : a = b) : Ending.returned (.bool a) = .returned (.bool b) := by rw [h]
/-- A number's word. -/
def wd (n : Int) : Nat := (n % 4294967296).toNat
theorem wd_cast (n : Int) : ((wd n : Nat) : Int) = n % 4294967296 := by unfold wd; omega
theorem wd_lt (n : Int) : wd n < 4294967296 := by unfold wd; omega

/-- A word of what holds or not. -/
def b2w (b : Bool) : Nat := if b then 1 else 0
theorem b2w_lt (b : Bool) : b2w b < 4294967296 := by unfold b2w; split <;> omega

/-- What an operation makes of two words. -/
def res : Nat → Nat → Nat → Nat
  | 5, x, y => wd ((x : Int) + y)
  | 6, x, y => wd ((x : Int) - y)
  | 7, x, y => wd ((x : Int) * y)
  | 8, x, y => wd (Int.tdiv (sg x) (sg y))
  | 9, x, y => wd (Int.tmod (sg x) (sg y))
  | 10, x, y => x &&& y
  | 11, x, y => x ||| y
  | 12, x, y => x ^^^ y
  | 13, x, y => wd ((x : Int) * 2 ^ (y % 32))
  | 14, x, y => x / 2 ^ (y % 32)
  | 15, x, y => wd (sg x / 2 ^ (y % 32))
  | 16, x, y => b2w (decide (sg x < sg y))
  | 17, x, y => b2w (decide (x < y))
  | _, _, _ => 0

set_option maxHeartbeats 400000 in
theorem oneIf_any (b : Bool) (w : World) : Calls Tryd.prog 91 #[.bool b] w fun e w' => e = .returned (.int .u32 (b2w b : Nat)) ∧ w' = w := by
  cases b
  · go_enter Tryd.func91, Tryd.ntmps91
    go_wp2
    go_ret
    exact ⟨rfl, rfl⟩
  · go_enter Tryd.func91, Tryd.ntmps91
    go_wp2
    go_ret
    exact ⟨rfl, rfl⟩

set_option maxHeartbeats 400000 in
theorem below_any (x y : Nat) (w : World) (hx : x < 4294967296) (hy : y < 4294967296) : Calls Tryd.prog 92 #[.int .u32 x, .int .u32 y] w fun e w' => e = .returned (.bool (decide (sg x < sg y))) ∧ w' = w := by
  have HX : Hid (wrap32 (x : Int) = sg x) := wrap_sg x hx
  have HY : Hid (wrap32 (y : Int) = sg y) := wrap_sg y hy
  go_enter Tryd.func92, Tryd.ntmps92
  go_wp2
  go_ret
  exact ⟨ret_bool (by rw [HX.out, HY.out]), rfl⟩

set_option maxHeartbeats 400000 in
theorem made_5 (x y : Nat) (w : World) (hx : x < 4294967296) (hy : y < 4294967296) : Calls Tryd.prog 80 #[.int .i64 5, .int .u32 x, .int .u32 y] w fun e w' => e = .returned (.int .u32 (res 5 x y : Nat)) ∧ w' = w := by
  have E := True.intro
  go_enter Tryd.func80, Tryd.ntmps80
  go_wp2
  go_ret
  exact ⟨ret_int ((wd_cast _).symm), rfl⟩

set_option maxHeartbeats 400000 in
theorem made_6 (x y : Nat) (w : World) (hx : x < 4294967296) (hy : y < 4294967296) : Calls Tryd.prog 80 #[.int .i64 6, .int .u32 x, .int .u32 y] w fun e w' => e = .returned (.int .u32 (res 6 x y : Nat)) ∧ w' = w := by
  have E := True.intro
  go_enter Tryd.func80, Tryd.ntmps80
  go_wp2
  go_ret
  exact ⟨ret_int ((wd_cast _).symm), rfl⟩

set_option maxHeartbeats 400000 in
theorem made_7 (x y : Nat) (w : World) (hx : x < 4294967296) (hy : y < 4294967296) : Calls Tryd.prog 80 #[.int .i64 7, .int .u32 x, .int .u32 y] w fun e w' => e = .returned (.int .u32 (res 7 x y : Nat)) ∧ w' = w := by
  have E := True.intro
  go_enter Tryd.func80, Tryd.ntmps80
  go_wp2
  go_ret
  exact ⟨ret_int ((wd_cast _).symm), rfl⟩

set_option maxHeartbeats 400000 in
theorem made_10 (x y : Nat) (w : World) (hx : x < 4294967296) (hy : y < 4294967296) : Calls Tryd.prog 80 #[.int .i64 10, .int .u32 x, .int .u32 y] w fun e w' => e = .returned (.int .u32 (res 10 x y : Nat)) ∧ w' = w := by
  have E := True.intro
  go_enter Tryd.func80, Tryd.ntmps80
  go_wp2
  go_ret
  exact ⟨ret_int (((u32_and_nat x y hx hy).symm).symm), rfl⟩

set_option maxHeartbeats 400000 in
theorem made_11 (x y : Nat) (w : World) (hx : x < 4294967296) (hy : y < 4294967296) : Calls Tryd.prog 80 #[.int .i64 11, .int .u32 x, .int .u32 y] w fun e w' => e = .returned (.int .u32 (res 11 x y : Nat)) ∧ w' = w := by
  have E := True.intro
  go_enter Tryd.func80, Tryd.ntmps80
  go_wp2
  go_ret
  exact ⟨ret_int (((u32_or_nat x y hx hy).symm).symm), rfl⟩

set_option maxHeartbeats 400000 in
theorem made_12 (x y : Nat) (w : World) (hx : x < 4294967296) (hy : y < 4294967296) : Calls Tryd.prog 80 #[.int .i64 12, .int .u32 x, .int .u32 y] w fun e w' => e = .returned (.int .u32 (res 12 x y : Nat)) ∧ w' = w := by
  have E := True.intro
  go_enter Tryd.func80, Tryd.ntmps80
  go_wp2
  go_ret
  exact ⟨ret_int (((u32_xor_nat x y hx hy).symm).symm), rfl⟩

set_option maxHeartbeats 400000 in
theorem made_13 (x y : Nat) (w : World) (hx : x < 4294967296) (hy : y < 4294967296) : Calls Tryd.prog 80 #[.int .i64 13, .int .u32 x, .int .u32 y] w fun e w' => e = .returned (.int .u32 (res 13 x y : Nat)) ∧ w' = w := by
  have E := True.intro
  go_enter Tryd.func80, Tryd.ntmps80
  go_wp2
  go_ret
  exact ⟨ret_int ((wd_cast _).symm), rfl⟩

set_option maxHeartbeats 400000 in
theorem made_14 (x y : Nat) (w : World) (hx : x < 4294967296) (hy : y < 4294967296) : Calls Tryd.prog 80 #[.int .i64 14, .int .u32 x, .int .u32 y] w fun e w' => e = .returned (.int .u32 (res 14 x y : Nat)) ∧ w' = w := by
  have E := True.intro
  go_enter Tryd.func80, Tryd.ntmps80
  go_wp2
  go_ret
  exact ⟨ret_int (by simp [res]), rfl⟩

set_option maxHeartbeats 400000 in
theorem made_8 (x y : Nat) (w : World) (hx : x < 4294967296) (hy : y < 4294967296) (h0 : 0 < y) : Calls Tryd.prog 80 #[.int .i64 8, .int .u32 x, .int .u32 y] w fun e w' => e = .returned (.int .u32 (res 8 x y : Nat)) ∧ w' = w := by
  have HX : Hid (wrap32 (x : Int) = sg x) := wrap_sg x hx
  have HY : Hid (wrap32 (y : Int) = sg y) := wrap_sg y hy
  have hn : ¬ wrap32 (y : Int) = 0 := by rw [HY.out]; exact sg_zero y hy h0
  go_enter Tryd.func80, Tryd.ntmps80
  go_wp2
  go_ret
  refine ⟨ret_int ?_, rfl⟩
  show _ = ((wd (Int.tdiv (sg x) (sg y)) : Nat) : Int)
  rw [wd_cast, wrap_mod, HX.out, HY.out]

set_option maxHeartbeats 400000 in
theorem made_9 (x y : Nat) (w : World) (hx : x < 4294967296) (hy : y < 4294967296) (h0 : 0 < y) : Calls Tryd.prog 80 #[.int .i64 9, .int .u32 x, .int .u32 y] w fun e w' => e = .returned (.int .u32 (res 9 x y : Nat)) ∧ w' = w := by
  have HX : Hid (wrap32 (x : Int) = sg x) := wrap_sg x hx
  have HY : Hid (wrap32 (y : Int) = sg y) := wrap_sg y hy
  have hn : ¬ wrap32 (y : Int) = 0 := by rw [HY.out]; exact sg_zero y hy h0
  go_enter Tryd.func80, Tryd.ntmps80
  go_wp2
  go_ret
  refine ⟨ret_int ?_, rfl⟩
  show _ = ((wd (Int.tmod (sg x) (sg y)) : Nat) : Int)
  rw [wd_cast, HX.out, HY.out]

set_option maxHeartbeats 400000 in
theorem made_15 (x y : Nat) (w : World) (hx : x < 4294967296) (hy : y < 4294967296) : Calls Tryd.prog 80 #[.int .i64 15, .int .u32 x, .int .u32 y] w fun e w' => e = .returned (.int .u32 (res 15 x y : Nat)) ∧ w' = w := by
  have HX : Hid (wrap32 (x : Int) = sg x) := wrap_sg x hx
  go_enter Tryd.func80, Tryd.ntmps80
  go_wp2
  go_ret
  refine ⟨ret_int ?_, rfl⟩
  show _ = ((wd (sg x / 2 ^ (y % 32)) : Nat) : Int)
  rw [wd_cast, ← HX.out]

set_option maxHeartbeats 400000 in
theorem made_16 (x y : Nat) (w : World) (hx : x < 4294967296) (hy : y < 4294967296) : Calls Tryd.prog 80 #[.int .i64 16, .int .u32 x, .int .u32 y] w fun e w' => e = .returned (.int .u32 (res 16 x y : Nat)) ∧ w' = w := by
  go_enter Tryd.func80, Tryd.ntmps80
  go_wp2_with fail
  refine (below_any x y _ hx hy).mono ?_
  rintro e w1 ⟨rfl, hw⟩
  obtain rfl := hw.symm
  clear hw
  go_wp2_with fail
  refine (oneIf_any _ _).mono ?_
  rintro e w1 ⟨rfl, hw⟩
  obtain rfl := hw.symm
  clear hw
  go_wp2_with fail
  go_ret
  exact ⟨rfl, rfl⟩

set_option maxHeartbeats 400000 in
theorem made_17 (x y : Nat) (w : World) (hx : x < 4294967296) (hy : y < 4294967296) : Calls Tryd.prog 80 #[.int .i64 17, .int .u32 x, .int .u32 y] w fun e w' => e = .returned (.int .u32 (res 17 x y : Nat)) ∧ w' = w := by
  go_enter Tryd.func80, Tryd.ntmps80
  go_wp2_with fail
  refine (oneIf_any _ _).mono ?_
  rintro e w1 ⟨rfl, hw⟩
  obtain rfl := hw.symm
  clear hw
  go_wp2_with fail
  go_ret
  exact ⟨rfl, rfl⟩

theorem made_any (k : Int) (x y : Nat) (w : World) (hx : x < 4294967296) (hy : y < 4294967296) (h1 : 5 ≤ k) (h2 : k ≤ 17) (h0 : k = 8 ∨ k = 9 → 0 < y) :
    Calls Tryd.prog 80 #[.int .i64 k, .int .u32 x, .int .u32 y] w fun e w' => e = .returned (.int .u32 (res k.toNat x y : Nat)) ∧ w' = w := by
  have h : k = 5 ∨ k = 6 ∨ k = 7 ∨ k = 8 ∨ k = 9 ∨ k = 10 ∨ k = 11 ∨ k = 12 ∨ k = 13 ∨ k = 14 ∨ k = 15 ∨ k = 16 ∨ k = 17 := by omega
  rcases h with rfl | rfl | rfl | rfl | rfl | rfl | rfl | rfl | rfl | rfl | rfl | rfl | rfl
  · exact made_5 x y w hx hy
  · exact made_6 x y w hx hy
  · exact made_7 x y w hx hy
  · exact made_8 x y w hx hy (h0 (.inl rfl))
  · exact made_9 x y w hx hy (h0 (.inr rfl))
  · exact made_10 x y w hx hy
  · exact made_11 x y w hx hy
  · exact made_12 x y w hx hy
  · exact made_13 x y w hx hy
  · exact made_14 x y w hx hy
  · exact made_15 x y w hx hy
  · exact made_16 x y w hx hy
  · exact made_17 x y w hx hy

end Go.Proofs.YtipejahmjdamjaaDoor.Al
namespace Go.Proofs.YtipejahmjdamjaaDoor.Al
open Go.RowKit
set_option linter.unusedVariables false

/-- Is it an operation that makes a word; one that branches? -/
def isDo (k : Int) : Bool := decide (5 ≤ k) && decide (k ≤ 17)
def isBr (k : Int) : Bool := decide (21 ≤ k) && decide (k ≤ 25)
theorem isDo_iff (k : Int) : isDo k = true ↔ 5 ≤ k ∧ k ≤ 17 := by simp [isDo]
theorem isBr_iff (k : Int) : isBr k = true ↔ 21 ≤ k ∧ k ≤ 25 := by simp [isBr]
/-- The error and the word of Do. -/
def doE (k : Int) (y : Nat) : Int := if isDo k then (if y = 0 ∧ (k = 8 ∨ k = 9) then 31 else 0) else 30
def doW (k : Int) (x y : Nat) : Nat := if doE k y = 0 then res k.toNat x y else 0
/-- What Takes answers. -/
def takeV (k : Int) (x y : Nat) : Bool := if k = 21 then x == y else if k = 22 then x != y else if k = 23 then decide (sg x < sg y) else if k = 24 then !decide (sg x < sg y) else if k = 25 then decide (x < y) else false
def takeE (k : Int) : Int := if isBr k then 0 else 30

set_option maxHeartbeats 400000 in
theorem does_any (k : Int) (w : World) : Calls Tryd.prog 79 #[.int .i64 k] w fun e w' => e = .returned (.bool (isDo k)) ∧ w' = w := by
  by_cases h1 : 5 ≤ k <;> by_cases h2 : k ≤ 17
  all_goals
    go_enter Tryd.func79, Tryd.ntmps79
    go_wp2
    go_ret
    exact ⟨ret_bool (by simp [isDo, h1, h2]), rfl⟩

set_option maxHeartbeats 400000 in
theorem branches_any (k : Int) (w : World) : Calls Tryd.prog 81 #[.int .i64 k] w fun e w' => e = .returned (.bool (isBr k)) ∧ w' = w := by
  by_cases h1 : 21 ≤ k <;> by_cases h2 : k ≤ 25
  all_goals
    go_enter Tryd.func81, Tryd.ntmps81
    go_wp2
    go_ret
    exact ⟨ret_bool (by simp [isBr, h1, h2]), rfl⟩

set_option maxHeartbeats 400000 in
theorem do_no (k : Int) (x y : Nat) (w : World) (h : isDo k = false) : Calls Tryd.prog 59 #[.int .i64 k, .int .u32 x, .int .u32 y] w fun e w' => e = .returned (.tuple #[.int .u32 0, .int .i64 30]) ∧ w' = w := by
  have D := fun w => does_any k w
  rw [h] at D
  have HD : Hid (∀ w, Calls _ _ _ w _) := D
  clear D h
  go_enter Tryd.func59, Tryd.ntmps59
  go_wp2_with fail
  refine (HD.out _).mono ?_
  rintro e w1 ⟨rfl, hw⟩
  obtain rfl := hw.symm
  clear hw
  go_wp2_with fail
  go_ret2
  exact ⟨rfl, rfl⟩

set_option maxHeartbeats 400000 in
theorem do_zero (k : Int) (x : Nat) (w : World) (h : k = 8 ∨ k = 9) : Calls Tryd.prog 59 #[.int .i64 k, .int .u32 x, .int .u32 0] w fun e w' => e = .returned (.tuple #[.int .u32 0, .int .i64 31]) ∧ w' = w := by
  have D := fun w => does_any k w
  have h' : isDo k = true := (isDo_iff k).2 (by omega)
  rw [h'] at D
  have HD : Hid (∀ w, Calls _ _ _ w _) := D
  clear D h'
  rcases h with rfl | rfl
  all_goals
    go_enter Tryd.func59, Tryd.ntmps59
    go_wp2_with fail
    refine (HD.out _).mono ?_
    rintro e w1 ⟨rfl, hw⟩
    obtain rfl := hw.symm
    clear hw
    go_wp2_with fail
    go_ret2
    exact ⟨rfl, rfl⟩

set_option maxHeartbeats 400000 in
theorem do_yes (k : Int) (x y : Nat) (w : World) (hx : x < 4294967296) (hy : y < 4294967296) (h : isDo k = true) (h0 : k = 8 ∨ k = 9 → 0 < y) :
    Calls Tryd.prog 59 #[.int .i64 k, .int .u32 x, .int .u32 y] w fun e w' => e = .returned (.tuple #[.int .u32 (res k.toNat x y : Nat), .int .i64 0]) ∧ w' = w := by
  have D := fun w => does_any k w
  have hk := (isDo_iff k).1 h
  rw [h] at D
  have HD : Hid (∀ w, Calls _ _ _ w _) := D
  have HM : Hid (∀ w, Calls _ _ _ w _) := fun w => made_any k x y w hx hy hk.1 hk.2 h0
  by_cases hz : 0 < y
  · have hn : ¬ (y : Int) = 0 := by omega
    clear D h hk h0 hz
    go_enter Tryd.func59, Tryd.ntmps59
    go_wp2_with fail
    refine (HD.out _).mono ?_
    rintro e w1 ⟨rfl, hw⟩
    obtain rfl := hw.symm
    clear hw
    go_wp2_with fail
    refine (HM.out _).mono ?_
    rintro e w1 ⟨rfl, hw⟩
    obtain rfl := hw.symm
    clear hw
    go_wp2_with fail
    go_ret2
    exact ⟨rfl, rfl⟩
  · have h8 : (k == 8) = false := beq_false_of_ne (fun h => hz (h0 (.inl h)))
    have h9 : (k == 9) = false := beq_false_of_ne (fun h => hz (h0 (.inr h)))
    obtain rfl : y = 0 := by omega
    clear D h hk h0 hz
    go_enter Tryd.func59, Tryd.ntmps59
    go_wp2_with fail
    refine (HD.out _).mono ?_
    rintro e w1 ⟨rfl, hw⟩
    obtain rfl := hw.symm
    clear hw
    go_wp2_with fail
    refine (HM.out _).mono ?_
    rintro e w1 ⟨rfl, hw⟩
    obtain rfl := hw.symm
    clear hw
    go_wp2_with fail
    go_ret2
    exact ⟨rfl, rfl⟩

theorem do_any (k : Int) (x y : Nat) (w : World) (hx : x < 4294967296) (hy : y < 4294967296) :
    Calls Tryd.prog 59 #[.int .i64 k, .int .u32 x, .int .u32 y] w fun e w' => e = .returned (.tuple #[.int .u32 (doW k x y : Nat), .int .i64 (doE k y)]) ∧ w' = w := by
  cases h : isDo k
  · have e1 : doE k y = 30 := by simp [doE, h]
    have e2 : doW k x y = 0 := by simp [doW, e1]
    rw [e1, e2]
    exact do_no k x y w h
  · by_cases h0 : y = 0 ∧ (k = 8 ∨ k = 9)
    · have e1 : doE k y = 31 := by simp [doE, h, h0]
      have e2 : doW k x y = 0 := by simp [doW, e1]
      rw [e1, e2, h0.1]
      exact do_zero k x w h0.2
    · have e1 : doE k y = 0 := by simp [doE, h, h0]
      have e2 : doW k x y = res k.toNat x y := by simp [doW, e1]
      rw [e1, e2]
      exact do_yes k x y w hx hy h (fun h => by by_cases a : y = 0; exact absurd ⟨a, h⟩ h0; omega)

theorem isDo_k (k : Nat) (h : 5 ≤ k) (h2 : k ≤ 17) : isDo k = true := (isDo_iff _).2 (by omega)

theorem eq_cast (x y : Nat) : ((x : Int) == (y : Int)) = (x == y) := by
  by_cases h : x = y
  · subst h; simp
  · have h' : ¬ (x : Int) = y := by omega
    rw [beq_false_of_ne h', beq_false_of_ne h]

set_option maxHeartbeats 400000 in
theorem taken_any (k : Int) (x y : Nat) (w : World) (hx : x < 4294967296) (hy : y < 4294967296) (h1 : 21 ≤ k) (h2 : k ≤ 25) :
    Calls Tryd.prog 82 #[.int .i64 k, .int .u32 x, .int .u32 y] w fun e w' => e = .returned (.bool (takeV k x y)) ∧ w' = w := by
  have h : k = 21 ∨ k = 22 ∨ k = 23 ∨ k = 24 ∨ k = 25 := by omega
  clear h1 h2
  rcases h with rfl | rfl | rfl | rfl | rfl
  · go_enter Tryd.func82, Tryd.ntmps82
    go_wp2_with fail
    go_ret
    refine ⟨ret_bool ?_, rfl⟩
    rw [eq_cast]
    simp [takeV]
  · go_enter Tryd.func82, Tryd.ntmps82
    go_wp2_with fail
    go_ret
    refine ⟨ret_bool ?_, rfl⟩
    rw [eq_cast]
    rfl
  · have HB : Hid (∀ w, Calls _ _ _ w _) := fun w => below_any x y w hx hy
    go_enter Tryd.func82, Tryd.ntmps82
    go_wp2_with fail
    refine (HB.out _).mono ?_
    rintro e w1 ⟨rfl, hw⟩
    obtain rfl := hw.symm
    clear hw
    go_wp2_with fail
    go_ret
    exact ⟨rfl, rfl⟩
  · have HB : Hid (∀ w, Calls _ _ _ w _) := fun w => below_any x y w hx hy
    go_enter Tryd.func82, Tryd.ntmps82
    go_wp2_with fail
    refine (HB.out _).mono ?_
    rintro e w1 ⟨rfl, hw⟩
    obtain rfl := hw.symm
    clear hw
    go_wp2_with fail
    go_ret
    exact ⟨rfl, rfl⟩
  · go_enter Tryd.func82, Tryd.ntmps82
    go_wp2_with fail
    go_ret
    exact ⟨rfl, rfl⟩

set_option maxHeartbeats 400000 in
theorem takes_no (k : Int) (x y : Nat) (w : World) (h : isBr k = false) : Calls Tryd.prog 63 #[.int .i64 k, .int .u32 x, .int .u32 y] w fun e w' => e = .returned (.tuple #[.bool false, .int .i64 30]) ∧ w' = w := by
  have D := fun w => branches_any k w
  rw [h] at D
  have HD : Hid (∀ w, Calls _ _ _ w _) := D
  clear D h
  go_enter Tryd.func63, Tryd.ntmps63
  go_wp2_with fail
  refine (HD.out _).mono ?_
  rintro e w1 ⟨rfl, hw⟩
  obtain rfl := hw.symm
  clear hw
  go_wp2_with fail
  go_ret2
  exact ⟨rfl, rfl⟩

set_option maxHeartbeats 400000 in
theorem takes_yes (k : Int) (x y : Nat) (w : World) (hx : x < 4294967296) (hy : y < 4294967296) (h : isBr k = true) : Calls Tryd.prog 63 #[.int .i64 k, .int .u32 x, .int .u32 y] w fun e w' => e = .returned (.tuple #[.bool (takeV k x y), .int .i64 0]) ∧ w' = w := by
  have D := fun w => branches_any k w
  have hk := (isBr_iff k).1 h
  rw [h] at D
  have HD : Hid (∀ w, Calls _ _ _ w _) := D
  have HM : Hid (∀ w, Calls _ _ _ w _) := fun w => taken_any k x y w hx hy hk.1 hk.2
  clear D h hk
  go_enter Tryd.func63, Tryd.ntmps63
  go_wp2_with fail
  refine (HD.out _).mono ?_
  rintro e w1 ⟨rfl, hw⟩
  obtain rfl := hw.symm
  clear hw
  go_wp2_with fail
  refine (HM.out _).mono ?_
  rintro e w1 ⟨rfl, hw⟩
  obtain rfl := hw.symm
  clear hw
  go_wp2_with fail
  go_ret2
  exact ⟨rfl, rfl⟩

theorem takes_any (k : Int) (x y : Nat) (w : World) (hx : x < 4294967296) (hy : y < 4294967296) : Calls Tryd.prog 63 #[.int .i64 k, .int .u32 x, .int .u32 y] w fun e w' => e = .returned (.tuple #[.bool (takeV k x y), .int .i64 (takeE k)]) ∧ w' = w := by
  cases h : isBr k
  · have hk : ¬ (21 ≤ k ∧ k ≤ 25) := fun a => by rw [(isBr_iff k).2 a] at h; cases h
    have e1 : takeE k = 30 := by simp [takeE, h]
    have e2 : takeV k x y = false := by
      unfold takeV
      rw [if_neg (by omega), if_neg (by omega), if_neg (by omega), if_neg (by omega), if_neg (by omega)]
    rw [e1, e2]
    exact takes_no k x y w h
  · have e1 : takeE k = 0 := by simp [takeE, h]
    rw [e1]
    exact takes_yes k x y w hx hy h
end Go.Proofs.YtipejahmjdamjaaDoor.Al
