import Derived.Test.YtipejahmjdamjaaGreatDoorProg
import Derived.Test.YtipejahmjdamjaaGreatDoorAlMath
import Derived.WalkKit
import Derived.WalkSpells
import Derived.WalkLawsBesides
import Derived.Deep.QuietTactic
import Derived.BigQuiet
import Derived.Below
namespace Go.Proofs.YtipejahmjdamjaaGreatDoor.Al
open Go.RowKit
set_option linter.unusedVariables false

theorem wrap_sg (x : Nat) (h : x < 4294967296) : wrap32 (x : Int) = sg x := by unfold wrap32 sg; split <;> omega
theorem wrap_mod (n : Int) : wrap32 n % 4294967296 = n % 4294967296 := by unfold wrap32; omega
theorem sg_zero (x : Nat) (h : x < 4294967296) (h0 : 0 < x) : ¬ sg x = 0 := by unfold sg; split <;> omega
theorem ret_int {k : IntKind} {a b : Int} (h : a = b) : Ending.returned (.int k a) = .returned (.int k b) := by rw [h]
theorem ret_bool {a b : Bool} (h : a = b) : Ending.returned (.bool a) = .returned (.bool b) := by rw [h]
/-- A number's word. -/
def wd (n : Int) : Nat := (n % 4294967296).toNat
theorem wd_cast (n : Int) : ((wd n : Nat) : Int) = n % 4294967296 := by unfold wd; omega
theorem wd_lt (n : Int) : wd n < 4294967296 := by unfold wd; omega

/-- A word of what holds or not. -/
def b2w (b : Bool) : Nat := if b then 1 else 0
theorem b2w_lt (b : Bool) : b2w b < 4294967296 := by unfold b2w; split <;> omega

/-- What an operation makes of two words. -/
def res : Nat → Nat → Nat → Nat
  | 5, x, y => wd ((x : Int) + y)
  | 6, x, y => wd ((x : Int) - y)
  | 7, x, y => wd ((x : Int) * y)
  | 8, x, y => wd (Int.tdiv (sg x) (sg y))
  | 9, x, y => wd (Int.tmod (sg x) (sg y))
  | 10, x, y => x &&& y
  | 11, x, y => x ||| y
  | 12, x, y => x ^^^ y
  | 13, x, y => wd ((x : Int) * 2 ^ (y % 32))
  | 14, x, y => x / 2 ^ (y % 32)
  | 15, x, y => wd (sg x / 2 ^ (y % 32))
  | 16, x, y => b2w (decide (sg x < sg y))
  | 17, x, y => b2w (decide (x < y))
  | _, _, _ => 0

set_option maxHeartbeats 400000 in
theorem oneIf_any (b : Bool) (w : World) : Calls Tryz.prog 209 #[.bool b] w fun e w' => e = .returned (.int .u32 (b2w b : Nat)) ∧ w' = w := by
  cases b
  · go_enter Tryz.func209, Tryz.ntmps209
    go_wp2
    go_ret
    exact ⟨rfl, rfl⟩
  · go_enter Tryz.func209, Tryz.ntmps209
    go_wp2
    go_ret
    exact ⟨rfl, rfl⟩

set_option maxHeartbeats 400000 in
theorem below_any (x y : Nat) (w : World) (hx : x < 4294967296) (hy : y < 4294967296) : Calls Tryz.prog 210 #[.int .u32 x, .int .u32 y] w fun e w' => e = .returned (.bool (decide (sg x < sg y))) ∧ w' = w := by
  have HX : Hid (wrap32 (x : Int) = sg x) := wrap_sg x hx
  have HY : Hid (wrap32 (y : Int) = sg y) := wrap_sg y hy
  go_enter Tryz.func210, Tryz.ntmps210
  go_wp2
  go_ret
  exact ⟨ret_bool (by rw [HX.out, HY.out]), rfl⟩

set_option maxHeartbeats 400000 in
theorem made_5 (x y : Nat) (w : World) (hx : x < 4294967296) (hy : y < 4294967296) : Calls Tryz.prog 205 #[.int .i64 5, .int .u32 x, .int .u32 y] w fun e w' => e = .returned (.int .u32 (res 5 x y : Nat)) ∧ w' = w := by
  have E := True.intro
  go_enter Tryz.func205, Tryz.ntmps205
  go_wp2
  go_ret
  exact ⟨ret_int ((wd_cast _).symm), rfl⟩

set_option maxHeartbeats 400000 in
theorem made_6 (x y : Nat) (w : World) (hx : x < 4294967296) (hy : y < 4294967296) : Calls Tryz.prog 205 #[.int .i64 6, .int .u32 x, .int .u32 y] w fun e w' => e = .returned (.int .u32 (res 6 x y : Nat)) ∧ w' = w := by
  have E := True.intro
  go_enter Tryz.func205, Tryz.ntmps205
  go_wp2
  go_ret
  exact ⟨ret_int ((wd_cast _).symm), rfl⟩

set_option maxHeartbeats 400000 in
theorem made_7 (x y : Nat) (w : World) (hx : x < 4294967296) (hy : y < 4294967296) : Calls Tryz.prog 205 #[.int .i64 7, .int .u32 x, .int .u32 y] w fun e w' => e = .returned (.int .u32 (res 7 x y : Nat)) ∧ w' = w := by
  have E := True.intro
  go_enter Tryz.func205, Tryz.ntmps205
  go_wp2
  go_ret
  exact ⟨ret_int ((wd_cast _).symm), rfl⟩

set_option maxHeartbeats 400000 in
theorem made_10 (x y : Nat) (w : World) (hx : x < 4294967296) (hy : y < 4294967296) : Calls Tryz.prog 205 #[.int .i64 10, .int .u32 x, .int .u32 y] w fun e w' => e = .returned (.int .u32 (res 10 x y : Nat)) ∧ w' = w := by
  have E := True.intro
  go_enter Tryz.func205, Tryz.ntmps205
  go_wp2
  go_ret
  exact ⟨ret_int (((u32_and_nat x y hx hy).symm).symm), rfl⟩

set_option maxHeartbeats 400000 in
theorem made_11 (x y : Nat) (w : World) (hx : x < 4294967296) (hy : y < 4294967296) : Calls Tryz.prog 205 #[.int .i64 11, .int .u32 x, .int .u32 y] w fun e w' => e = .returned (.int .u32 (res 11 x y : Nat)) ∧ w' = w := by
  have E := True.intro
  go_enter Tryz.func205, Tryz.ntmps205
  go_wp2
  go_ret
  exact ⟨ret_int (((u32_or_nat x y hx hy).symm).symm), rfl⟩

set_option maxHeartbeats 400000 in
theorem made_12 (x y : Nat) (w : World) (hx : x < 4294967296) (hy : y < 4294967296) : Calls Tryz.prog 205 #[.int .i64 12, .int .u32 x, .int .u32 y] w fun e w' => e = .returned (.int .u32 (res 12 x y : Nat)) ∧ w' = w := by
  have E := True.intro
  go_enter Tryz.func205, Tryz.ntmps205
  go_wp2
  go_ret
  exact ⟨ret_int (((u32_xor_nat x y hx hy).symm).symm), rfl⟩

set_option maxHeartbeats 400000 in
theorem made_13 (x y : Nat) (w : World) (hx : x < 4294967296) (hy : y < 4294967296) : Calls Tryz.prog 205 #[.int .i64 13, .int .u32 x, .int .u32 y] w fun e w' => e = .returned (.int .u32 (res 13 x y : Nat)) ∧ w' = w := by
  have E := True.intro
  go_enter Tryz.func205, Tryz.ntmps205
  go_wp2
  go_ret
  exact ⟨ret_int ((wd_cast _).symm), rfl⟩

set_option maxHeartbeats 400000 in
theorem made_14 (x y : Nat) (w : World) (hx : x < 4294967296) (hy : y < 4294967296) : Calls Tryz.prog 205 #[.int .i64 14, .int .u32 x, .int .u32 y] w fun e w' => e = .returned (.int .u32 (res 14 x y : Nat)) ∧ w' = w := by
  have E := True.intro
  go_enter Tryz.func205, Tryz.ntmps205
  go_wp2
  go_ret
  exact ⟨ret_int (by simp [res]), rfl⟩

set_option maxHeartbeats 400000 in
theorem made_8 (x y : Nat) (w : World) (hx : x < 4294967296) (hy : y < 4294967296) (h0 : 0 < y) : Calls Tryz.prog 205 #[.int .i64 8, .int .u32 x, .int .u32 y] w fun e w' => e = .returned (.int .u32 (res 8 x y : Nat)) ∧ w' = w := by
  have HX : Hid (wrap32 (x : Int) = sg x) := wrap_sg x hx
  have HY : Hid (wrap32 (y : Int) = sg y) := wrap_sg y hy
  have hn : ¬ wrap32 (y : Int) = 0 := by rw [HY.out]; exact sg_zero y hy h0
  go_enter Tryz.func205, Tryz.ntmps205
  go_wp2
  go_ret
  refine ⟨ret_int ?_, rfl⟩
  show _ = ((wd (Int.tdiv (sg x) (sg y)) : Nat) : Int)
  rw [wd_cast, wrap_mod, HX.out, HY.out]

set_option maxHeartbeats 400000 in
theorem made_9 (x y : Nat) (w : World) (hx : x < 4294967296) (hy : y < 4294967296) (h0 : 0 < y) : Calls Tryz.prog 205 #[.int .i64 9, .int .u32 x, .int .u32 y] w fun e w' => e = .returned (.int .u32 (res 9 x y : Nat)) ∧ w' = w := by
  have HX : Hid (wrap32 (x : Int) = sg x) := wrap_sg x hx
  have HY : Hid (wrap32 (y : Int) = sg y) := wrap_sg y hy
  have hn : ¬ wrap32 (y : Int) = 0 := by rw [HY.out]; exact sg_zero y hy h0
  go_enter Tryz.func205, Tryz.ntmps205
  go_wp2
  go_ret
  refine ⟨ret_int ?_, rfl⟩
  show _ = ((wd (Int.tmod (sg x) (sg y)) : Nat) : Int)
  rw [wd_cast, HX.out, HY.out]

set_option maxHeartbeats 400000 in
theorem made_15 (x y : Nat) (w : World) (hx : x < 4294967296) (hy : y < 4294967296) : Calls Tryz.prog 205 #[.int .i64 15, .int .u32 x, .int .u32 y] w fun e w' => e = .returned (.int .u32 (res 15 x y : Nat)) ∧ w' = w := by
  have HX : Hid (wrap32 (x : Int) = sg x) := wrap_sg x hx
  go_enter Tryz.func205, Tryz.ntmps205
  go_wp2
  go_ret
  refine ⟨ret_int ?_, rfl⟩
  show _ = ((wd (sg x / 2 ^ (y % 32)) : Nat) : Int)
  rw [wd_cast, ← HX.out]

set_option maxHeartbeats 400000 in
theorem made_16 (x y : Nat) (w : World) (hx : x < 4294967296) (hy : y < 4294967296) : Calls Tryz.prog 205 #[.int .i64 16, .int .u32 x, .int .u32 y] w fun e w' => e = .returned (.int .u32 (res 16 x y : Nat)) ∧ w' = w := by
  go_enter Tryz.func205, Tryz.ntmps205
  go_wp2_with fail
  refine (below_any x y _ hx hy).mono ?_
  rintro e w1 ⟨rfl, hw⟩
  obtain rfl := hw.symm
  clear hw
  go_wp2_with fail
  refine (oneIf_any _ _).mono ?_
  rintro e w1 ⟨rfl, hw⟩
  obtain rfl := hw.symm
  clear hw
  go_wp2_with fail
  go_ret
  exact ⟨rfl, rfl⟩

set_option maxHeartbeats 400000 in
theorem made_17 (x y : Nat) (w : World) (hx : x < 4294967296) (hy : y < 4294967296) : Calls Tryz.prog 205 #[.int .i64 17, .int .u32 x, .int .u32 y] w fun e w' => e = .returned (.int .u32 (res 17 x y : Nat)) ∧ w' = w := by
  go_enter Tryz.func205, Tryz.ntmps205
  go_wp2_with fail
  refine (oneIf_any _ _).mono ?_
  rintro e w1 ⟨rfl, hw⟩
  obtain rfl := hw.symm
  clear hw
  go_wp2_with fail
  go_ret
  exact ⟨rfl, rfl⟩

theorem made_any (k : Int) (x y : Nat) (w : World) (hx : x < 4294967296) (hy : y < 4294967296) (h1 : 5 ≤ k) (h2 : k ≤ 17) (h0 : k = 8 ∨ k = 9 → 0 < y) :
    Calls Tryz.prog 205 #[.int .i64 k, .int .u32 x, .int .u32 y] w fun e w' => e = .returned (.int .u32 (res k.toNat x y : Nat)) ∧ w' = w := by
  have h : k = 5 ∨ k = 6 ∨ k = 7 ∨ k = 8 ∨ k = 9 ∨ k = 10 ∨ k = 11 ∨ k = 12 ∨ k = 13 ∨ k = 14 ∨ k = 15 ∨ k = 16 ∨ k = 17 := by omega
  rcases h with rfl | rfl | rfl | rfl | rfl | rfl | rfl | rfl | rfl | rfl | rfl | rfl | rfl
  · exact made_5 x y w hx hy
  · exact made_6 x y w hx hy
  · exact made_7 x y w hx hy
  · exact made_8 x y w hx hy (h0 (.inl rfl))
  · exact made_9 x y w hx hy (h0 (.inr rfl))
  · exact made_10 x y w hx hy
  · exact made_11 x y w hx hy
  · exact made_12 x y w hx hy
  · exact made_13 x y w hx hy
  · exact made_14 x y w hx hy
  · exact made_15 x y w hx hy
  · exact made_16 x y w hx hy
  · exact made_17 x y w hx hy

end Go.Proofs.YtipejahmjdamjaaGreatDoor.Al
