import Derived.Test.YtipejahmjdamjaaGreatDoorProg
import Derived.WalkKit
import Derived.WalkSpells
import Derived.WalkLawsBesides
import Derived.Deep.QuietTactic
import Derived.BigQuiet
import Derived.Below
import Derived.Test.YtipejahmjdamjaaGreatDoorIsEnc
namespace Go.Proofs.YtipejahmjdamjaaGreatDoor.Al

/-- One round of the product that is added up place by place. -/
theorem times_odd (n x y : Nat) (hy : y % 2 = 1) : ((n + x) % 4294967296 + (2 * x) % 4294967296 * (y / 2)) % 4294967296 = (n + x * y) % 4294967296 := by
  have e : x * y = x + 2 * x * (y / 2) := by
    have : y = 2 * (y / 2) + 1 := by omega
    calc x * y = x * (2 * (y / 2) + 1) := by rw [← this]
      _ = x + 2 * x * (y / 2) := by rw [Nat.mul_add, Nat.mul_one, Nat.add_comm, ← Nat.mul_assoc, Nat.mul_comm x 2]
  rw [e, ← Nat.add_assoc, Nat.add_mod, Nat.mod_mod, Nat.mul_mod, Nat.mod_mod, ← Nat.mul_mod, ← Nat.add_mod]
theorem times_even (n x y : Nat) (hy : y % 2 = 0) : (n + (2 * x) % 4294967296 * (y / 2)) % 4294967296 = (n + x * y) % 4294967296 := by
  have e : x * y = 2 * x * (y / 2) := by
    have : y = 2 * (y / 2) := by omega
    calc x * y = x * (2 * (y / 2)) := by rw [← this]
      _ = 2 * x * (y / 2) := by rw [← Nat.mul_assoc, Nat.mul_comm x 2]
  rw [e, Nat.add_mod, Nat.mul_mod, Nat.mod_mod, ← Nat.mul_mod, ← Nat.add_mod]

/-- One round of the quotient, from the highest place on. -/
theorem place (N i : Nat) : N / 2 ^ i = 2 * (N / 2 ^ (i + 1)) + N / 2 ^ i % 2 := by
  rw [Nat.pow_succ, ← Nat.div_div_eq_div_mul]
  omega
theorem quot_step (m m' q r d b : Nat) (hm : m' = 2 * m + b) (h : m = q * d + r) (hr : r < d) (hb : b < 2) :
    (d ≤ 2 * r + b → m' = (2 * q + 1) * d + (2 * r + b - d) ∧ 2 * r + b - d < d) ∧ (¬ d ≤ 2 * r + b → m' = 2 * q * d + (2 * r + b) ∧ 2 * r + b < d) := by
  have e : 2 * (q * d) = 2 * q * d := by rw [Nat.mul_assoc]
  have e2 : (2 * q + 1) * d = 2 * q * d + d := by rw [Nat.add_mul, Nat.one_mul]
  constructor
  · intro h1
    rw [e2]
    constructor <;> omega
  · intro h1
    constructor <;> omega
theorem quot_end (N q r d : Nat) (h : N = q * d + r) (hr : r < d) : q = N / d ∧ r = N % d := by
  subst h
  constructor
  · rw [Nat.mul_comm, Nat.mul_add_div (by omega), Nat.div_eq_of_lt hr]; rfl
  · rw [Nat.mul_comm, Nat.mul_add_mod, Nat.mod_eq_of_lt hr]

/-- A bit as a number. -/
theorem bit_and (x y i : Nat) : (x &&& y) / 2 ^ i % 2 = if x / 2 ^ i % 2 + y / 2 ^ i % 2 = 2 then 1 else 0 := by
  have h := Nat.testBit_and x y i
  simp only [Nat.testBit_eq_decide_div_mod_eq] at h
  have a := Nat.mod_two_eq_zero_or_one (x / 2 ^ i)
  have b := Nat.mod_two_eq_zero_or_one (y / 2 ^ i)
  have c := Nat.mod_two_eq_zero_or_one ((x &&& y) / 2 ^ i)
  rcases a with a | a <;> rcases b with b | b <;> rcases c with c | c <;> simp_all
theorem bit_or (x y i : Nat) : (x ||| y) / 2 ^ i % 2 = if 0 < x / 2 ^ i % 2 + y / 2 ^ i % 2 then 1 else 0 := by
  have h := Nat.testBit_or x y i
  simp only [Nat.testBit_eq_decide_div_mod_eq] at h
  have a := Nat.mod_two_eq_zero_or_one (x / 2 ^ i)
  have b := Nat.mod_two_eq_zero_or_one (y / 2 ^ i)
  have c := Nat.mod_two_eq_zero_or_one ((x ||| y) / 2 ^ i)
  rcases a with a | a <;> rcases b with b | b <;> rcases c with c | c <;> simp_all
theorem bit_xor (x y i : Nat) : (x ^^^ y) / 2 ^ i % 2 = if x / 2 ^ i % 2 + y / 2 ^ i % 2 = 1 then 1 else 0 := by
  have h := Nat.testBit_xor x y i
  simp only [Nat.testBit_eq_decide_div_mod_eq] at h
  have a := Nat.mod_two_eq_zero_or_one (x / 2 ^ i)
  have b := Nat.mod_two_eq_zero_or_one (y / 2 ^ i)
  have c := Nat.mod_two_eq_zero_or_one ((x ^^^ y) / 2 ^ i)
  rcases a with a | a <;> rcases b with b | b <;> rcases c with c | c <;> simp_all

/-- Moved by one place and then by n. -/
theorem shl_step (x n : Nat) : (2 * x % 4294967296) * 2 ^ n % 4294967296 = x * 2 ^ (n + 1) % 4294967296 := by
  rw [Nat.mul_mod, Nat.mod_mod, ← Nat.mul_mod, Nat.pow_succ, Nat.mul_comm 2 x, Nat.mul_assoc, Nat.mul_comm 2 (2 ^ n)]
theorem shr_step (x n : Nat) : x / 2 / 2 ^ n = x / 2 ^ (n + 1) := by
  rw [Nat.div_div_eq_div_mul, Nat.pow_succ, Nat.mul_comm]

theorem low_and (x y : Nat) : (x &&& y) % 2 = if x % 2 + y % 2 = 2 then 1 else 0 := by simpa using bit_and x y 0
theorem low_or (x y : Nat) : (x ||| y) % 2 = if 0 < x % 2 + y % 2 then 1 else 0 := by simpa using bit_or x y 0
theorem low_xor (x y : Nat) : (x ^^^ y) % 2 = if x % 2 + y % 2 = 1 then 1 else 0 := by simpa using bit_xor x y 0
/-- Parted and joined again. -/
theorem and_add_or (n : Nat) : ∀ x y : Nat, x < 2 ^ n → y < 2 ^ n → (x &&& y) + (x ||| y) = x + y ∧ (x &&& y) + (x ^^^ y) = x ||| y := by
  induction n with
  | zero =>
    intro x y hx hy
    obtain rfl : x = 0 := by simpa using hx
    obtain rfl : y = 0 := by simpa using hy
    decide
  | succ n ih =>
    intro x y hx hy
    rw [Nat.pow_succ] at hx hy
    obtain ⟨h1, h2⟩ := ih (x / 2) (y / 2) (by omega) (by omega)
    have a := low_and x y
    have o := low_or x y
    have r := low_xor x y
    have a2 : (x &&& y) / 2 = x / 2 &&& y / 2 := Nat.and_div_two
    have o2 : (x ||| y) / 2 = x / 2 ||| y / 2 := Nat.or_div_two
    have r2 : (x ^^^ y) / 2 = x / 2 ^^^ y / 2 := Nat.xor_div_two
    rw [← a2, ← o2] at h1
    rw [← a2, ← r2, ← o2] at h2
    have mx := Nat.mod_two_eq_zero_or_one x
    have my := Nat.mod_two_eq_zero_or_one y
    generalize x &&& y = A at *
    generalize x ||| y = O at *
    generalize x ^^^ y = R at *
    rcases mx with mx | mx <;> rcases my with my | my <;> rw [mx, my] at a o r <;> split at a <;> split at o <;> split at r <;> constructor <;> omega

/-- Signed. -/
def sg (x : Nat) : Int := if 2147483648 ≤ x then (x : Int) - 4294967296 else x
theorem sg_bd (x : Nat) (h : x < 4294967296) : -2147483648 ≤ sg x ∧ sg x < 2147483648 := by unfold sg; split <;> omega
theorem sg_mod (x : Nat) (h : x < 4294967296) : sg x % 4294967296 = x := by unfold sg; split <;> omega
/-- The quotient cut towards zero, by the magnitudes. -/
theorem tdiv_mag (n d : Int) : Int.tdiv n d = if (decide (n < 0) != decide (d < 0)) = true then -((n.natAbs / d.natAbs : Nat) : Int) else ((n.natAbs / d.natAbs : Nat) : Int) := by
  by_cases hn : n < 0
  · obtain ⟨m, rfl⟩ : ∃ m : Nat, n = -(m : Int) := ⟨n.natAbs, by omega⟩
    by_cases hd : d < 0
    · obtain ⟨k, rfl⟩ : ∃ k : Nat, d = -(k : Int) := ⟨d.natAbs, by omega⟩
      simp only [Int.neg_tdiv, Int.tdiv_neg, hn, hd, Int.natAbs_neg, Int.natAbs_natCast]
      simp
    · obtain ⟨k, rfl⟩ : ∃ k : Nat, d = (k : Int) := ⟨d.natAbs, by omega⟩
      simp only [Int.neg_tdiv, hn, hd, Int.natAbs_neg, Int.natAbs_natCast]
      simp
  · obtain ⟨m, rfl⟩ : ∃ m : Nat, n = (m : Int) := ⟨n.natAbs, by omega⟩
    by_cases hd : d < 0
    · obtain ⟨k, rfl⟩ : ∃ k : Nat, d = -(k : Int) := ⟨d.natAbs, by omega⟩
      simp only [Int.tdiv_neg, hn, hd, Int.natAbs_neg, Int.natAbs_natCast]
      simp
    · obtain ⟨k, rfl⟩ : ∃ k : Nat, d = (k : Int) := ⟨d.natAbs, by omega⟩
      simp only [hn, hd, Int.natAbs_natCast]
      simp
theorem tmod_mag (n d : Int) : Int.tmod n d = if n < 0 then -((n.natAbs % d.natAbs : Nat) : Int) else ((n.natAbs % d.natAbs : Nat) : Int) := by
  have e : Int.tmod n d = Int.tmod n (d.natAbs : Int) := by
    rcases Int.natAbs_eq d with hd | hd
    · rw [← hd]
    · generalize d.natAbs = k at *
      rw [hd, Int.tmod_neg]
  rw [e]
  by_cases hn : n < 0
  · obtain ⟨m, rfl⟩ : ∃ m : Nat, n = -(m : Int) := ⟨n.natAbs, by omega⟩
    rw [if_pos hn, Int.neg_tmod, Int.natAbs_neg, Int.natAbs_natCast]
    rfl
  · obtain ⟨m, rfl⟩ : ∃ m : Nat, n = (m : Int) := ⟨n.natAbs, by omega⟩
    rw [if_neg hn, Int.natAbs_natCast]
    rfl
theorem sar_high (x : Nat) (h : x < 4294967296) (hh : 2147483648 ≤ x) : sg (x / 2 + 2147483648) = sg x / 2 := by
  unfold sg
  rw [if_pos (by omega), if_pos hh]
  omega
theorem sar_low (x : Nat) (hh : ¬ 2147483648 ≤ x) : sg (x / 2) = sg x / 2 := by
  unfold sg
  rw [if_neg (by omega), if_neg hh]
  omega
theorem sar_step (z : Int) (n : Nat) : z / 2 / 2 ^ n = z / 2 ^ (n + 1) := by
  rw [Int.ediv_ediv_of_nonneg (by omega), Int.pow_succ, Int.mul_comm]
/-- The highest bit. -/
theorem high_bit (x : Nat) (h : x < 4294967296) : x / 2147483648 % 2 = if 2147483648 ≤ x then 1 else 0 := by
  split <;> omega
end Go.Proofs.YtipejahmjdamjaaGreatDoor.Al
namespace Go.Proofs.YtipejahmjdamjaaGreatDoor.Al
open Go.RowKit
set_option linter.unusedVariables false

theorem wrap_sg (x : Nat) (h : x < 4294967296) : wrap32 (x : Int) = sg x := by unfold wrap32 sg; split <;> omega
theorem wrap_mod (n : Int) : wrap32 n % 4294967296 = n % 4294967296 := by unfold wrap32; omega
theorem sg_zero (x : Nat) (h : x < 4294967296) (h0 : 0 < x) : ¬ sg x = 0 := by unfold sg; split <;> omega
theorem ret_int {k : IntKind} {a b : Int} (h : a = b) : Ending.returned (.int k a) = .returned (.int k b) := by rw [h]
theorem ret_bool {a b : Bool} (h : a = b) : Ending.returned (.bool a) = .returned (.bool b) := by rw [h]
/-- A number's word. -/
def wd (n : Int) : Nat := (n % 4294967296).toNat
theorem wd_cast (n : Int) : ((wd n : Nat) : Int) = n % 4294967296 := by unfold wd; omega
theorem wd_lt (n : Int) : wd n < 4294967296 := by unfold wd; omega

/-- A word of what holds or not. -/
def b2w (b : Bool) : Nat := if b then 1 else 0
theorem b2w_lt (b : Bool) : b2w b < 4294967296 := by unfold b2w; split <;> omega

/-- What an operation makes of two words. -/
def res : Nat → Nat → Nat → Nat
  | 5, x, y => wd ((x : Int) + y)
  | 6, x, y => wd ((x : Int) - y)
  | 7, x, y => wd ((x : Int) * y)
  | 8, x, y => wd (Int.tdiv (sg x) (sg y))
  | 9, x, y => wd (Int.tmod (sg x) (sg y))
  | 10, x, y => x &&& y
  | 11, x, y => x ||| y
  | 12, x, y => x ^^^ y
  | 13, x, y => wd ((x : Int) * 2 ^ (y % 32))
  | 14, x, y => x / 2 ^ (y % 32)
  | 15, x, y => wd (sg x / 2 ^ (y % 32))
  | 16, x, y => b2w (decide (sg x < sg y))
  | 17, x, y => b2w (decide (x < y))
  | _, _, _ => 0

set_option maxHeartbeats 400000 in
theorem oneIf_any (b : Bool) (w : World) : Calls Tryz.prog 209 #[.bool b] w fun e w' => e = .returned (.int .u32 (b2w b : Nat)) ∧ w' = w := by
  cases b
  · go_enter Tryz.func209, Tryz.ntmps209
    go_wp2
    go_ret
    exact ⟨rfl, rfl⟩
  · go_enter Tryz.func209, Tryz.ntmps209
    go_wp2
    go_ret
    exact ⟨rfl, rfl⟩

set_option maxHeartbeats 400000 in
theorem below_any (x y : Nat) (w : World) (hx : x < 4294967296) (hy : y < 4294967296) : Calls Tryz.prog 210 #[.int .u32 x, .int .u32 y] w fun e w' => e = .returned (.bool (decide (sg x < sg y))) ∧ w' = w := by
  have HX : Hid (wrap32 (x : Int) = sg x) := wrap_sg x hx
  have HY : Hid (wrap32 (y : Int) = sg y) := wrap_sg y hy
  go_enter Tryz.func210, Tryz.ntmps210
  go_wp2
  go_ret
  exact ⟨ret_bool (by rw [HX.out, HY.out]), rfl⟩

set_option maxHeartbeats 400000 in
theorem made_5 (x y : Nat) (w : World) (hx : x < 4294967296) (hy : y < 4294967296) : Calls Tryz.prog 205 #[.int .i64 5, .int .u32 x, .int .u32 y] w fun e w' => e = .returned (.int .u32 (res 5 x y : Nat)) ∧ w' = w := by
  have E := True.intro
  go_enter Tryz.func205, Tryz.ntmps205
  go_wp2
  go_ret
  exact ⟨ret_int ((wd_cast _).symm), rfl⟩

set_option maxHeartbeats 400000 in
theorem made_6 (x y : Nat) (w : World) (hx : x < 4294967296) (hy : y < 4294967296) : Calls Tryz.prog 205 #[.int .i64 6, .int .u32 x, .int .u32 y] w fun e w' => e = .returned (.int .u32 (res 6 x y : Nat)) ∧ w' = w := by
  have E := True.intro
  go_enter Tryz.func205, Tryz.ntmps205
  go_wp2
  go_ret
  exact ⟨ret_int ((wd_cast _).symm), rfl⟩

set_option maxHeartbeats 400000 in
theorem made_7 (x y : Nat) (w : World) (hx : x < 4294967296) (hy : y < 4294967296) : Calls Tryz.prog 205 #[.int .i64 7, .int .u32 x, .int .u32 y] w fun e w' => e = .returned (.int .u32 (res 7 x y : Nat)) ∧ w' = w := by
  have E := True.intro
  go_enter Tryz.func205, Tryz.ntmps205
  go_wp2
  go_ret
  exact ⟨ret_int ((wd_cast _).symm), rfl⟩

set_option maxHeartbeats 400000 in
theorem made_10 (x y : Nat) (w : World) (hx : x < 4294967296) (hy : y < 4294967296) : Calls Tryz.prog 205 #[.int .i64 10, .int .u32 x, .int .u32 y] w fun e w' => e = .returned (.int .u32 (res 10 x y : Nat)) ∧ w' = w := by
  have E := True.intro
  go_enter Tryz.func205, Tryz.ntmps205
  go_wp2
  go_ret
  exact ⟨ret_int (((u32_and_nat x y hx hy).symm).symm), rfl⟩

set_option maxHeartbeats 400000 in
theorem made_11 (x y : Nat) (w : World) (hx : x < 4294967296) (hy : y < 4294967296) : Calls Tryz.prog 205 #[.int .i64 11, .int .u32 x, .int .u32 y] w fun e w' => e = .returned (.int .u32 (res 11 x y : Nat)) ∧ w' = w := by
  have E := True.intro
  go_enter Tryz.func205, Tryz.ntmps205
  go_wp2
  go_ret
  exact ⟨ret_int (((u32_or_nat x y hx hy).symm).symm), rfl⟩

set_option maxHeartbeats 400000 in
theorem made_12 (x y : Nat) (w : World) (hx : x < 4294967296) (hy : y < 4294967296) : Calls Tryz.prog 205 #[.int .i64 12, .int .u32 x, .int .u32 y] w fun e w' => e = .returned (.int .u32 (res 12 x y : Nat)) ∧ w' = w := by
  have E := True.intro
  go_enter Tryz.func205, Tryz.ntmps205
  go_wp2
  go_ret
  exact ⟨ret_int (((u32_xor_nat x y hx hy).symm).symm), rfl⟩

set_option maxHeartbeats 400000 in
theorem made_13 (x y : Nat) (w : World) (hx : x < 4294967296) (hy : y < 4294967296) : Calls Tryz.prog 205 #[.int .i64 13, .int .u32 x, .int .u32 y] w fun e w' => e = .returned (.int .u32 (res 13 x y : Nat)) ∧ w' = w := by
  have E := True.intro
  go_enter Tryz.func205, Tryz.ntmps205
  go_wp2
  go_ret
  exact ⟨ret_int ((wd_cast _).symm), rfl⟩

set_option maxHeartbeats 400000 in
theorem made_14 (x y : Nat) (w : World) (hx : x < 4294967296) (hy : y < 4294967296) : Calls Tryz.prog 205 #[.int .i64 14, .int .u32 x, .int .u32 y] w fun e w' => e = .returned (.int .u32 (res 14 x y : Nat)) ∧ w' = w := by
  have E := True.intro
  go_enter Tryz.func205, Tryz.ntmps205
  go_wp2
  go_ret
  exact ⟨ret_int (by simp [res]), rfl⟩

set_option maxHeartbeats 400000 in
theorem made_8 (x y : Nat) (w : World) (hx : x < 4294967296) (hy : y < 4294967296) (h0 : 0 < y) : Calls Tryz.prog 205 #[.int .i64 8, .int .u32 x, .int .u32 y] w fun e w' => e = .returned (.int .u32 (res 8 x y : Nat)) ∧ w' = w := by
  have HX : Hid (wrap32 (x : Int) = sg x) := wrap_sg x hx
  have HY : Hid (wrap32 (y : Int) = sg y) := wrap_sg y hy
  have hn : ¬ wrap32 (y : Int) = 0 := by rw [HY.out]; exact sg_zero y hy h0
  go_enter Tryz.func205, Tryz.ntmps205
  go_wp2
  go_ret
  refine ⟨ret_int ?_, rfl⟩
  show _ = ((wd (Int.tdiv (sg x) (sg y)) : Nat) : Int)
  rw [wd_cast, wrap_mod, HX.out, HY.out]

set_option maxHeartbeats 400000 in
theorem made_9 (x y : Nat) (w : World) (hx : x < 4294967296) (hy : y < 4294967296) (h0 : 0 < y) : Calls Tryz.prog 205 #[.int .i64 9, .int .u32 x, .int .u32 y] w fun e w' => e = .returned (.int .u32 (res 9 x y : Nat)) ∧ w' = w := by
  have HX : Hid (wrap32 (x : Int) = sg x) := wrap_sg x hx
  have HY : Hid (wrap32 (y : Int) = sg y) := wrap_sg y hy
  have hn : ¬ wrap32 (y : Int) = 0 := by rw [HY.out]; exact sg_zero y hy h0
  go_enter Tryz.func205, Tryz.ntmps205
  go_wp2
  go_ret
  refine ⟨ret_int ?_, rfl⟩
  show _ = ((wd (Int.tmod (sg x) (sg y)) : Nat) : Int)
  rw [wd_cast, HX.out, HY.out]

set_option maxHeartbeats 400000 in
theorem made_15 (x y : Nat) (w : World) (hx : x < 4294967296) (hy : y < 4294967296) : Calls Tryz.prog 205 #[.int .i64 15, .int .u32 x, .int .u32 y] w fun e w' => e = .returned (.int .u32 (res 15 x y : Nat)) ∧ w' = w := by
  have HX : Hid (wrap32 (x : Int) = sg x) := wrap_sg x hx
  go_enter Tryz.func205, Tryz.ntmps205
  go_wp2
  go_ret
  refine ⟨ret_int ?_, rfl⟩
  show _ = ((wd (sg x / 2 ^ (y % 32)) : Nat) : Int)
  rw [wd_cast, ← HX.out]

set_option maxHeartbeats 400000 in
theorem made_16 (x y : Nat) (w : World) (hx : x < 4294967296) (hy : y < 4294967296) : Calls Tryz.prog 205 #[.int .i64 16, .int .u32 x, .int .u32 y] w fun e w' => e = .returned (.int .u32 (res 16 x y : Nat)) ∧ w' = w := by
  go_enter Tryz.func205, Tryz.ntmps205
  go_wp2_with fail
  refine (below_any x y _ hx hy).mono ?_
  rintro e w1 ⟨rfl, hw⟩
  obtain rfl := hw.symm
  clear hw
  go_wp2_with fail
  refine (oneIf_any _ _).mono ?_
  rintro e w1 ⟨rfl, hw⟩
  obtain rfl := hw.symm
  clear hw
  go_wp2_with fail
  go_ret
  exact ⟨rfl, rfl⟩

set_option maxHeartbeats 400000 in
theorem made_17 (x y : Nat) (w : World) (hx : x < 4294967296) (hy : y < 4294967296) : Calls Tryz.prog 205 #[.int .i64 17, .int .u32 x, .int .u32 y] w fun e w' => e = .returned (.int .u32 (res 17 x y : Nat)) ∧ w' = w := by
  go_enter Tryz.func205, Tryz.ntmps205
  go_wp2_with fail
  refine (oneIf_any _ _).mono ?_
  rintro e w1 ⟨rfl, hw⟩
  obtain rfl := hw.symm
  clear hw
  go_wp2_with fail
  go_ret
  exact ⟨rfl, rfl⟩

theorem made_any (k : Int) (x y : Nat) (w : World) (hx : x < 4294967296) (hy : y < 4294967296) (h1 : 5 ≤ k) (h2 : k ≤ 17) (h0 : k = 8 ∨ k = 9 → 0 < y) :
    Calls Tryz.prog 205 #[.int .i64 k, .int .u32 x, .int .u32 y] w fun e w' => e = .returned (.int .u32 (res k.toNat x y : Nat)) ∧ w' = w := by
  have h : k = 5 ∨ k = 6 ∨ k = 7 ∨ k = 8 ∨ k = 9 ∨ k = 10 ∨ k = 11 ∨ k = 12 ∨ k = 13 ∨ k = 14 ∨ k = 15 ∨ k = 16 ∨ k = 17 := by omega
  rcases h with rfl | rfl | rfl | rfl | rfl | rfl | rfl | rfl | rfl | rfl | rfl | rfl | rfl
  · exact made_5 x y w hx hy
  · exact made_6 x y w hx hy
  · exact made_7 x y w hx hy
  · exact made_8 x y w hx hy (h0 (.inl rfl))
  · exact made_9 x y w hx hy (h0 (.inr rfl))
  · exact made_10 x y w hx hy
  · exact made_11 x y w hx hy
  · exact made_12 x y w hx hy
  · exact made_13 x y w hx hy
  · exact made_14 x y w hx hy
  · exact made_15 x y w hx hy
  · exact made_16 x y w hx hy
  · exact made_17 x y w hx hy

end Go.Proofs.YtipejahmjdamjaaGreatDoor.Al
namespace Go.Proofs.YtipejahmjdamjaaGreatDoor.Al
open Go.RowKit
set_option linter.unusedVariables false

/-- Is it an operation that makes a word; one that branches? -/
def isDo (k : Int) : Bool := decide (5 ≤ k) && decide (k ≤ 17)
def isBr (k : Int) : Bool := decide (21 ≤ k) && decide (k ≤ 25)
theorem isDo_iff (k : Int) : isDo k = true ↔ 5 ≤ k ∧ k ≤ 17 := by simp [isDo]
theorem isBr_iff (k : Int) : isBr k = true ↔ 21 ≤ k ∧ k ≤ 25 := by simp [isBr]
/-- The error and the word of Do. -/
def doE (k : Int) (y : Nat) : Int := if isDo k then (if y = 0 ∧ (k = 8 ∨ k = 9) then 31 else 0) else 30
def doW (k : Int) (x y : Nat) : Nat := if doE k y = 0 then res k.toNat x y else 0
/-- What Takes answers. -/
def takeV (k : Int) (x y : Nat) : Bool := if k = 21 then x == y else if k = 22 then x != y else if k = 23 then decide (sg x < sg y) else if k = 24 then !decide (sg x < sg y) else if k = 25 then decide (x < y) else false
def takeE (k : Int) : Int := if isBr k then 0 else 30

set_option maxHeartbeats 400000 in
theorem does_any (k : Int) (w : World) : Calls Tryz.prog 204 #[.int .i64 k] w fun e w' => e = .returned (.bool (isDo k)) ∧ w' = w := by
  by_cases h1 : 5 ≤ k <;> by_cases h2 : k ≤ 17
  all_goals
    go_enter Tryz.func204, Tryz.ntmps204
    go_wp2
    go_ret
    exact ⟨ret_bool (by simp [isDo, h1, h2]), rfl⟩

set_option maxHeartbeats 400000 in
theorem branches_any (k : Int) (w : World) : Calls Tryz.prog 206 #[.int .i64 k] w fun e w' => e = .returned (.bool (isBr k)) ∧ w' = w := by
  by_cases h1 : 21 ≤ k <;> by_cases h2 : k ≤ 25
  all_goals
    go_enter Tryz.func206, Tryz.ntmps206
    go_wp2
    go_ret
    exact ⟨ret_bool (by simp [isBr, h1, h2]), rfl⟩

set_option maxHeartbeats 400000 in
theorem do_no (k : Int) (x y : Nat) (w : World) (h : isDo k = false) : Calls Tryz.prog 186 #[.int .i64 k, .int .u32 x, .int .u32 y] w fun e w' => e = .returned (.tuple #[.int .u32 0, .int .i64 30]) ∧ w' = w := by
  have D := fun w => does_any k w
  rw [h] at D
  have HD : Hid (∀ w, Calls _ _ _ w _) := D
  clear D h
  go_enter Tryz.func186, Tryz.ntmps186
  go_wp2_with fail
  refine (HD.out _).mono ?_
  rintro e w1 ⟨rfl, hw⟩
  obtain rfl := hw.symm
  clear hw
  go_wp2_with fail
  go_ret2
  exact ⟨rfl, rfl⟩

set_option maxHeartbeats 400000 in
theorem do_zero (k : Int) (x : Nat) (w : World) (h : k = 8 ∨ k = 9) : Calls Tryz.prog 186 #[.int .i64 k, .int .u32 x, .int .u32 0] w fun e w' => e = .returned (.tuple #[.int .u32 0, .int .i64 31]) ∧ w' = w := by
  have D := fun w => does_any k w
  have h' : isDo k = true := (isDo_iff k).2 (by omega)
  rw [h'] at D
  have HD : Hid (∀ w, Calls _ _ _ w _) := D
  clear D h'
  rcases h with rfl | rfl
  all_goals
    go_enter Tryz.func186, Tryz.ntmps186
    go_wp2_with fail
    refine (HD.out _).mono ?_
    rintro e w1 ⟨rfl, hw⟩
    obtain rfl := hw.symm
    clear hw
    go_wp2_with fail
    go_ret2
    exact ⟨rfl, rfl⟩

set_option maxHeartbeats 400000 in
theorem do_yes (k : Int) (x y : Nat) (w : World) (hx : x < 4294967296) (hy : y < 4294967296) (h : isDo k = true) (h0 : k = 8 ∨ k = 9 → 0 < y) :
    Calls Tryz.prog 186 #[.int .i64 k, .int .u32 x, .int .u32 y] w fun e w' => e = .returned (.tuple #[.int .u32 (res k.toNat x y : Nat), .int .i64 0]) ∧ w' = w := by
  have D := fun w => does_any k w
  have hk := (isDo_iff k).1 h
  rw [h] at D
  have HD : Hid (∀ w, Calls _ _ _ w _) := D
  have HM : Hid (∀ w, Calls _ _ _ w _) := fun w => made_any k x y w hx hy hk.1 hk.2 h0
  by_cases hz : 0 < y
  · have hn : ¬ (y : Int) = 0 := by omega
    clear D h hk h0 hz
    go_enter Tryz.func186, Tryz.ntmps186
    go_wp2_with fail
    refine (HD.out _).mono ?_
    rintro e w1 ⟨rfl, hw⟩
    obtain rfl := hw.symm
    clear hw
    go_wp2_with fail
    refine (HM.out _).mono ?_
    rintro e w1 ⟨rfl, hw⟩
    obtain rfl := hw.symm
    clear hw
    go_wp2_with fail
    go_ret2
    exact ⟨rfl, rfl⟩
  · have h8 : (k == 8) = false := beq_false_of_ne (fun h => hz (h0 (.inl h)))
    have h9 : (k == 9) = false := beq_false_of_ne (fun h => hz (h0 (.inr h)))
    obtain rfl : y = 0 := by omega
    clear D h hk h0 hz
    go_enter Tryz.func186, Tryz.ntmps186
    go_wp2_with fail
    refine (HD.out _).mono ?_
    rintro e w1 ⟨rfl, hw⟩
    obtain rfl := hw.symm
    clear hw
    go_wp2_with fail
    refine (HM.out _).mono ?_
    rintro e w1 ⟨rfl, hw⟩
    obtain rfl := hw.symm
    clear hw
    go_wp2_with fail
    go_ret2
    exact ⟨rfl, rfl⟩

theorem do_any (k : Int) (x y : Nat) (w : World) (hx : x < 4294967296) (hy : y < 4294967296) :
    Calls Tryz.prog 186 #[.int .i64 k, .int .u32 x, .int .u32 y] w fun e w' => e = .returned (.tuple #[.int .u32 (doW k x y : Nat), .int .i64 (doE k y)]) ∧ w' = w := by
  cases h : isDo k
  · have e1 : doE k y = 30 := by simp [doE, h]
    have e2 : doW k x y = 0 := by simp [doW, e1]
    rw [e1, e2]
    exact do_no k x y w h
  · by_cases h0 : y = 0 ∧ (k = 8 ∨ k = 9)
    · have e1 : doE k y = 31 := by simp [doE, h, h0]
      have e2 : doW k x y = 0 := by simp [doW, e1]
      rw [e1, e2, h0.1]
      exact do_zero k x w h0.2
    · have e1 : doE k y = 0 := by simp [doE, h, h0]
      have e2 : doW k x y = res k.toNat x y := by simp [doW, e1]
      rw [e1, e2]
      exact do_yes k x y w hx hy h (fun h => by by_cases a : y = 0; exact absurd ⟨a, h⟩ h0; omega)

theorem isDo_k (k : Nat) (h : 5 ≤ k) (h2 : k ≤ 17) : isDo k = true := (isDo_iff _).2 (by omega)

theorem eq_cast (x y : Nat) : ((x : Int) == (y : Int)) = (x == y) := by
  by_cases h : x = y
  · subst h; simp
  · have h' : ¬ (x : Int) = y := by omega
    rw [beq_false_of_ne h', beq_false_of_ne h]

set_option maxHeartbeats 400000 in
theorem taken_any (k : Int) (x y : Nat) (w : World) (hx : x < 4294967296) (hy : y < 4294967296) (h1 : 21 ≤ k) (h2 : k ≤ 25) :
    Calls Tryz.prog 207 #[.int .i64 k, .int .u32 x, .int .u32 y] w fun e w' => e = .returned (.bool (takeV k x y)) ∧ w' = w := by
  have h : k = 21 ∨ k = 22 ∨ k = 23 ∨ k = 24 ∨ k = 25 := by omega
  clear h1 h2
  rcases h with rfl | rfl | rfl | rfl | rfl
  · go_enter Tryz.func207, Tryz.ntmps207
    go_wp2_with fail
    go_ret
    refine ⟨ret_bool ?_, rfl⟩
    rw [eq_cast]
    simp [takeV]
  · go_enter Tryz.func207, Tryz.ntmps207
    go_wp2_with fail
    go_ret
    refine ⟨ret_bool ?_, rfl⟩
    rw [eq_cast]
    rfl
  · have HB : Hid (∀ w, Calls _ _ _ w _) := fun w => below_any x y w hx hy
    go_enter Tryz.func207, Tryz.ntmps207
    go_wp2_with fail
    refine (HB.out _).mono ?_
    rintro e w1 ⟨rfl, hw⟩
    obtain rfl := hw.symm
    clear hw
    go_wp2_with fail
    go_ret
    exact ⟨rfl, rfl⟩
  · have HB : Hid (∀ w, Calls _ _ _ w _) := fun w => below_any x y w hx hy
    go_enter Tryz.func207, Tryz.ntmps207
    go_wp2_with fail
    refine (HB.out _).mono ?_
    rintro e w1 ⟨rfl, hw⟩
    obtain rfl := hw.symm
    clear hw
    go_wp2_with fail
    go_ret
    exact ⟨rfl, rfl⟩
  · go_enter Tryz.func207, Tryz.ntmps207
    go_wp2_with fail
    go_ret
    exact ⟨rfl, rfl⟩

set_option maxHeartbeats 400000 in
theorem takes_no (k : Int) (x y : Nat) (w : World) (h : isBr k = false) : Calls Tryz.prog 189 #[.int .i64 k, .int .u32 x, .int .u32 y] w fun e w' => e = .returned (.tuple #[.bool false, .int .i64 30]) ∧ w' = w := by
  have D := fun w => branches_any k w
  rw [h] at D
  have HD : Hid (∀ w, Calls _ _ _ w _) := D
  clear D h
  go_enter Tryz.func189, Tryz.ntmps189
  go_wp2_with fail
  refine (HD.out _).mono ?_
  rintro e w1 ⟨rfl, hw⟩
  obtain rfl := hw.symm
  clear hw
  go_wp2_with fail
  go_ret2
  exact ⟨rfl, rfl⟩

set_option maxHeartbeats 400000 in
theorem takes_yes (k : Int) (x y : Nat) (w : World) (hx : x < 4294967296) (hy : y < 4294967296) (h : isBr k = true) : Calls Tryz.prog 189 #[.int .i64 k, .int .u32 x, .int .u32 y] w fun e w' => e = .returned (.tuple #[.bool (takeV k x y), .int .i64 0]) ∧ w' = w := by
  have D := fun w => branches_any k w
  have hk := (isBr_iff k).1 h
  rw [h] at D
  have HD : Hid (∀ w, Calls _ _ _ w _) := D
  have HM : Hid (∀ w, Calls _ _ _ w _) := fun w => taken_any k x y w hx hy hk.1 hk.2
  clear D h hk
  go_enter Tryz.func189, Tryz.ntmps189
  go_wp2_with fail
  refine (HD.out _).mono ?_
  rintro e w1 ⟨rfl, hw⟩
  obtain rfl := hw.symm
  clear hw
  go_wp2_with fail
  refine (HM.out _).mono ?_
  rintro e w1 ⟨rfl, hw⟩
  obtain rfl := hw.symm
  clear hw
  go_wp2_with fail
  go_ret2
  exact ⟨rfl, rfl⟩

theorem takes_any (k : Int) (x y : Nat) (w : World) (hx : x < 4294967296) (hy : y < 4294967296) : Calls Tryz.prog 189 #[.int .i64 k, .int .u32 x, .int .u32 y] w fun e w' => e = .returned (.tuple #[.bool (takeV k x y), .int .i64 (takeE k)]) ∧ w' = w := by
  cases h : isBr k
  · have hk : ¬ (21 ≤ k ∧ k ≤ 25) := fun a => by rw [(isBr_iff k).2 a] at h; cases h
    have e1 : takeE k = 30 := by simp [takeE, h]
    have e2 : takeV k x y = false := by
      unfold takeV
      rw [if_neg (by omega), if_neg (by omega), if_neg (by omega), if_neg (by omega), if_neg (by omega)]
    rw [e1, e2]
    exact takes_no k x y w h
  · have e1 : takeE k = 0 := by simp [takeE, h]
    rw [e1]
    exact takes_yes k x y w hx hy h
end Go.Proofs.YtipejahmjdamjaaGreatDoor.Al
namespace Go.Proofs.YtipejahmjdamjaaGreatDoor.Is
open Go.RowKit
set_option linter.unusedVariables false

/-- Has an instruction a word? -/
def okI (op a b c imm : Int) : Bool :=
  (formOf op != 0) && fitB (hasA (formOf op)) a && fitB (hasB (formOf op)) b && fitB (hasC (formOf op)) c && (hasI (formOf op) || imm == 0) && decide (-131072 ≤ imm ∧ imm < 131072)
/-- The document's sum. -/
def wordI (op a b c imm : Int) : Int := op * 67108864 + a * 4194304 + b * 262144 + c * 16384 + imm % 262144
def encW (op a b c imm : Int) : Int := if okI op a b c imm then wordI op a b c imm else 0
def encE (op a b c imm : Int) : Int := if okI op a b c imm then 0 else 21

theorem fitB_bd {t : Bool} {n : Int} (h : fitB t n = true) : 0 ≤ n ∧ n ≤ 15 := by
  cases t <;> simp [fitB] at h <;> omega
theorem formOf_bd {n : Int} (h : formOf n ≠ 0) : 1 ≤ n ∧ n ≤ 30 := by
  by_cases hn : n < 0 ∨ 31 ≤ n
  · exact absurd (show formOf n = 0 by unfold formOf rowOf; rw [if_pos hn]; rfl) h
  · by_cases h0 : n = 0
    · subst h0; exact absurd rfl h
    · omega

theorem or_nat (op a b c m : Nat) (h1 : op ≤ 30) (h2 : a ≤ 15) (h3 : b ≤ 15) (h4 : c ≤ 15) (h5 : m < 262144) (h6 : c = 0 ∨ m = 0) :
    (((op * 67108864 ||| a * 4194304) ||| b * 262144) ||| c * 16384) ||| m = op * 67108864 + a * 4194304 + b * 262144 + c * 16384 + m := by
  have e1 : op * 67108864 ||| a * 4194304 = op * 67108864 + a * 4194304 := by
    have := Nat.two_pow_add_eq_or_of_lt (i := 26) (b := a * 4194304) (by omega) op
    have e : 2 ^ 26 * op = op * 67108864 := by omega
    rw [e] at this; exact this.symm
  have e2 : (op * 67108864 + a * 4194304) ||| b * 262144 = op * 67108864 + a * 4194304 + b * 262144 := by
    have := Nat.two_pow_add_eq_or_of_lt (i := 22) (b := b * 262144) (by omega) (op * 16 + a)
    have e : 2 ^ 22 * (op * 16 + a) = op * 67108864 + a * 4194304 := by omega
    rw [e] at this; exact this.symm
  have e3 : (op * 67108864 + a * 4194304 + b * 262144) ||| c * 16384 = op * 67108864 + a * 4194304 + b * 262144 + c * 16384 := by
    have := Nat.two_pow_add_eq_or_of_lt (i := 18) (b := c * 16384) (by omega) (op * 256 + a * 16 + b)
    have e : 2 ^ 18 * (op * 256 + a * 16 + b) = op * 67108864 + a * 4194304 + b * 262144 := by omega
    rw [e] at this; exact this.symm
  rw [e1, e2, e3]
  rcases h6 with rfl | rfl
  · have := Nat.two_pow_add_eq_or_of_lt (i := 18) (b := m) (by omega) (op * 256 + a * 16 + b)
    have e : 2 ^ 18 * (op * 256 + a * 16 + b) = op * 67108864 + a * 4194304 + b * 262144 + 0 * 16384 := by omega
    rw [e] at this; exact this.symm
  · simp

theorem orW_eq (op a b c imm : Int) (h1 : 1 ≤ op ∧ op ≤ 30) (h2 : 0 ≤ a ∧ a ≤ 15) (h3 : 0 ≤ b ∧ b ≤ 15) (h4 : 0 ≤ c ∧ c ≤ 15) (h6 : c = 0 ∨ imm = 0) : orW op a b c imm = wordI op a b c imm := by
  obtain ⟨op, rfl⟩ : ∃ x : Nat, op = (x : Int) := ⟨op.toNat, by omega⟩
  obtain ⟨a, rfl⟩ : ∃ x : Nat, a = (x : Int) := ⟨a.toNat, by omega⟩
  obtain ⟨b, rfl⟩ : ∃ x : Nat, b = (x : Int) := ⟨b.toNat, by omega⟩
  obtain ⟨c, rfl⟩ : ∃ x : Nat, c = (x : Int) := ⟨c.toNat, by omega⟩
  obtain ⟨m, hm⟩ : ∃ x : Nat, imm % 262144 = (x : Int) := ⟨(imm % 262144).toNat, by omega⟩
  have hm2 : m < 262144 := by omega
  have hm3 : c = 0 ∨ m = 0 := by omega
  unfold orW wordI
  have e1 : (op : Int) % 4294967296 * 67108864 % 4294967296 = ((op * 67108864 : Nat) : Int) := by omega
  have e2 : (a : Int) % 4294967296 * 4194304 % 4294967296 = ((a * 4194304 : Nat) : Int) := by omega
  have e3 : (b : Int) % 4294967296 * 262144 % 4294967296 = ((b * 262144 : Nat) : Int) := by omega
  have e4 : (c : Int) % 4294967296 * 16384 % 4294967296 = ((c * 16384 : Nat) : Int) := by omega
  rw [e1, e2, e3, e4, hm]
  have o := or_nat op a b c m (by omega) (by omega) (by omega) (by omega) hm2 hm3
  have k1 : op * 67108864 ||| a * 4194304 < 4294967296 := Nat.or_lt_two_pow (n := 32) (by omega) (by omega)
  have k2 : (op * 67108864 ||| a * 4194304) ||| b * 262144 < 4294967296 := Nat.or_lt_two_pow (n := 32) k1 (by omega)
  have k3 : ((op * 67108864 ||| a * 4194304) ||| b * 262144) ||| c * 16384 < 4294967296 := Nat.or_lt_two_pow (n := 32) k2 (by omega)
  rw [u32_or_nat _ _ (by omega) (by omega), u32_or_nat _ _ k1 (by omega), u32_or_nat _ _ k2 (by omega), u32_or_nat _ _ k3 (by omega), o]
  omega

/-- What Encode answers. -/
theorem enc_any (op a b c imm : Int) (w : World) (h : Tabs w) :
    Calls Tryz.prog 129 #[insV op a b c imm] w fun e w' => e = .returned (.tuple #[.int .u32 (encW op a b c imm), .int .i64 (encE op a b c imm)]) ∧ Below w.heap.size w w' := by
  obtain ⟨k, hk, hk8⟩ := formOf_nat op
  have no : okI op a b c imm = false → encW op a b c imm = 0 ∧ encE op a b c imm = 21 := fun h => by simp [encW, encE, h]
  by_cases hk0 : k = 0
  · obtain ⟨e1, e2⟩ := no (by simp [okI, hk, hk0])
    rw [e1, e2]
    exact enc_zero op a b c imm w h (by omega)
  have hkn : formOf op ≠ 0 := by omega
  have hkn' : ((k : Int) != 0) = true := by simp; omega
  cases FA : fitB (hasA k) a
  · obtain ⟨e1, e2⟩ := no (by simp [okI, hk, FA])
    rw [e1, e2]
    exact enc_a op a b c imm w h k hk hk8 hk0 FA
  cases FB : fitB (hasB k) b
  · obtain ⟨e1, e2⟩ := no (by simp [okI, hk, FB])
    rw [e1, e2]
    exact enc_b op a b c imm w h k hk hk8 hk0 FA FB
  cases FC : fitB (hasC k) c
  · obtain ⟨e1, e2⟩ := no (by simp [okI, hk, FC])
    rw [e1, e2]
    exact enc_c op a b c imm w h k hk hk8 hk0 FA FB FC
  have hop := formOf_bd hkn
  cases FI : hasI k
  · by_cases hm : imm = 0
    · have y : okI op a b c imm = true := by simp [okI, hk, hkn', FA, FB, FC, FI, hm]
      have e := orW_eq op a b c imm hop (fitB_bd FA) (fitB_bd FB) (fitB_bd FC) (.inr hm)
      have := enc_none op a b c imm w h k hk hk8 hk0 FA FB FC FI hm
      rw [e] at this
      simpa [encW, encE, y] using this
    · obtain ⟨e1, e2⟩ := no (by simp [okI, hk, FI, hm])
      rw [e1, e2]
      exact enc_i op a b c imm w h k hk hk8 hk0 FA FB FC FI hm
  · by_cases hr : imm < -131072 ∨ 131072 ≤ imm
    · obtain ⟨e1, e2⟩ := no (by simp only [okI]; rw [show decide (-131072 ≤ imm ∧ imm < 131072) = false by simp; omega]; simp)
      rw [e1, e2]
      exact enc_r op a b c imm w h k hk hk8 hk0 FA FB FC FI hr
    · have y : okI op a b c imm = true := by simp [okI, hk, hkn', FA, FB, FC, FI]; omega
      have hc : c = 0 := by
        have : hasC k = false := by
          have h4 : (k : Int) ≠ 4 := by intro h4; rw [h4] at FI; exact absurd FI (by decide)
          simp [hasC]; omega
        rw [this] at FC
        simpa [fitB] using FC
      have e := orW_eq op a b c imm hop (fitB_bd FA) (fitB_bd FB) (fitB_bd FC) (.inl hc)
      have := enc_yes op a b c imm w h k hk hk8 hk0 FA FB FC FI (by omega) (by omega)
      rw [e] at this
      simpa [encW, encE, y] using this
end Go.Proofs.YtipejahmjdamjaaGreatDoor.Is
