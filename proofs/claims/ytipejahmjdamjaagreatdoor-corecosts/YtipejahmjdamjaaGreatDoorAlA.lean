import Derived.Test.YtipejahmjdamjaaGreatDoorProg
import Derived.WalkKit
import Derived.WalkSpells
import Derived.WalkLawsBesides
import Derived.Deep.QuietTactic
import Derived.BigQuiet
import Derived.Below
namespace Go.Proofs.YtipejahmjdamjaaGreatDoor.Al

/-- One round of the product that is added up place by place. -/
theorem times_odd (n x y : Nat) (hy : y % 2 = 1) : ((n + x) % 4294967296 + (2 * x) % 4294967296 * (y / 2)) % 4294967296 = (n + x * y) % 4294967296 := by
  have e : x * y = x + 2 * x * (y / 2) := by
    have : y = 2 * (y / 2) + 1 := by omega
    calc x * y = x * (2 * (y / 2) + 1) := by rw [← this]
      _ = x + 2 * x * (y / 2) := by rw [Nat.mul_add, Nat.mul_one, Nat.add_comm, ← Nat.mul_assoc, Nat.mul_comm x 2]
  rw [e, ← Nat.add_assoc, Nat.add_mod, Nat.mod_mod, Nat.mul_mod, Nat.mod_mod, ← Nat.mul_mod, ← Nat.add_mod]
theorem times_even (n x y : Nat) (hy : y % 2 = 0) : (n + (2 * x) % 4294967296 * (y / 2)) % 4294967296 = (n + x * y) % 4294967296 := by
  have e : x * y = 2 * x * (y / 2) := by
    have : y = 2 * (y / 2) := by omega
    calc x * y = x * (2 * (y / 2)) := by rw [← this]
      _ = 2 * x * (y / 2) := by rw [← Nat.mul_assoc, Nat.mul_comm x 2]
  rw [e, Nat.add_mod, Nat.mul_mod, Nat.mod_mod, ← Nat.mul_mod, ← Nat.add_mod]

/-- One round of the quotient, from the highest place on. -/
theorem place (N i : Nat) : N / 2 ^ i = 2 * (N / 2 ^ (i + 1)) + N / 2 ^ i % 2 := by
  rw [Nat.pow_succ, ← Nat.div_div_eq_div_mul]
  omega
theorem quot_step (m m' q r d b : Nat) (hm : m' = 2 * m + b) (h : m = q * d + r) (hr : r < d) (hb : b < 2) :
    (d ≤ 2 * r + b → m' = (2 * q + 1) * d + (2 * r + b - d) ∧ 2 * r + b - d < d) ∧ (¬ d ≤ 2 * r + b → m' = 2 * q * d + (2 * r + b) ∧ 2 * r + b < d) := by
  have e : 2 * (q * d) = 2 * q * d := by rw [Nat.mul_assoc]
  have e2 : (2 * q + 1) * d = 2 * q * d + d := by rw [Nat.add_mul, Nat.one_mul]
  constructor
  · intro h1
    rw [e2]
    constructor <;> omega
  · intro h1
    constructor <;> omega
theorem quot_end (N q r d : Nat) (h : N = q * d + r) (hr : r < d) : q = N / d ∧ r = N % d := by
  subst h
  constructor
  · rw [Nat.mul_comm, Nat.mul_add_div (by omega), Nat.div_eq_of_lt hr]; rfl
  · rw [Nat.mul_comm, Nat.mul_add_mod, Nat.mod_eq_of_lt hr]

/-- A bit as a number. -/
theorem bit_and (x y i : Nat) : (x &&& y) / 2 ^ i % 2 = if x / 2 ^ i % 2 + y / 2 ^ i % 2 = 2 then 1 else 0 := by
  have h := Nat.testBit_and x y i
  simp only [Nat.testBit_eq_decide_div_mod_eq] at h
  have a := Nat.mod_two_eq_zero_or_one (x / 2 ^ i)
  have b := Nat.mod_two_eq_zero_or_one (y / 2 ^ i)
  have c := Nat.mod_two_eq_zero_or_one ((x &&& y) / 2 ^ i)
  rcases a with a | a <;> rcases b with b | b <;> rcases c with c | c <;> simp_all
theorem bit_or (x y i : Nat) : (x ||| y) / 2 ^ i % 2 = if 0 < x / 2 ^ i % 2 + y / 2 ^ i % 2 then 1 else 0 := by
  have h := Nat.testBit_or x y i
  simp only [Nat.testBit_eq_decide_div_mod_eq] at h
  have a := Nat.mod_two_eq_zero_or_one (x / 2 ^ i)
  have b := Nat.mod_two_eq_zero_or_one (y / 2 ^ i)
  have c := Nat.mod_two_eq_zero_or_one ((x ||| y) / 2 ^ i)
  rcases a with a | a <;> rcases b with b | b <;> rcases c with c | c <;> simp_all
theorem bit_xor (x y i : Nat) : (x ^^^ y) / 2 ^ i % 2 = if x / 2 ^ i % 2 + y / 2 ^ i % 2 = 1 then 1 else 0 := by
  have h := Nat.testBit_xor x y i
  simp only [Nat.testBit_eq_decide_div_mod_eq] at h
  have a := Nat.mod_two_eq_zero_or_one (x / 2 ^ i)
  have b := Nat.mod_two_eq_zero_or_one (y / 2 ^ i)
  have c := Nat.mod_two_eq_zero_or_one ((x ^^^ y) / 2 ^ i)
  rcases a with a | a <;> rcases b with b | b <;> rcases c with c | c <;> simp_all

/-- Moved by one place and then by n. -/
theorem shl_step (x n : Nat) : (2 * x % 4294967296) * 2 ^ n % 4294967296 = x * 2 ^ (n + 1) % 4294967296 := by
  rw [Nat.mul_mod, Nat.mod_mod, ← Nat.mul_mod, Nat.pow_succ, Nat.mul_comm 2 x, Nat.mul_assoc, Nat.mul_comm 2 (2 ^ n)]
theorem shr_step (x n : Nat) : x / 2 / 2 ^ n = x / 2 ^ (n + 1) := by
  rw [Nat.div_div_eq_div_mul, Nat.pow_succ, Nat.mul_comm]

theorem low_and (x y : Nat) : (x &&& y) % 2 = if x % 2 + y % 2 = 2 then 1 else 0 := by simpa using bit_and x y 0
theorem low_or (x y : Nat) : (x ||| y) % 2 = if 0 < x % 2 + y % 2 then 1 else 0 := by simpa using bit_or x y 0
theorem low_xor (x y : Nat) : (x ^^^ y) % 2 = if x % 2 + y % 2 = 1 then 1 else 0 := by simpa using bit_xor x y 0
/-- Parted and joined again. -/
theorem and_add_or (n : Nat) : ∀ x y : Nat, x < 2 ^ n → y < 2 ^ n → (x &&& y) + (x ||| y) = x + y ∧ (x &&& y) + (x ^^^ y) = x ||| y := by
  induction n with
  | zero =>
    intro x y hx hy
    obtain rfl : x = 0 := by simpa using hx
    obtain rfl : y = 0 := by simpa using hy
    decide
  | succ n ih =>
    intro x y hx hy
    rw [Nat.pow_succ] at hx hy
    obtain ⟨h1, h2⟩ := ih (x / 2) (y / 2) (by omega) (by omega)
    have a := low_and x y
    have o := low_or x y
    have r := low_xor x y
    have a2 : (x &&& y) / 2 = x / 2 &&& y / 2 := Nat.and_div_two
    have o2 : (x ||| y) / 2 = x / 2 ||| y / 2 := Nat.or_div_two
    have r2 : (x ^^^ y) / 2 = x / 2 ^^^ y / 2 := Nat.xor_div_two
    rw [← a2, ← o2] at h1
    rw [← a2, ← r2, ← o2] at h2
    have mx := Nat.mod_two_eq_zero_or_one x
    have my := Nat.mod_two_eq_zero_or_one y
    generalize x &&& y = A at *
    generalize x ||| y = O at *
    generalize x ^^^ y = R at *
    rcases mx with mx | mx <;> rcases my with my | my <;> rw [mx, my] at a o r <;> split at a <;> split at o <;> split at r <;> constructor <;> omega

/-- Signed. -/
def sg (x : Nat) : Int := if 2147483648 ≤ x then (x : Int) - 4294967296 else x
theorem sg_bd (x : Nat) (h : x < 4294967296) : -2147483648 ≤ sg x ∧ sg x < 2147483648 := by unfold sg; split <;> omega
theorem sg_mod (x : Nat) (h : x < 4294967296) : sg x % 4294967296 = x := by unfold sg; split <;> omega
/-- The quotient cut towards zero, by the magnitudes. -/
theorem tdiv_mag (n d : Int) : Int.tdiv n d = if (decide (n < 0) != decide (d < 0)) = true then -((n.natAbs / d.natAbs : Nat) : Int) else ((n.natAbs / d.natAbs : Nat) : Int) := by
  by_cases hn : n < 0
  · obtain ⟨m, rfl⟩ : ∃ m : Nat, n = -(m : Int) := ⟨n.natAbs, by omega⟩
    by_cases hd : d < 0
    · obtain ⟨k, rfl⟩ : ∃ k : Nat, d = -(k : Int) := ⟨d.natAbs, by omega⟩
      simp only [Int.neg_tdiv, Int.tdiv_neg, hn, hd, Int.natAbs_neg, Int.natAbs_natCast]
      simp
    · obtain ⟨k, rfl⟩ : ∃ k : Nat, d = (k : Int) := ⟨d.natAbs, by omega⟩
      simp only [Int.neg_tdiv, hn, hd, Int.natAbs_neg, Int.natAbs_natCast]
      simp
  · obtain ⟨m, rfl⟩ : ∃ m : Nat, n = (m : Int) := ⟨n.natAbs, by omega⟩
    by_cases hd : d < 0
    · obtain ⟨k, rfl⟩ : ∃ k : Nat, d = -(k : Int) := ⟨d.natAbs, by omega⟩
      simp only [Int.tdiv_neg, hn, hd, Int.natAbs_neg, Int.natAbs_natCast]
      simp
    · obtain ⟨k, rfl⟩ : ∃ k : Nat, d = (k : Int) := ⟨d.natAbs, by omega⟩
      simp only [hn, hd, Int.natAbs_natCast]
      simp
theorem tmod_mag (n d : Int) : Int.tmod n d = if n < 0 then -((n.natAbs % d.natAbs : Nat) : Int) else ((n.natAbs % d.natAbs : Nat) : Int) := by
  have e : Int.tmod n d = Int.tmod n (d.natAbs : Int) := by
    rcases Int.natAbs_eq d with hd | hd
    · rw [← hd]
    · generalize d.natAbs = k at *
      rw [hd, Int.tmod_neg]
  rw [e]
  by_cases hn : n < 0
  · obtain ⟨m, rfl⟩ : ∃ m : Nat, n = -(m : Int) := ⟨n.natAbs, by omega⟩
    rw [if_pos hn, Int.neg_tmod, Int.natAbs_neg, Int.natAbs_natCast]
    rfl
  · obtain ⟨m, rfl⟩ : ∃ m : Nat, n = (m : Int) := ⟨n.natAbs, by omega⟩
    rw [if_neg hn, Int.natAbs_natCast]
    rfl
theorem sar_high (x : Nat) (h : x < 4294967296) (hh : 2147483648 ≤ x) : sg (x / 2 + 2147483648) = sg x / 2 := by
  unfold sg
  rw [if_pos (by omega), if_pos hh]
  omega
theorem sar_low (x : Nat) (hh : ¬ 2147483648 ≤ x) : sg (x / 2) = sg x / 2 := by
  unfold sg
  rw [if_neg (by omega), if_neg hh]
  omega
theorem sar_step (z : Int) (n : Nat) : z / 2 / 2 ^ n = z / 2 ^ (n + 1) := by
  rw [Int.ediv_ediv_of_nonneg (by omega), Int.pow_succ, Int.mul_comm]
/-- The highest bit. -/
theorem high_bit (x : Nat) (h : x < 4294967296) : x / 2147483648 % 2 = if 2147483648 ≤ x then 1 else 0 := by
  split <;> omega
end Go.Proofs.YtipejahmjdamjaaGreatDoor.Al
namespace Go.Proofs.YtipejahmjdamjaaGreatDoor.Al
open Go.RowKit
set_option linter.unusedVariables false

theorem wrap_sg (x : Nat) (h : x < 4294967296) : wrap32 (x : Int) = sg x := by unfold wrap32 sg; split <;> omega
theorem wrap_mod (n : Int) : wrap32 n % 4294967296 = n % 4294967296 := by unfold wrap32; omega
theorem sg_zero (x : Nat) (h : x < 4294967296) (h0 : 0 < x) : ¬ sg x = 0 := by unfold sg; split <;> omega
theorem ret_int {k : IntKind} {a b : Int} (h : a = b) : Ending.returned (.int k a) = .returned (.int k b) := by rw [h]
theorem ret_bool {a b : Bool} (h : a = b) : Ending.returned (.bool a) = .returned (.bool b) := by rw [h]
/-- A number's word. -/
def wd (n : Int) : Nat := (n % 4294967296).toNat
theorem wd_cast (n : Int) : ((wd n : Nat) : Int) = n % 4294967296 := by unfold wd; omega
theorem wd_lt (n : Int) : wd n < 4294967296 := by unfold wd; omega

/-- A word of what holds or not. -/
def b2w (b : Bool) : Nat := if b then 1 else 0
theorem b2w_lt (b : Bool) : b2w b < 4294967296 := by unfold b2w; split <;> omega

/-- What an operation makes of two words. -/
def res : Nat → Nat → Nat → Nat
  | 5, x, y => wd ((x : Int) + y)
  | 6, x, y => wd ((x : Int) - y)
  | 7, x, y => wd ((x : Int) * y)
  | 8, x, y => wd (Int.tdiv (sg x) (sg y))
  | 9, x, y => wd (Int.tmod (sg x) (sg y))
  | 10, x, y => x &&& y
  | 11, x, y => x ||| y
  | 12, x, y => x ^^^ y
  | 13, x, y => wd ((x : Int) * 2 ^ (y % 32))
  | 14, x, y => x / 2 ^ (y % 32)
  | 15, x, y => wd (sg x / 2 ^ (y % 32))
  | 16, x, y => b2w (decide (sg x < sg y))
  | 17, x, y => b2w (decide (x < y))
  | _, _, _ => 0

set_option maxHeartbeats 400000 in
theorem oneIf_any (b : Bool) (w : World) : Calls Tryz.prog 209 #[.bool b] w fun e w' => e = .returned (.int .u32 (b2w b : Nat)) ∧ w' = w := by
  cases b
  · go_enter Tryz.func209, Tryz.ntmps209
    go_wp2
    go_ret
    exact ⟨rfl, rfl⟩
  · go_enter Tryz.func209, Tryz.ntmps209
    go_wp2
    go_ret
    exact ⟨rfl, rfl⟩

set_option maxHeartbeats 400000 in
theorem below_any (x y : Nat) (w : World) (hx : x < 4294967296) (hy : y < 4294967296) : Calls Tryz.prog 210 #[.int .u32 x, .int .u32 y] w fun e w' => e = .returned (.bool (decide (sg x < sg y))) ∧ w' = w := by
  have HX : Hid (wrap32 (x : Int) = sg x) := wrap_sg x hx
  have HY : Hid (wrap32 (y : Int) = sg y) := wrap_sg y hy
  go_enter Tryz.func210, Tryz.ntmps210
  go_wp2
  go_ret
  exact ⟨ret_bool (by rw [HX.out, HY.out]), rfl⟩

set_option maxHeartbeats 400000 in
theorem made_5 (x y : Nat) (w : World) (hx : x < 4294967296) (hy : y < 4294967296) : Calls Tryz.prog 205 #[.int .i64 5, .int .u32 x, .int .u32 y] w fun e w' => e = .returned (.int .u32 (res 5 x y : Nat)) ∧ w' = w := by
  have E := True.intro
  go_enter Tryz.func205, Tryz.ntmps205
  go_wp2
  go_ret
  exact ⟨ret_int ((wd_cast _).symm), rfl⟩

set_option maxHeartbeats 400000 in
theorem made_6 (x y : Nat) (w : World) (hx : x < 4294967296) (hy : y < 4294967296) : Calls Tryz.prog 205 #[.int .i64 6, .int .u32 x, .int .u32 y] w fun e w' => e = .returned (.int .u32 (res 6 x y : Nat)) ∧ w' = w := by
  have E := True.intro
  go_enter Tryz.func205, Tryz.ntmps205
  go_wp2
  go_ret
  exact ⟨ret_int ((wd_cast _).symm), rfl⟩

set_option maxHeartbeats 400000 in
theorem made_7 (x y : Nat) (w : World) (hx : x < 4294967296) (hy : y < 4294967296) : Calls Tryz.prog 205 #[.int .i64 7, .int .u32 x, .int .u32 y] w fun e w' => e = .returned (.int .u32 (res 7 x y : Nat)) ∧ w' = w := by
  have E := True.intro
  go_enter Tryz.func205, Tryz.ntmps205
  go_wp2
  go_ret
  exact ⟨ret_int ((wd_cast _).symm), rfl⟩

set_option maxHeartbeats 400000 in
theorem made_10 (x y : Nat) (w : World) (hx : x < 4294967296) (hy : y < 4294967296) : Calls Tryz.prog 205 #[.int .i64 10, .int .u32 x, .int .u32 y] w fun e w' => e = .returned (.int .u32 (res 10 x y : Nat)) ∧ w' = w := by
  have E := True.intro
  go_enter Tryz.func205, Tryz.ntmps205
  go_wp2
  go_ret
  exact ⟨ret_int (((u32_and_nat x y hx hy).symm).symm), rfl⟩

set_option maxHeartbeats 400000 in
theorem made_11 (x y : Nat) (w : World) (hx : x < 4294967296) (hy : y < 4294967296) : Calls Tryz.prog 205 #[.int .i64 11, .int .u32 x, .int .u32 y] w fun e w' => e = .returned (.int .u32 (res 11 x y : Nat)) ∧ w' = w := by
  have E := True.intro
  go_enter Tryz.func205, Tryz.ntmps205
  go_wp2
  go_ret
  exact ⟨ret_int (((u32_or_nat x y hx hy).symm).symm), rfl⟩

set_option maxHeartbeats 400000 in
theorem made_12 (x y : Nat) (w : World) (hx : x < 4294967296) (hy : y < 4294967296) : Calls Tryz.prog 205 #[.int .i64 12, .int .u32 x, .int .u32 y] w fun e w' => e = .returned (.int .u32 (res 12 x y : Nat)) ∧ w' = w := by
  have E := True.intro
  go_enter Tryz.func205, Tryz.ntmps205
  go_wp2
  go_ret
  exact ⟨ret_int (((u32_xor_nat x y hx hy).symm).symm), rfl⟩

set_option maxHeartbeats 400000 in
theorem made_13 (x y : Nat) (w : World) (hx : x < 4294967296) (hy : y < 4294967296) : Calls Tryz.prog 205 #[.int .i64 13, .int .u32 x, .int .u32 y] w fun e w' => e = .returned (.int .u32 (res 13 x y : Nat)) ∧ w' = w := by
  have E := True.intro
  go_enter Tryz.func205, Tryz.ntmps205
  go_wp2
  go_ret
  exact ⟨ret_int ((wd_cast _).symm), rfl⟩

set_option maxHeartbeats 400000 in
theorem made_14 (x y : Nat) (w : World) (hx : x < 4294967296) (hy : y < 4294967296) : Calls Tryz.prog 205 #[.int .i64 14, .int .u32 x, .int .u32 y] w fun e w' => e = .returned (.int .u32 (res 14 x y : Nat)) ∧ w' = w := by
  have E := True.intro
  go_enter Tryz.func205, Tryz.ntmps205
  go_wp2
  go_ret
  exact ⟨ret_int (by simp [res]), rfl⟩

set_option maxHeartbeats 400000 in
theorem made_8 (x y : Nat) (w : World) (hx : x < 4294967296) (hy : y < 4294967296) (h0 : 0 < y) : Calls Tryz.prog 205 #[.int .i64 8, .int .u32 x, .int .u32 y] w fun e w' => e = .returned (.int .u32 (res 8 x y : Nat)) ∧ w' = w := by
  have HX : Hid (wrap32 (x : Int) = sg x) := wrap_sg x hx
  have HY : Hid (wrap32 (y : Int) = sg y) := wrap_sg y hy
  have hn : ¬ wrap32 (y : Int) = 0 := by rw [HY.out]; exact sg_zero y hy h0
  go_enter Tryz.func205, Tryz.ntmps205
  go_wp2
  go_ret
  refine ⟨ret_int ?_, rfl⟩
  show _ = ((wd (Int.tdiv (sg x) (sg y)) : Nat) : Int)
  rw [wd_cast, wrap_mod, HX.out, HY.out]

set_option maxHeartbeats 400000 in
theorem made_9 (x y : Nat) (w : World) (hx : x < 4294967296) (hy : y < 4294967296) (h0 : 0 < y) : Calls Tryz.prog 205 #[.int .i64 9, .int .u32 x, .int .u32 y] w fun e w' => e = .returned (.int .u32 (res 9 x y : Nat)) ∧ w' = w := by
  have HX : Hid (wrap32 (x : Int) = sg x) := wrap_sg x hx
  have HY : Hid (wrap32 (y : Int) = sg y) := wrap_sg y hy
  have hn : ¬ wrap32 (y : Int) = 0 := by rw [HY.out]; exact sg_zero y hy h0
  go_enter Tryz.func205, Tryz.ntmps205
  go_wp2
  go_ret
  refine ⟨ret_int ?_, rfl⟩
  show _ = ((wd (Int.tmod (sg x) (sg y)) : Nat) : Int)
  rw [wd_cast, HX.out, HY.out]

set_option maxHeartbeats 400000 in
theorem made_15 (x y : Nat) (w : World) (hx : x < 4294967296) (hy : y < 4294967296) : Calls Tryz.prog 205 #[.int .i64 15, .int .u32 x, .int .u32 y] w fun e w' => e = .returned (.int .u32 (res 15 x y : Nat)) ∧ w' = w := by
  have HX : Hid (wrap32 (x : Int) = sg x) := wrap_sg x hx
  go_enter Tryz.func205, Tryz.ntmps205
  go_wp2
  go_ret
  refine ⟨ret_int ?_, rfl⟩
  show _ = ((wd (sg x / 2 ^ (y % 32)) : Nat) : Int)
  rw [wd_cast, ← HX.out]

set_option maxHeartbeats 400000 in
theorem made_16 (x y : Nat) (w : World) (hx : x < 4294967296) (hy : y < 4294967296) : Calls Tryz.prog 205 #[.int .i64 16, .int .u32 x, .int .u32 y] w fun e w' => e = .returned (.int .u32 (res 16 x y : Nat)) ∧ w' = w := by
  go_enter Tryz.func205, Tryz.ntmps205
  go_wp2_with fail
  refine (below_any x y _ hx hy).mono ?_
  rintro e w1 ⟨rfl, hw⟩
  obtain rfl := hw.symm
  clear hw
  go_wp2_with fail
  refine (oneIf_any _ _).mono ?_
  rintro e w1 ⟨rfl, hw⟩
  obtain rfl := hw.symm
  clear hw
  go_wp2_with fail
  go_ret
  exact ⟨rfl, rfl⟩

set_option maxHeartbeats 400000 in
theorem made_17 (x y : Nat) (w : World) (hx : x < 4294967296) (hy : y < 4294967296) : Calls Tryz.prog 205 #[.int .i64 17, .int .u32 x, .int .u32 y] w fun e w' => e = .returned (.int .u32 (res 17 x y : Nat)) ∧ w' = w := by
  go_enter Tryz.func205, Tryz.ntmps205
  go_wp2_with fail
  refine (oneIf_any _ _).mono ?_
  rintro e w1 ⟨rfl, hw⟩
  obtain rfl := hw.symm
  clear hw
  go_wp2_with fail
  go_ret
  exact ⟨rfl, rfl⟩

theorem made_any (k : Int) (x y : Nat) (w : World) (hx : x < 4294967296) (hy : y < 4294967296) (h1 : 5 ≤ k) (h2 : k ≤ 17) (h0 : k = 8 ∨ k = 9 → 0 < y) :
    Calls Tryz.prog 205 #[.int .i64 k, .int .u32 x, .int .u32 y] w fun e w' => e = .returned (.int .u32 (res k.toNat x y : Nat)) ∧ w' = w := by
  have h : k = 5 ∨ k = 6 ∨ k = 7 ∨ k = 8 ∨ k = 9 ∨ k = 10 ∨ k = 11 ∨ k = 12 ∨ k = 13 ∨ k = 14 ∨ k = 15 ∨ k = 16 ∨ k = 17 := by omega
  rcases h with rfl | rfl | rfl | rfl | rfl | rfl | rfl | rfl | rfl | rfl | rfl | rfl | rfl
  · exact made_5 x y w hx hy
  · exact made_6 x y w hx hy
  · exact made_7 x y w hx hy
  · exact made_8 x y w hx hy (h0 (.inl rfl))
  · exact made_9 x y w hx hy (h0 (.inr rfl))
  · exact made_10 x y w hx hy
  · exact made_11 x y w hx hy
  · exact made_12 x y w hx hy
  · exact made_13 x y w hx hy
  · exact made_14 x y w hx hy
  · exact made_15 x y w hx hy
  · exact made_16 x y w hx hy
  · exact made_17 x y w hx hy

end Go.Proofs.YtipejahmjdamjaaGreatDoor.Al
