import Derived.WalkKit
import Derived.Laws.BitsAllLaws
namespace Go.Proofs.Ytonjmknjjdnjkaa

/-- What so many ones are. -/
theorem ones_eq (n : Nat) (h2 : n ≤ 32) : (4294967295 : Int) / 2 ^ (32 - n) = ((2 ^ n - 1 : Nat) : Int) := by
  have hn : n = 0 ∨ n = 1 ∨ n = 2 ∨ n = 3 ∨ n = 4 ∨ n = 5 ∨ n = 6 ∨ n = 7 ∨ n = 8 ∨ n = 9 ∨ n = 10 ∨ n = 11 ∨ n = 12 ∨ n = 13 ∨ n = 14 ∨ n = 15 ∨ n = 16 ∨ n = 17 ∨ n = 18 ∨ n = 19 ∨ n = 20 ∨ n = 21 ∨ n = 22 ∨ n = 23 ∨ n = 24 ∨ n = 25 ∨ n = 26 ∨ n = 27 ∨ n = 28 ∨ n = 29 ∨ n = 30 ∨ n = 31 ∨ n = 32 := by omega
  rcases hn with rfl | rfl | rfl | rfl | rfl | rfl | rfl | rfl | rfl | rfl | rfl | rfl | rfl | rfl | rfl | rfl | rfl | rfl | rfl | rfl | rfl | rfl | rfl | rfl | rfl | rfl | rfl | rfl | rfl | rfl | rfl | rfl | rfl <;> rfl

theorem two_le (n m : Nat) (h : n ≤ m) : (2 : Nat) ^ n ≤ 2 ^ m := Nat.pow_le_pow_right (by omega) h

def fieldN (w f n : Nat) : Nat := w / 2 ^ f % 2 ^ n
def putN (w f n v : Nat) : Nat := (w &&& (4294967295 - (2 ^ n - 1) * 2 ^ f)) ||| v * 2 ^ f

theorem fieldN_bit (w f n i : Nat) : (fieldN w f n).testBit i = (decide (i < n) && w.testBit (f + i)) := by
  unfold fieldN
  rw [Nat.testBit_mod_two_pow, Nat.testBit_div_two_pow, Nat.add_comm i f]

theorem maskN_lt (n f : Nat) (h : f + n ≤ 32) : (2 ^ n - 1) * 2 ^ f < 2 ^ 32 := by
  have h1 : (2 ^ n - 1) * 2 ^ f < 2 ^ n * 2 ^ f := Nat.mul_lt_mul_of_pos_right (by have := Nat.two_pow_pos n; omega) (Nat.two_pow_pos f)
  rw [← Nat.pow_add] at h1
  exact Nat.lt_of_lt_of_le h1 (two_le _ _ (by omega))

theorem valN_lt (n f v : Nat) (h : f + n ≤ 32) (hv : v < 2 ^ n) : v * 2 ^ f < 2 ^ 32 := by
  have h1 : v * 2 ^ f < 2 ^ n * 2 ^ f := Nat.mul_lt_mul_of_pos_right hv (Nat.two_pow_pos f)
  rw [← Nat.pow_add] at h1
  exact Nat.lt_of_lt_of_le h1 (two_le _ _ (by omega))

theorem putN_bit (w f n v i : Nat) (hw : w < 2 ^ 32) (h : f + n ≤ 32) (hv : v < 2 ^ n) :
    (putN w f n v).testBit i = if f ≤ i ∧ i < f + n then v.testBit (i - f) else w.testBit i := by
  unfold putN
  have e : 4294967295 - (2 ^ n - 1) * 2 ^ f = 2 ^ 32 - ((2 ^ n - 1) * 2 ^ f + 1) := by
    have : (2 : Nat) ^ 32 = 4294967296 := by decide
    omega
  rw [Nat.testBit_or, Nat.testBit_and, e, Nat.testBit_two_pow_sub_succ (maskN_lt n f h), Nat.testBit_mul_two_pow, Nat.testBit_mul_two_pow, Nat.testBit_two_pow_sub_one]
  by_cases h1 : f ≤ i
  · by_cases h2 : i < f + n
    · have : i - f < n := by omega
      simp [h1, h2, this]
    · have h3 : ¬ i - f < n := by omega
      have h4 : v.testBit (i - f) = false := Nat.testBit_lt_two_pow (Nat.lt_of_lt_of_le hv (two_le _ _ (by omega)))
      by_cases h5 : i < 32
      · simp [h1, h2, h3, h4, h5]
      · have h6 : w.testBit i = false := Nat.testBit_lt_two_pow (Nat.lt_of_lt_of_le hw (two_le _ _ (by omega)))
        simp [h1, h2, h3, h4, h5, h6]
  · by_cases h5 : i < 32
    · simp [h1, h5]
    · omega

theorem putN_lt (w f n v : Nat) (hw : w < 2 ^ 32) (h : f + n ≤ 32) (hv : v < 2 ^ n) : putN w f n v < 2 ^ 32 := by
  refine Nat.lt_pow_two_of_testBit _ fun i hi => ?_
  rw [putN_bit w f n v i hw h hv, if_neg (by omega)]
  exact Nat.testBit_lt_two_pow (Nat.lt_of_lt_of_le hw (two_le _ _ hi))

theorem fieldN_putN (w f n v : Nat) (hw : w < 2 ^ 32) (h : f + n ≤ 32) (hv : v < 2 ^ n) : fieldN (putN w f n v) f n = v := by
  refine Nat.eq_of_testBit_eq fun i => ?_
  rw [fieldN_bit, putN_bit w f n v _ hw h hv]
  by_cases hi : i < n
  · rw [if_pos (by omega)]
    simp [hi]
  · have h4 : v.testBit i = false := Nat.testBit_lt_two_pow (Nat.lt_of_lt_of_le hv (two_le _ _ (by omega)))
    simp [hi, h4]

theorem fieldN_lt (w f n : Nat) : fieldN w f n < 2 ^ n := Nat.mod_lt _ (Nat.two_pow_pos n)

theorem putN_putN (w f n v : Nat) (hw : w < 2 ^ 32) (h : f + n ≤ 32) (hv : v < 2 ^ n) : putN (putN w f n v) f n (fieldN w f n) = w := by
  refine Nat.eq_of_testBit_eq fun i => ?_
  rw [putN_bit _ f n _ i (putN_lt w f n v hw h hv) h (fieldN_lt w f n), putN_bit w f n v i hw h hv, fieldN_bit]
  by_cases hi : f ≤ i ∧ i < f + n
  · rw [if_pos hi]
    have h1 : i - f < n := by omega
    have h2 : f + (i - f) = i := by omega
    simp [h1, h2]
  · rw [if_neg hi, if_neg hi]

theorem cast_div (x f : Nat) : (x : Int) / 2 ^ f = ((x / 2 ^ f : Nat) : Int) := by
  simp

theorem field_eq (x f n : Nat) (hx : x < 4294967296) (h2 : n ≤ 32) : bits .and .u32 ((x : Int) / 2 ^ f) ((2 ^ n - 1 : Nat) : Int) = ((fieldN x f n : Nat) : Int) := by
  have h3 : (2 : Nat) ^ n ≤ 2 ^ 32 := two_le n 32 h2
  have h4 := Nat.two_pow_pos n
  rw [cast_div, u32_and_nat _ _ (Nat.lt_of_le_of_lt (Nat.div_le_self _ _) hx) (by omega), Nat.and_two_pow_sub_one_eq_mod]
  rfl

theorem put_eq (x f n v : Nat) (hx : x < 4294967296) (h : f + n ≤ 32) (hv : v < 2 ^ n) :
    bits .or .u32 (bits .andNot .u32 (x : Int) (((2 ^ n - 1 : Nat) : Int) * 2 ^ f % 4294967296)) ((v : Int) * 2 ^ f % 4294967296) = ((putN x f n v : Nat) : Int) := by
  have a := maskN_lt n f h
  have b := valN_lt n f v h hv
  have e1 : ((2 ^ n - 1 : Nat) : Int) * 2 ^ f % 4294967296 = (((2 ^ n - 1) * 2 ^ f : Nat) : Int) := by
    rw [Int.emod_eq_of_lt]
    · simp
    · exact Int.mul_nonneg (by omega) (by have := Nat.two_pow_pos f; exact_mod_cast Nat.zero_le _)
    · have : (((2 ^ n - 1) * 2 ^ f : Nat) : Int) < 4294967296 := by omega
      simpa using this
  have e2 : (v : Int) * 2 ^ f % 4294967296 = ((v * 2 ^ f : Nat) : Int) := by
    rw [Int.emod_eq_of_lt]
    · simp
    · exact Int.mul_nonneg (by omega) (by have := Nat.two_pow_pos f; exact_mod_cast Nat.zero_le _)
    · have : ((v * 2 ^ f : Nat) : Int) < 4294967296 := by omega
      simpa using this
  rw [e1, e2, u32_andNot_nat _ _ hx (by omega), u32_or_nat _ _ (Nat.lt_of_le_of_lt Nat.and_le_left hx) (by omega)]
  rfl

theorem unsigned_eq (x : Int) (n : Nat) (h : n ≤ 32) : bits .and .u32 (x % 4294967296) ((2 ^ n - 1 : Nat) : Int) = x % 2 ^ n := by
  have h3 : (2 : Nat) ^ n ≤ 2 ^ 32 := two_le n 32 h
  have h4 := Nat.two_pow_pos n
  obtain ⟨m, hm⟩ : ∃ m : Nat, x % 4294967296 = (m : Int) := ⟨(x % 4294967296).toNat, by omega⟩
  have hlt : m < 4294967296 := by omega
  rw [hm, u32_and_nat _ _ hlt (by omega), Nat.and_two_pow_sub_one_eq_mod]
  have e : ((m % 2 ^ n : Nat) : Int) = (m : Int) % 2 ^ n := by simp
  have d : (2 : Int) ^ n ∣ 4294967296 := by
    refine ⟨2 ^ (32 - n), ?_⟩
    rw [← Int.pow_add, show n + (32 - n) = 32 by omega]
    decide
  rw [e, ← hm, Int.emod_emod_of_dvd x d]

theorem pow_int (n : Nat) : ((2 ^ n : Nat) : Int) = (2 : Int) ^ n := by simp

theorem pow_bd (n : Nat) (h1 : 1 ≤ n) (h2 : n ≤ 32) : (2 : Int) ^ (n - 1) ≤ 2147483648 ∧ 0 < (2 : Int) ^ (n - 1) ∧ (2 : Int) ^ n = 2 * 2 ^ (n - 1) ∧ ((2 ^ (n - 1) : Nat) : Int) = 2 ^ (n - 1) ∧ ((2 ^ n : Nat) : Int) = 2 ^ n := by
  have a := two_le (n - 1) 31 (by omega)
  have b := Nat.two_pow_pos (n - 1)
  have e := pow_int (n - 1)
  have g := pow_int n
  refine ⟨?_, ?_, ?_, e, g⟩
  · rw [← e]; have : (2 : Nat) ^ 31 = 2147483648 := by decide
    omega
  · rw [← e]; omega
  · obtain ⟨m, rfl⟩ : ∃ m, n = m + 1 := ⟨n - 1, by omega⟩
    rw [Int.pow_succ]; simp; omega

/-- What a signed number's bits are, and what they mean. -/
theorem back_lo (x : Int) (n : Nat) (h1 : 1 ≤ n) (h2 : n ≤ 32) (h : 0 ≤ x) (hu : x < 2 ^ (n - 1)) : x % 2 ^ n = x := by
  obtain ⟨a, b, c, _, _⟩ := pow_bd n h1 h2
  exact Int.emod_eq_of_lt h (by omega)

theorem back_hi (x : Int) (n : Nat) (h1 : 1 ≤ n) (h2 : n ≤ 32) (h : x < 0) (hl : - 2 ^ (n - 1) ≤ x) : x % 2 ^ n = x + 2 ^ n := by
  obtain ⟨a, b, c, _, _⟩ := pow_bd n h1 h2
  rw [← Int.add_emod_right]
  exact Int.emod_eq_of_lt (by omega) (by omega)

end Go.Proofs.Ytonjmknjjdnjkaa
