import Derived.Test.YtonjmknjjdnjkaaWalkC
namespace Go.Proofs.Ytonjmknjjdnjkaa
set_option linter.unusedVariables false

theorem xor_mod2 (a b : Nat) : (a ^^^ b) % 2 = (a % 2 + b % 2) % 2 := by
  have h := Nat.xor_mod_two_pow (a := a) (b := b) (n := 1)
  simp only [Nat.pow_one] at h
  rw [h]
  rcases Nat.mod_two_eq_zero_or_one a with h1 | h1 <;> rcases Nat.mod_two_eq_zero_or_one b with h2 | h2 <;> rw [h1, h2] <;> rfl

theorem xor_div2 (a b : Nat) : (a ^^^ b) / 2 = a / 2 ^^^ b / 2 := by
  have h := Nat.shiftRight_xor_distrib (a := a) (b := b) (i := 1)
  simpa [Nat.shiftRight_eq_div_pow] using h

theorem crcStep_xor (a b : Nat) : crcStep (a ^^^ b) = crcStep a ^^^ crcStep b := by
  unfold crcStep
  rw [xor_mod2, xor_div2]
  rcases Nat.mod_two_eq_zero_or_one a with h1 | h1 <;> rcases Nat.mod_two_eq_zero_or_one b with h2 | h2 <;> simp [h1, h2]
  · rw [Nat.xor_assoc]
  · rw [Nat.xor_assoc, Nat.xor_assoc, Nat.xor_comm 3988292384]
  · rw [Nat.xor_assoc, ← Nat.xor_assoc 3988292384 (b / 2), Nat.xor_comm 3988292384 (b / 2), Nat.xor_assoc (b / 2), Nat.xor_self, Nat.xor_zero]

theorem crcN_xor (k a b : Nat) : crcN k (a ^^^ b) = crcN k a ^^^ crcN k b := by
  induction k with
  | zero => rfl
  | succ k ih => simp only [crcN, ih, crcStep_xor]

theorem crcN_add (a b s : Nat) : crcN (a + b) s = crcN a (crcN b s) := by
  induction a with
  | zero => rw [Nat.zero_add]; rfl
  | succ a ih =>
    rw [Nat.succ_add]
    simp only [crcN, ih]

theorem crcStep_two (y : Nat) : crcStep (2 * y) = y := by
  unfold crcStep
  have h1 : ¬ 2 * y % 2 = 1 := by omega
  rw [if_neg h1]
  omega

theorem crcN_pow (k y : Nat) : crcN k (y * 2 ^ k) = y := by
  induction k generalizing y with
  | zero => simp [crcN]
  | succ k ih =>
    simp only [crcN]
    have : y * 2 ^ (k + 1) = 2 * y * 2 ^ k := by rw [Nat.pow_succ, Nat.mul_comm (2 ^ k) 2, ← Nat.mul_assoc, Nat.mul_comm y 2]
    rw [this, ih, crcStep_two]

theorem join_xor (x h : Nat) (hx : x < 256) : x + 256 * h = x ^^^ 256 * h := by
  have e : (256 : Nat) = 2 ^ 8 := rfl
  refine Nat.eq_of_testBit_eq fun i => ?_
  rw [Nat.testBit_xor, Nat.add_comm, e, Nat.testBit_two_pow_mul_add h (by omega) i, Nat.mul_comm, Nat.testBit_mul_two_pow]
  by_cases hi : i < 8
  · have : ¬ 8 ≤ i := by omega
    simp [hi, this]
  · have h8 : 8 ≤ i := by omega
    have hz : x.testBit i = false := Nat.testBit_lt_two_pow (Nat.lt_of_lt_of_le (show x < 2 ^ 8 by omega) (two_le _ _ h8))
    simp [hi, h8, hz]

theorem crcL_eq (ds : List UInt8) : ∀ s, crcL ds s = crcN (8 * ds.length) (s ^^^ highN ds) := by
  induction ds with
  | nil => intro s; simp [crcL, highN, crcN]
  | cons x r ih =>
    intro s
    have e1 : 8 * (x :: r).length = 8 * r.length + 8 := by simp only [List.length_cons]; omega
    have e2 : s ^^^ highN (x :: r) = (s ^^^ x.toNat) ^^^ highN r * 2 ^ 8 := by
      simp only [highN]
      rw [join_xor _ _ x.toNat_lt, Nat.xor_assoc, Nat.mul_comm 256]
    rw [e1, e2, crcN_add, crcN_xor, crcN_pow]
    exact ih _

theorem crcStep_ne (x : Nat) (h : x < 4294967296) (h0 : x ≠ 0) : crcStep x ≠ 0 := by
  unfold crcStep
  split
  · intro e
    have h1 : (x / 2 ^^^ 3988292384).testBit 31 = true := by
      rw [Nat.testBit_xor, Nat.testBit_lt_two_pow (show x / 2 < 2 ^ 31 by omega)]
      decide
    rw [e] at h1
    simp at h1
  · omega
theorem crcN_ne (k x : Nat) (h : x < 4294967296) (h0 : x ≠ 0) : crcN k x ≠ 0 := by
  induction k with
  | zero => exact h0
  | succ k ih => exact crcStep_ne _ (crcN_lt k x h) ih

theorem xor_cancel (a b c : Nat) : (a ^^^ b = a ^^^ c) ↔ b = c := by
  refine ⟨fun h => ?_, fun h => by rw [h]⟩
  have := congrArg (a ^^^ ·) h
  simpa [← Nat.xor_assoc] using this

/-- P1.11: lists that differ in bits within 32 side by side have unlike sums. -/
theorem sum_turn (xs ys : List UInt8) (m first : Nat) (hl : ys.length = xs.length) (hm : m < 4294967296) (hf : first ≤ 8 * xs.length) (h : highN ys = highN xs ^^^ m * 2 ^ first) :
    sumN xs = sumN ys ↔ m = 0 := by
  unfold sumN
  rw [crcL_eq, crcL_eq, h, hl, xor_cancel, ← Nat.xor_assoc, crcN_xor (8 * xs.length) (4294967295 ^^^ highN xs) (m * 2 ^ first)]
  obtain ⟨k, hk⟩ : ∃ k, 8 * xs.length = k + first := ⟨8 * xs.length - first, by omega⟩
  have e : crcN (8 * xs.length) (m * 2 ^ first) = crcN k m := by rw [hk, crcN_add, crcN_pow]
  rw [e]
  constructor
  · intro h1
    have h2 : crcN k m = 0 := by
      have := (xor_cancel (crcN (8 * xs.length) (4294967295 ^^^ highN xs)) 0 (crcN k m)).1 (by rw [Nat.xor_zero]; exact h1)
      exact this.symm
    by_cases h3 : m = 0
    · exact h3
    · exact absurd h2 (crcN_ne k m hm h3)
  · intro h1
    rw [h1]
    have : crcN k 0 = 0 := by
      have := crcN_pow k 0
      simpa using this
    rw [this, Nat.xor_zero]

theorem xor_lt_byte (x t : Nat) (hx : x < 256) (ht : t < 8) : x ^^^ 2 ^ t < 256 :=
  Nat.xor_lt_two_pow (n := 8) hx (Nat.pow_lt_pow_right (by omega) ht)

theorem highN_flip : ∀ (ys : List UInt8) (q t : Nat) (ht : t < 8) (hq : q < ys.length), highN (ys.set q (UInt8.ofNat (ys[q].toNat ^^^ 2 ^ t))) = highN ys ^^^ 2 ^ (8 * q + t)
  | [], q, t, ht, hq => by simp at hq
  | x :: r, 0, t, ht, _ => by
    have hx := x.toNat_lt
    have e : (UInt8.ofNat (x.toNat ^^^ 2 ^ t)).toNat = x.toNat ^^^ 2 ^ t := by
      rw [UInt8.toNat_ofNat']
      exact Nat.mod_eq_of_lt (xor_lt_byte _ _ hx ht)
    simp only [List.set_cons_zero, highN, List.getElem_cons_zero, e]
    rw [join_xor _ _ (xor_lt_byte _ _ hx ht), join_xor _ _ hx, Nat.xor_assoc, Nat.xor_comm (2 ^ t), ← Nat.xor_assoc]
    simp
  | x :: r, q + 1, t, ht, hq => by
    have hx := x.toNat_lt
    have ih := highN_flip r q t ht (by simpa using hq)
    have e : 2 ^ (8 * (q + 1) + t) = 256 * 2 ^ (8 * q + t) := by
      rw [show 8 * (q + 1) + t = 8 + (8 * q + t) by omega, Nat.pow_add]
    simp only [List.set_cons_succ, highN, List.getElem_cons_succ, ih]
    rw [join_xor _ _ hx, join_xor _ _ hx, e, Nat.xor_assoc]
    congr 1
    have d := Nat.shiftLeft_xor_distrib (a := highN r) (b := 2 ^ (8 * q + t)) (i := 8)
    simp only [Nat.shiftLeft_eq] at d
    rw [Nat.mul_comm 256, Nat.mul_comm 256, Nat.mul_comm 256]
    exact d

end Go.Proofs.Ytonjmknjjdnjkaa
