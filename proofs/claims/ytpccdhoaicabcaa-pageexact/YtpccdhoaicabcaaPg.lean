namespace Go.Proofs.Ytpccdhoaicabcaa
set_option linter.unusedVariables false

/-- An entry's word. -/
def enc (f r : Nat) : UInt32 := UInt32.ofNat (2147483648 + f * 8 + r)
theorem enc_nat (f r : Nat) (hf : f < 1024) (hr : r < 8) : (enc f r).toNat = 2147483648 + f * 8 + r := by
  unfold enc
  rw [UInt32.toNat_ofNat']
  omega

/-- What a word says: is it there, its frame, its rights. -/
def isT (x : Nat) : Bool := decide (2147483648 ≤ x)
def frm (x : Nat) : Nat := if isT x then x / 8 % 1024 else 0
def rts (x : Nat) : Nat := if isT x then x % 8 else 0

theorem or_shape (f r : Nat) (hf : f < 1024) (hr : r < 8) : (2147483648 ||| f <<< 3) ||| r = 2147483648 + f * 8 + r := by
  have h1 : f <<< 3 = f * 8 := by rw [Nat.shiftLeft_eq]
  have h2 : 2147483648 ||| f <<< 3 = 2147483648 + f * 8 := by
    have := Nat.two_pow_add_eq_or_of_lt (i := 31) (b := f * 8) (by omega) 1
    rw [h1]
    exact this.symm
  have h3 : (2147483648 + f * 8) ||| r = 2147483648 + f * 8 + r := by
    have := Nat.two_pow_add_eq_or_of_lt (i := 3) (b := r) (by omega) (268435456 + f)
    have e : 2 ^ 3 * (268435456 + f) = 2147483648 + f * 8 := by omega
    rw [e] at this
    exact this.symm
  rw [h2, h3]

theorem and_top (x : Nat) (h : x < 4294967296) : x &&& 2147483648 = if isT x then 2147483648 else 0 := by
  have e : x &&& 2147483648 = 2147483648 * (x / 2147483648 % 2) := by
    apply Nat.eq_of_testBit_eq
    intro i
    rw [show (2147483648 : Nat) = 2 ^ 31 from rfl, Nat.testBit_and, Nat.testBit_two_pow_mul, Nat.testBit_two_pow, ← Nat.shiftRight_eq_div_pow]
    by_cases hi : 31 ≤ i
    · by_cases h31 : i = 31
      · subst h31
        have : (x >>> 31 % 2).testBit 0 = x.testBit 31 := by
          rw [Nat.testBit_zero, Nat.testBit_eq_decide_div_mod_eq, Nat.shiftRight_eq_div_pow]
          simp
        simp [this]
      · have hb : (x >>> 31 % 2).testBit (i - 31) = false := by
          apply Nat.testBit_lt_two_pow
          have : 2 ^ 1 ≤ 2 ^ (i - 31) := Nat.pow_le_pow_right (by omega) (by omega)
          omega
        have : ¬ 31 = i := fun e => h31 e.symm
        simp [this, hb]
    · have : ¬ 31 = i := by omega
      simp [this, hi]
  rw [e]
  unfold isT
  by_cases hx : 2147483648 ≤ x
  · rw [if_pos (decide_eq_true hx)]
    have : x / 2147483648 = 1 := by omega
    rw [this]
  · rw [if_neg (by simp; omega)]
    have : x / 2147483648 = 0 := by omega
    rw [this]

/-- A leaf. -/
structure Lf where
  page : Nat
  frame : Nat
  rights : Nat
deriving DecidableEq

def lf0 : Lf := ⟨0, 0, 0⟩

/-- What the entry at i names: frame, rights, error. -/
def nmE (n x : Nat) : Nat := if isT x then (if frm x < n then 0 else 91) else 92
def nmF (n x : Nat) : Nat := if nmE n x = 0 then frm x else 0
def nmR (n x : Nat) : Nat := if nmE n x = 0 then rts x else 0

/-- Walk: its leaf and its error, of a memory of n frames. -/
def walkT (n : Nat) (xs : List UInt32) (root page : Int) : Nat := (xs.getD (16 * root.toNat + page.toNat / 16) 0).toNat
def walkB (n : Nat) (xs : List UInt32) (root page : Int) : Nat := (xs.getD (16 * frm (walkT n xs root page) + page.toNat % 16) 0).toNat
def walkE (n : Nat) (xs : List UInt32) (root page : Int) : Nat :=
  if ¬ (0 ≤ root ∧ root < n) then 91 else if ¬ (0 ≤ page ∧ page < 256) then 92 else
  if nmE n (walkT n xs root page) = 0 then nmE n (walkB n xs root page) else nmE n (walkT n xs root page)
def walkL (n : Nat) (xs : List UInt32) (root page : Int) : Lf :=
  if walkE n xs root page = 0 then ⟨page.toNat, frm (walkB n xs root page), rts (walkB n xs root page)⟩ else lf0

end Go.Proofs.Ytpccdhoaicabcaa
