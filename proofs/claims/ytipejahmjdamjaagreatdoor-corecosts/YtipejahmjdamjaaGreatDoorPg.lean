import Derived.Test.YtipejahmjdamjaaGreatDoorB
namespace Go.Proofs.YtipejahmjdamjaaGreatDoor
open Go.RowKit
set_option linter.unusedVariables false

/-- What a call that may lay words leaves: the error, the memory's words. -/
def Done (w : World) (b g : Nat) (xs : List UInt32) (p n : Int) (ys : List UInt32) (e : Ending) (w' : World) : Prop :=
  ((0 ≤ p ∧ 0 ≤ n ∧ p + n ≤ xs.length) ∧ e = .returned (.int .i64 0) ∧ Mm w' b g (lay xs p.toNat ys) ∧ Keeps (· = g) w w') ∨
  (¬ (0 ≤ p ∧ 0 ≤ n ∧ p + n ≤ xs.length) ∧ e = .returned (.int .i64 51) ∧ w' = w)

theorem setRow_keeps (w : World) (g : Nat) (cs : Array Value) : Keeps (· = g) w (w.setRow g cs) := (Keeps.refl _ w).setRow g cs fun _ => rfl

set_option maxHeartbeats 400000 in
theorem write_in (b g : Nat) (xs : List UInt32) (p : Nat) (x : UInt32) (w : World) (h : Mm w b g xs) (hf : p < xs.length) :
    Calls Tryz.prog 15 #[.pointer (some ⟨b, 0, none⟩), .int .i64 p, .int .u32 (x.toNat : Int)] w fun e w' => e = .returned (.int .i64 0) ∧ Mm w' b g (lay xs p [x]) ∧ Keeps (· = g) w w' := by
  have hc := h.row.cell (wvs_get xs p hf)
  have hz := h.row.frozen p
  have HC : Hid (Calls _ _ _ _ _) := run_in b g xs p 1 w h (by omega)
  have hfin : w.setCell ⟨g, p, none⟩ (.int .u32 (x.toNat : Int)) = w.setRow g ((wvs xs).take p ++ wvs [x] ++ (wvs xs).drop (p + [x].length)).toArray := by
    rw [setCell_eq_setRow w g p _ 37 _ _ h.row]
    congr 1
    have hl : p < (wvs xs).length := by rw [wvs_length]; exact hf
    have e : (wvs xs).set p (.int .u32 (x.toNat : Int)) = (wvs xs).take p ++ wvs [x] ++ (wvs xs).drop (p + [x].length) := by
      rw [List.set_eq_take_append_cons_drop, if_pos hl]; simp [wvs]
    rw [← e]; simp
  have hM := h.laid p [x] (by simp; omega)
  rw [← hfin] at hM
  have hK : Keeps (· = g) w (w.setCell ⟨g, p, none⟩ (.int .u32 (x.toNat : Int))) := (Keeps.refl _ w).setCell _ _ fun _ => rfl
  rw [at0_in (n := 1) (show p + 1 ≤ xs.length by omega) (by omega)] at HC
  have HM : Hid (Mm _ _ _ _) := hM
  have HK : Hid (Keeps _ _ _) := hK
  obtain ⟨L, hL⟩ : ∃ L, L = xs.length - p := ⟨_, rfl⟩
  rw [← hL] at HC
  have hL1 : 0 < L := by omega
  obtain ⟨y, hy⟩ : ∃ y : Nat, y = x.toNat := ⟨_, rfl⟩
  obtain ⟨z, hz'⟩ : ∃ z : Nat, z = xs[p].toNat := ⟨_, rfl⟩
  rw [← hz'] at hc
  rw [← hy] at HM HK ⊢
  clear hfin hM hK h hf hL hy hz'
  go_enter Tryz.func15, Tryz.ntmps15
  go_wp2_with fail
  refine HC.out.mono ?_
  rintro e w1 ⟨rfl, hw⟩
  obtain rfl := hw.symm
  clear hw HC
  go_wp2
  go_ret
  exact ⟨rfl, HM.out, HK.out⟩

set_option maxHeartbeats 400000 in
theorem write_out (b g : Nat) (xs : List UInt32) (p : Int) (x : Nat) (w : World) (h : Mm w b g xs) (hf : ¬ (0 ≤ p ∧ p < xs.length)) (hp : p ≤ 9223372036854775807) :
    Calls Tryz.prog 15 #[.pointer (some ⟨b, 0, none⟩), .int .i64 p, .int .u32 x] w fun e w' => e = .returned (.int .i64 51) ∧ w' = w := by
  have HC : Hid (Calls _ _ _ _ _) := run_out b g xs p 1 w h (by omega) hp
  clear h hf hp
  go_enter Tryz.func15, Tryz.ntmps15
  go_wp2_with fail
  refine HC.out.mono ?_
  rintro e w1 ⟨rfl, hw⟩
  obtain rfl := hw.symm
  clear hw HC
  go_wp2
  go_ret
  exact ⟨rfl, rfl⟩

set_option maxHeartbeats 400000 in
theorem read_in (b g : Nat) (xs : List UInt32) (p : Nat) (w : World) (h : Mm w b g xs) (hf : p < xs.length) :
    Calls Tryz.prog 36 #[.pointer (some ⟨b, 0, none⟩), .int .i64 p] w fun e w' => e = .returned (.tuple #[.int .u32 (xs[p].toNat : Int), .int .i64 0]) ∧ w' = w := by
  have hc := h.row.cell (wvs_get xs p hf)
  have HC : Hid (Calls _ _ _ _ _) := run_in b g xs p 1 w h (by omega)
  rw [at0_in (n := 1) (show p + 1 ≤ xs.length by omega) (by omega)] at HC
  obtain ⟨L, hL⟩ : ∃ L, L = xs.length - p := ⟨_, rfl⟩
  rw [← hL] at HC
  obtain ⟨z, hz'⟩ : ∃ z : Nat, z = xs[p].toNat := ⟨_, rfl⟩
  rw [← hz'] at hc ⊢
  clear h hf hL hz'
  go_enter Tryz.func36, Tryz.ntmps36
  go_wp2_with fail
  refine HC.out.mono ?_
  rintro e w1 ⟨rfl, hw⟩
  obtain rfl := hw.symm
  clear hw HC
  go_wp2
  go_ret2
  exact ⟨rfl, rfl⟩

end Go.Proofs.YtipejahmjdamjaaGreatDoor
namespace Go.Proofs.YtipejahmjdamjaaGreatDoor
set_option linter.unusedVariables false

/-- An entry's word. -/
def enc (f r : Nat) : UInt32 := UInt32.ofNat (2147483648 + f * 8 + r)
theorem enc_nat (f r : Nat) (hf : f < 1024) (hr : r < 8) : (enc f r).toNat = 2147483648 + f * 8 + r := by
  unfold enc
  rw [UInt32.toNat_ofNat']
  omega

/-- What a word says: is it there, its frame, its rights. -/
def isT (x : Nat) : Bool := decide (2147483648 ≤ x)
def frm (x : Nat) : Nat := if isT x then x / 8 % 1024 else 0
def rts (x : Nat) : Nat := if isT x then x % 8 else 0

theorem or_shape (f r : Nat) (hf : f < 1024) (hr : r < 8) : (2147483648 ||| f <<< 3) ||| r = 2147483648 + f * 8 + r := by
  have h1 : f <<< 3 = f * 8 := by rw [Nat.shiftLeft_eq]
  have h2 : 2147483648 ||| f <<< 3 = 2147483648 + f * 8 := by
    have := Nat.two_pow_add_eq_or_of_lt (i := 31) (b := f * 8) (by omega) 1
    rw [h1]
    exact this.symm
  have h3 : (2147483648 + f * 8) ||| r = 2147483648 + f * 8 + r := by
    have := Nat.two_pow_add_eq_or_of_lt (i := 3) (b := r) (by omega) (268435456 + f)
    have e : 2 ^ 3 * (268435456 + f) = 2147483648 + f * 8 := by omega
    rw [e] at this
    exact this.symm
  rw [h2, h3]

theorem and_top (x : Nat) (h : x < 4294967296) : x &&& 2147483648 = if isT x then 2147483648 else 0 := by
  have e : x &&& 2147483648 = 2147483648 * (x / 2147483648 % 2) := by
    apply Nat.eq_of_testBit_eq
    intro i
    rw [show (2147483648 : Nat) = 2 ^ 31 from rfl, Nat.testBit_and, Nat.testBit_two_pow_mul, Nat.testBit_two_pow, ← Nat.shiftRight_eq_div_pow]
    by_cases hi : 31 ≤ i
    · by_cases h31 : i = 31
      · subst h31
        have : (x >>> 31 % 2).testBit 0 = x.testBit 31 := by
          rw [Nat.testBit_zero, Nat.testBit_eq_decide_div_mod_eq, Nat.shiftRight_eq_div_pow]
          simp
        simp [this]
      · have hb : (x >>> 31 % 2).testBit (i - 31) = false := by
          apply Nat.testBit_lt_two_pow
          have : 2 ^ 1 ≤ 2 ^ (i - 31) := Nat.pow_le_pow_right (by omega) (by omega)
          omega
        have : ¬ 31 = i := fun e => h31 e.symm
        simp [this, hb]
    · have : ¬ 31 = i := by omega
      simp [this, hi]
  rw [e]
  unfold isT
  by_cases hx : 2147483648 ≤ x
  · rw [if_pos (decide_eq_true hx)]
    have : x / 2147483648 = 1 := by omega
    rw [this]
  · rw [if_neg (by simp; omega)]
    have : x / 2147483648 = 0 := by omega
    rw [this]

/-- A leaf. -/
structure Lf where
  page : Nat
  frame : Nat
  rights : Nat
deriving DecidableEq

def lf0 : Lf := ⟨0, 0, 0⟩

/-- What the entry at i names: frame, rights, error. -/
def nmE (n x : Nat) : Nat := if isT x then (if frm x < n then 0 else 91) else 92
def nmF (n x : Nat) : Nat := if nmE n x = 0 then frm x else 0
def nmR (n x : Nat) : Nat := if nmE n x = 0 then rts x else 0

/-- Walk: its leaf and its error, of a memory of n frames. -/
def walkT (n : Nat) (xs : List UInt32) (root page : Int) : Nat := (xs.getD (16 * root.toNat + page.toNat / 16) 0).toNat
def walkB (n : Nat) (xs : List UInt32) (root page : Int) : Nat := (xs.getD (16 * frm (walkT n xs root page) + page.toNat % 16) 0).toNat
def walkE (n : Nat) (xs : List UInt32) (root page : Int) : Nat :=
  if ¬ (0 ≤ root ∧ root < n) then 91 else if ¬ (0 ≤ page ∧ page < 256) then 92 else
  if nmE n (walkT n xs root page) = 0 then nmE n (walkB n xs root page) else nmE n (walkT n xs root page)
def walkL (n : Nat) (xs : List UInt32) (root page : Int) : Lf :=
  if walkE n xs root page = 0 then ⟨page.toNat, frm (walkB n xs root page), rts (walkB n xs root page)⟩ else lf0

end Go.Proofs.YtipejahmjdamjaaGreatDoor
