import Derived.Test.YtohojpacijnnaaaDoorEnc
namespace Go.Proofs.YtohojpacijnnaaaDoor.Is
open Go.RowKit
set_option linter.unusedVariables false

/-- Has an instruction a word? -/
def okI (op a b c imm : Int) : Bool :=
  (formOf op != 0) && fitB (hasA (formOf op)) a && fitB (hasB (formOf op)) b && fitB (hasC (formOf op)) c && (hasI (formOf op) || imm == 0) && decide (-131072 ≤ imm ∧ imm < 131072)
/-- The document's sum. -/
def wordI (op a b c imm : Int) : Int := op * 67108864 + a * 4194304 + b * 262144 + c * 16384 + imm % 262144
def encW (op a b c imm : Int) : Int := if okI op a b c imm then wordI op a b c imm else 0
def encE (op a b c imm : Int) : Int := if okI op a b c imm then 0 else 21

theorem fitB_bd {t : Bool} {n : Int} (h : fitB t n = true) : 0 ≤ n ∧ n ≤ 15 := by
  cases t <;> simp [fitB] at h <;> omega
theorem formOf_bd {n : Int} (h : formOf n ≠ 0) : 1 ≤ n ∧ n ≤ 30 := by
  by_cases hn : n < 0 ∨ 31 ≤ n
  · exact absurd (show formOf n = 0 by unfold formOf rowOf; rw [if_pos hn]; rfl) h
  · by_cases h0 : n = 0
    · subst h0; exact absurd rfl h
    · omega

theorem or_nat (op a b c m : Nat) (h1 : op ≤ 30) (h2 : a ≤ 15) (h3 : b ≤ 15) (h4 : c ≤ 15) (h5 : m < 262144) (h6 : c = 0 ∨ m = 0) :
    (((op * 67108864 ||| a * 4194304) ||| b * 262144) ||| c * 16384) ||| m = op * 67108864 + a * 4194304 + b * 262144 + c * 16384 + m := by
  have e1 : op * 67108864 ||| a * 4194304 = op * 67108864 + a * 4194304 := by
    have := Nat.two_pow_add_eq_or_of_lt (i := 26) (b := a * 4194304) (by omega) op
    have e : 2 ^ 26 * op = op * 67108864 := by omega
    rw [e] at this; exact this.symm
  have e2 : (op * 67108864 + a * 4194304) ||| b * 262144 = op * 67108864 + a * 4194304 + b * 262144 := by
    have := Nat.two_pow_add_eq_or_of_lt (i := 22) (b := b * 262144) (by omega) (op * 16 + a)
    have e : 2 ^ 22 * (op * 16 + a) = op * 67108864 + a * 4194304 := by omega
    rw [e] at this; exact this.symm
  have e3 : (op * 67108864 + a * 4194304 + b * 262144) ||| c * 16384 = op * 67108864 + a * 4194304 + b * 262144 + c * 16384 := by
    have := Nat.two_pow_add_eq_or_of_lt (i := 18) (b := c * 16384) (by omega) (op * 256 + a * 16 + b)
    have e : 2 ^ 18 * (op * 256 + a * 16 + b) = op * 67108864 + a * 4194304 + b * 262144 := by omega
    rw [e] at this; exact this.symm
  rw [e1, e2, e3]
  rcases h6 with rfl | rfl
  · have := Nat.two_pow_add_eq_or_of_lt (i := 18) (b := m) (by omega) (op * 256 + a * 16 + b)
    have e : 2 ^ 18 * (op * 256 + a * 16 + b) = op * 67108864 + a * 4194304 + b * 262144 + 0 * 16384 := by omega
    rw [e] at this; exact this.symm
  · simp

theorem orW_eq (op a b c imm : Int) (h1 : 1 ≤ op ∧ op ≤ 30) (h2 : 0 ≤ a ∧ a ≤ 15) (h3 : 0 ≤ b ∧ b ≤ 15) (h4 : 0 ≤ c ∧ c ≤ 15) (h6 : c = 0 ∨ imm = 0) : orW op a b c imm = wordI op a b c imm := by
  obtain ⟨op, rfl⟩ : ∃ x : Nat, op = (x : Int) := ⟨op.toNat, by omega⟩
  obtain ⟨a, rfl⟩ : ∃ x : Nat, a = (x : Int) := ⟨a.toNat, by omega⟩
  obtain ⟨b, rfl⟩ : ∃ x : Nat, b = (x : Int) := ⟨b.toNat, by omega⟩
  obtain ⟨c, rfl⟩ : ∃ x : Nat, c = (x : Int) := ⟨c.toNat, by omega⟩
  obtain ⟨m, hm⟩ : ∃ x : Nat, imm % 262144 = (x : Int) := ⟨(imm % 262144).toNat, by omega⟩
  have hm2 : m < 262144 := by omega
  have hm3 : c = 0 ∨ m = 0 := by omega
  unfold orW wordI
  have e1 : (op : Int) % 4294967296 * 67108864 % 4294967296 = ((op * 67108864 : Nat) : Int) := by omega
  have e2 : (a : Int) % 4294967296 * 4194304 % 4294967296 = ((a * 4194304 : Nat) : Int) := by omega
  have e3 : (b : Int) % 4294967296 * 262144 % 4294967296 = ((b * 262144 : Nat) : Int) := by omega
  have e4 : (c : Int) % 4294967296 * 16384 % 4294967296 = ((c * 16384 : Nat) : Int) := by omega
  rw [e1, e2, e3, e4, hm]
  have o := or_nat op a b c m (by omega) (by omega) (by omega) (by omega) hm2 hm3
  have k1 : op * 67108864 ||| a * 4194304 < 4294967296 := Nat.or_lt_two_pow (n := 32) (by omega) (by omega)
  have k2 : (op * 67108864 ||| a * 4194304) ||| b * 262144 < 4294967296 := Nat.or_lt_two_pow (n := 32) k1 (by omega)
  have k3 : ((op * 67108864 ||| a * 4194304) ||| b * 262144) ||| c * 16384 < 4294967296 := Nat.or_lt_two_pow (n := 32) k2 (by omega)
  rw [u32_or_nat _ _ (by omega) (by omega), u32_or_nat _ _ k1 (by omega), u32_or_nat _ _ k2 (by omega), u32_or_nat _ _ k3 (by omega), o]
  omega

/-- What Encode answers. -/
theorem enc_any (op a b c imm : Int) (w : World) (h : Tabs w) :
    Calls Tryd.prog 35 #[insV op a b c imm] w fun e w' => e = .returned (.tuple #[.int .u32 (encW op a b c imm), .int .i64 (encE op a b c imm)]) ∧ Below w.heap.size w w' := by
  obtain ⟨k, hk, hk8⟩ := formOf_nat op
  have no : okI op a b c imm = false → encW op a b c imm = 0 ∧ encE op a b c imm = 21 := fun h => by simp [encW, encE, h]
  by_cases hk0 : k = 0
  · obtain ⟨e1, e2⟩ := no (by simp [okI, hk, hk0])
    rw [e1, e2]
    exact enc_zero op a b c imm w h (by omega)
  have hkn : formOf op ≠ 0 := by omega
  have hkn' : ((k : Int) != 0) = true := by simp; omega
  cases FA : fitB (hasA k) a
  · obtain ⟨e1, e2⟩ := no (by simp [okI, hk, FA])
    rw [e1, e2]
    exact enc_a op a b c imm w h k hk hk8 hk0 FA
  cases FB : fitB (hasB k) b
  · obtain ⟨e1, e2⟩ := no (by simp [okI, hk, FB])
    rw [e1, e2]
    exact enc_b op a b c imm w h k hk hk8 hk0 FA FB
  cases FC : fitB (hasC k) c
  · obtain ⟨e1, e2⟩ := no (by simp [okI, hk, FC])
    rw [e1, e2]
    exact enc_c op a b c imm w h k hk hk8 hk0 FA FB FC
  have hop := formOf_bd hkn
  cases FI : hasI k
  · by_cases hm : imm = 0
    · have y : okI op a b c imm = true := by simp [okI, hk, hkn', FA, FB, FC, FI, hm]
      have e := orW_eq op a b c imm hop (fitB_bd FA) (fitB_bd FB) (fitB_bd FC) (.inr hm)
      have := enc_none op a b c imm w h k hk hk8 hk0 FA FB FC FI hm
      rw [e] at this
      simpa [encW, encE, y] using this
    · obtain ⟨e1, e2⟩ := no (by simp [okI, hk, FI, hm])
      rw [e1, e2]
      exact enc_i op a b c imm w h k hk hk8 hk0 FA FB FC FI hm
  · by_cases hr : imm < -131072 ∨ 131072 ≤ imm
    · obtain ⟨e1, e2⟩ := no (by simp only [okI]; rw [show decide (-131072 ≤ imm ∧ imm < 131072) = false by simp; omega]; simp)
      rw [e1, e2]
      exact enc_r op a b c imm w h k hk hk8 hk0 FA FB FC FI hr
    · have y : okI op a b c imm = true := by simp [okI, hk, hkn', FA, FB, FC, FI]; omega
      have hc : c = 0 := by
        have : hasC k = false := by
          have h4 : (k : Int) ≠ 4 := by intro h4; rw [h4] at FI; exact absurd FI (by decide)
          simp [hasC]; omega
        rw [this] at FC
        simpa [fitB] using FC
      have e := orW_eq op a b c imm hop (fitB_bd FA) (fitB_bd FB) (fitB_bd FC) (.inl hc)
      have := enc_yes op a b c imm w h k hk hk8 hk0 FA FB FC FI (by omega) (by omega)
      rw [e] at this
      simpa [encW, encE, y] using this
end Go.Proofs.YtohojpacijnnaaaDoor.Is
