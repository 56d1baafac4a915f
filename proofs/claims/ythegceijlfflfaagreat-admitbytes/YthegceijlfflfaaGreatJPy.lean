import Derived.Test.YthegceijlfflfaaGreatJOa
import Derived.Test.YthegceijlfflfaaGreatJCrc
namespace Go.Proofs.YthegceijlfflfaaGreat
open Go.RowKit
set_option linter.unusedVariables false
theorem xor_split (h m x t : Nat) (hx : x < 256) (ht : t < 256) : (256 * h + x) ^^^ (256 * m + t) = 256 * (h ^^^ m) + (x ^^^ t) := by
 apply Nat.eq_of_testBit_eq
 intro j
 have hxt : x ^^^ t < 2 ^ 8 := Nat.xor_lt_two_pow (n := 8) hx ht
 have e : ∀ a b : Nat, b < 2 ^ 8 → (256 * a + b).testBit j = if j < 8 then b.testBit j else a.testBit (j - 8) := fun a b hb => Nat.testBit_two_pow_mul_add a hb j
 rw [Nat.testBit_xor, e h x hx, e m t ht, e _ _ hxt, Nat.testBit_xor, Nat.testBit_xor]
 split <;> rfl
theorem highN_set : ∀ (xs : List UInt8) (i : Nat) (hi : i < xs.length) (t : UInt8), highN (xs.set i (xs[i] ^^^ t)) = highN xs ^^^ (t.toNat * 2 ^ (8 * i))
 | x :: r, 0, _, t => by
  simp only [List.set_cons_zero, List.getElem_cons_zero, highN]
  have h := xor_split (highN r) 0 x.toNat t.toNat x.toNat_lt t.toNat_lt
  rw [Nat.xor_zero] at h
  rw [UInt8.toNat_xor]
  simp only [Nat.mul_zero, Nat.pow_zero, Nat.mul_one]
  rw [Nat.mul_zero, Nat.zero_add] at h
  have c1 : x.toNat + 256 * highN r = 256 * highN r + x.toNat := Nat.add_comm _ _
  rw [c1, h]; omega
 | x :: r, i + 1, hi, t => by
  have ih := highN_set r i (by simpa using hi) t
  simp only [List.set_cons_succ, List.getElem_cons_succ, highN]
  have h := xor_split (highN r) (t.toNat * 2 ^ (8 * i)) x.toNat 0 x.toNat_lt (by decide)
  rw [Nat.xor_zero, Nat.add_zero] at h
  rw [ih]
  have e : t.toNat * 2 ^ (8 * (i + 1)) = 256 * (t.toNat * 2 ^ (8 * i)) := by
   rw [Nat.mul_add, Nat.pow_add, Nat.mul_one]
   have : (2 : Nat) ^ 8 = 256 := by decide
   rw [this, ← Nat.mul_assoc, Nat.mul_comm]
  rw [e]
  have c1 : x.toNat + 256 * highN r = 256 * highN r + x.toNat := Nat.add_comm _ _
  rw [c1, h]; omega
theorem xor_ne {a t : UInt8} (ht : t ≠ 0) : a ^^^ t ≠ a := by
 intro h
 apply ht
 have h1 : a ^^^ (a ^^^ t) = a ^^^ a := by rw [h]
 rw [← UInt8.xor_assoc, UInt8.xor_self, UInt8.zero_xor] at h1
 exact h1
theorem lowB_inj {a b : Nat} (ha : a < 4294967296) (hb : b < 4294967296) (h : lowB 4 a = lowB 4 b) : a = b := by
 have h1 := congrArg highN h
 rw [highN_lowB, highN_lowB] at h1
 have e : (256 : Nat) ^ 4 = 4294967296 := by decide
 rw [e, Nat.mod_eq_of_lt ha, Nat.mod_eq_of_lt hb] at h1
 exact h1
theorem pform_parts (x : PCfg) : (pform x).take ((pform x).length - 4) = pbody x ∧ (pform x).drop ((pform x).length - 4) = lowB 4 (sumN (pbody x)) ∧ (pbody x).length = (pform x).length - 4 := by
 have hl : (pform x).length - 4 = (pbody x).length := by unfold pform; rw [List.length_append, lowB_len]; omega
 rw [hl]
 unfold pform
 exact ⟨by simp, by simp, rfl⟩
theorem dec_turned (x : PCfg) (i : Nat) (hi : i < (pform x).length) (t : UInt8) (ht : t ≠ 0) : ∃ q k, dec ((pform x).set i ((pform x)[i] ^^^ t)) = .error (q, k) := by
 cases h : dec ((pform x).set i ((pform x)[i] ^^^ t)) with
 | error e => exact ⟨e.1, e.2, rfl⟩
 | ok y =>
  exfalso
  obtain ⟨_, hy⟩ := dec_ok h
  obtain ⟨p1, p2, p3⟩ := pform_parts x
  obtain ⟨q1, q2, q3⟩ := pform_parts y
  rw [← hy, List.length_set] at q1 q2 q3
  by_cases hin : i < (pform x).length - 4
  ·
   rw [List.drop_set_of_lt hin, p2] at q2
   have hs := lowB_inj (sumN_lt _) (sumN_lt _) q2
   have hset : pbody y = (pbody x).set i ((pbody x)[i]'(by rw [p3]; exact hin) ^^^ t) := by
    rw [← q1, List.take_set]
    have e1 : ∀ (B P : List UInt8) (n : Nat) (hB : i < B.length) (hP : i < P.length), B.take n = P → (B.take n).set i (B[i] ^^^ t) = P.set i (P[i] ^^^ t) := by
     intro B P n hB hP e
     subst e
     congr 2
     rw [List.getElem_take]
    exact e1 _ _ _ hi (by rw [p3]; exact hin) p1
   have hh := highN_set (pbody x) i (by rw [p3]; exact hin) t
   rw [← hset] at hh
   have := (sum_turn (pbody x) (pbody y) t.toNat (8 * i) (by rw [p3, q3]) (by have := t.toNat_lt; omega) (by rw [p3]; omega) hh).1 hs
   exact ht (UInt8.toNat_inj.1 this)
  ·
   rw [List.take_set_of_le (by omega), p1] at q1
   rw [← q1, ← p2] at q2
   have hB : (pform x).set i ((pform x)[i] ^^^ t) = pform x := by
    have e1 := List.take_append_drop ((pform x).length - 4) ((pform x).set i ((pform x)[i] ^^^ t))
    have e2 := List.take_append_drop ((pform x).length - 4) (pform x)
    rw [List.take_set_of_le (by omega), q2] at e1
    rw [← e1]; exact e2
   have h3 := congrArg (fun l => l[i]?) hB
   simp only [List.getElem?_set_self hi, List.getElem?_eq_getElem hi] at h3
   exact xor_ne ht (Option.some.inj h3)
end Go.Proofs.YthegceijlfflfaaGreat
