import Derived.Test.YtnkfdmlpjgmckabFx
namespace Go.Proofs.Ytnkfdmlpjgmckab
open Go.RowKit
set_option linter.unusedVariables false
set_option maxRecDepth 6000

/-- What is not above one's rung is not above one. -/
theorem not_gt {r : Nat} (h : r ≤ 4607182418800017408) : (FloatKind.f64.format.order r 4607182418800017408 == some Ordering.gt) = false := by
  have e1 : Ieee.double.read 4607182418800017408 = .number false 4503599627370496 (-52) := by decide +kernel
  have hB : Ieee.double.binade = 4503599627370496 := by decide +kernel
  have hI : Ieee.double.infRung = 9218868437227405312 := by decide +kernel
  have hS : Ieee.double.signWeight = 9223372036854775808 := by decide +kernel
  have hL : Ieee.double.leastPlace = -1074 := by decide +kernel
  show ((Ieee.double.read r).order (Ieee.double.read 4607182418800017408) == some Ordering.gt) = false
  rw [e1]
  have hr : Ieee.double.read r = if r < 4503599627370496 then .number false r (-1074) else .number false (4503599627370496 + r % 4503599627370496) (-1074 + ((r / 4503599627370496 - 1 : Nat) : Int)) := by
    unfold Ieee.Format.read
    dsimp only
    rw [hB, hI, hS, hL]
    have e2 : r / 9223372036854775808 % 2 = 0 := by rw [Nat.div_eq_of_lt (by omega)]
    have e3 : r % 9223372036854775808 = r := Nat.mod_eq_of_lt (by omega)
    rw [e2, e3]
    by_cases hc : r < 4503599627370496
    · rw [if_pos hc, if_pos hc]; rfl
    · rw [if_neg hc, if_neg hc, if_pos (by omega)]; rfl
  rw [hr]
  have key : ∀ (m k : Nat) (i : Int), i = -52 - k → m ≤ 4503599627370496 * 2 ^ k → ((Ieee.Datum.number false m i).order (.number false 4503599627370496 (-52)) == some Ordering.gt) = false := by
    intro m k i hi hm
    unfold Ieee.Datum.order
    dsimp only
    have hmin : min i (-52) = i := by omega
    rw [hmin]
    have e4 : (i - i).toNat = 0 := by omega
    have e5 : (-52 - i).toNat = k := by omega
    rw [e4, e5]
    unfold Ieee.signed
    simp only [Bool.false_eq_true, if_false, Nat.shiftLeft_eq, Nat.pow_zero, Nat.mul_one]
    have h2 : ((m : Nat) : Int) ≤ ((4503599627370496 * 2 ^ k : Nat) : Int) := by exact_mod_cast hm
    have : compare ((m : Nat) : Int) ((4503599627370496 * 2 ^ k : Nat) : Int) ≠ .gt := by
      rw [compare, instOrdInt]
      simp only [compareOfLessAndEq]
      split
      · simp
      · split
        · simp
        · omega
    simpa using this
  by_cases hc : r < 4503599627370496
  · rw [if_pos hc]
    obtain ⟨k, hk⟩ : ∃ k, k = 1022 := ⟨_, rfl⟩
    refine key r k (-1074) (by omega) ?_
    have : 4503599627370496 * 1 ≤ 4503599627370496 * 2 ^ k := Nat.mul_le_mul_left _ (Nat.one_le_two_pow)
    omega
  · rw [if_neg hc]
    obtain ⟨a, ha⟩ : ∃ a, r / 4503599627370496 = a := ⟨_, rfl⟩
    rw [ha]
    have ha1 : 1 ≤ a ∧ a ≤ 1023 := by omega
    refine key _ (1023 - a) _ (by omega) ?_
    by_cases h3 : a = 1023
    · subst h3
      have : r % 4503599627370496 = 0 := by omega
      rw [this]
      simp
    · have h4 : 2 ^ 1 ≤ 2 ^ (1023 - a) := Nat.pow_le_pow_right (by omega) (by omega)
      have h5 : 4503599627370496 * 2 ≤ 4503599627370496 * 2 ^ (1023 - a) := Nat.mul_le_mul_left _ (by simpa using h4)
      have h6 : r % 4503599627370496 < 4503599627370496 := Nat.mod_lt _ (by omega)
      omega

theorem log2_52 {M : Nat} (h1 : 4503599627370496 ≤ M) (h2 : M < 9007199254740992) : M.log2 = 52 := by
  have a := (Nat.le_log2 (n := M) (k := 52) (by omega)).2 (by simpa using h1)
  have b := (Nat.log2_lt (n := M) (k := 53) (by omega)).2 (by simpa using h2)
  omega
theorem log2_mono {a b : Nat} (h : a ≤ b) (ha : 1 ≤ a) : a.log2 ≤ b.log2 :=
  (Nat.le_log2 (by omega)).2 (Nat.le_trans (Nat.log2_self_le (by omega)) h)

theorem cut_le (n drop g : Nat) (hg : 1 <<< min drop (n.log2 + 2) = g) : Ieee.Toward.even.cut false n drop ≤ n / g + 1 := by
  unfold Ieee.Toward.cut
  dsimp only
  rw [hg]
  have : ∀ b : Bool, b.toNat ≤ 1 := by intro b; cases b <;> simp
  have := this (decide (g < 2 * (n % g)) || (g == 2 * (n % g) && n / g % 2 == 1))
  omega
theorem cut_eq (n drop g : Nat) (hg : 1 <<< min drop (n.log2 + 2) = g) (h0 : n % g = 0) (hp : 0 < g) : Ieee.Toward.even.cut false n drop = n / g := by
  unfold Ieee.Toward.cut
  dsimp only
  rw [hg, h0]
  have e1 : decide (g < 2 * 0) = false := by simp
  have e2 : (g == 2 * 0) = false := by simp; omega
  rw [e1, e2]
  rfl
/-- The rung of a number whose last place is kept. -/
theorem near_le {q : Nat} {place last : Int} {kept : Nat} (hq : q ≠ 0) (hl : last = place + q.log2 - 52) (hl2 : -1074 ≤ last) (hk : Ieee.Toward.even.cut false (q <<< (place - last).toNat) (last - place).toNat ≤ kept) (hb : (last + 1074).toNat * 4503599627370496 + kept ≤ 4607182418800017408) :
    Ieee.double.nearest false q place ≤ 4607182418800017408 := by
  have hL : Ieee.double.leastPlace = -1074 := by decide +kernel
  have hB : Ieee.double.binade = 4503599627370496 := by decide +kernel
  have hF : Ieee.double.fractionBits = 52 := rfl
  unfold Ieee.Format.nearest Ieee.Format.word
  rw [if_neg hq]
  generalize Ieee.double.infRung = I
  generalize Ieee.double.signWeight = W
  simp only [hL, hF, hB, Bool.false_eq_true, if_false]
  have e1 : max (place + (q.log2 : Int) - ((52 : Nat) : Int)) (-1074) = last := by omega
  rw [e1]
  have e2 : (last - -1074).toNat = (last + 1074).toNat := by omega
  rw [e2]
  refine Nat.le_trans (Nat.min_le_left _ _) ?_
  exact Nat.le_trans (Nat.add_le_add_left hk _) hb

/-- A quotient of two that is not above one. -/
theorem quo_le {U M : Nat} (hU : 1 ≤ U) (hUM : U ≤ M) (hM : M ≤ 16384) {r : Nat} (h : shr U M = some r) : r ≤ 4607182418800017408 := by
  obtain ⟨u1, u2, u3⟩ := exact_n hU (by omega)
  obtain ⟨m1, m2, m3⟩ := exact_n (n := M) (by omega) hM
  have hlog := log2_mono hUM hU
  have hM14 : M.log2 < 15 := (Nat.log2_lt (by omega)).2 (by omega)
  have hsame : U.log2 = M.log2 → U <<< (52 - U.log2) ≤ M <<< (52 - M.log2) := by
    intro e
    rw [e, Nat.shiftLeft_eq, Nat.shiftLeft_eq]
    exact Nat.mul_le_mul_right _ hUM
  have heq : U.log2 = M.log2 → U <<< (52 - U.log2) = M <<< (52 - M.log2) → True := fun _ _ => trivial
  generalize U <<< (52 - U.log2) = A at *
  generalize M <<< (52 - M.log2) = B at *
  generalize hu : U.log2 = lu at *
  generalize hm : M.log2 = lm at *
  have h2 : ((Ieee.Datum.number false A ((lu : Int) - 52)).quotient 54 (.number false B ((lm : Int) - 52))).map Ieee.double.write = some r := by
    have e : shr U M = ((Ieee.double.read (floatOfInt .f64 (U : Int))).quotient 54 (Ieee.double.read (floatOfInt .f64 (M : Int)))).map Ieee.double.write := rfl
    rw [e, u1, m1] at h
    exact h
  have lA := log2_52 u2 u3
  have lB := log2_52 m2 m3
  unfold Ieee.Datum.quotient at h2
  dsimp only at h2
  rw [if_neg (by omega), lA, lB, Nat.add_sub_cancel] at h2
  simp only [Option.map_some, Option.some.injEq, Bool.xor_false, Nat.shiftLeft_eq] at h2
  have p54 : (2 : Nat) ^ 54 = 18014398509481984 := by decide
  rw [p54] at h2
  obtain ⟨D, hD⟩ : ∃ D, A * 18014398509481984 / B = D := ⟨_, rfl⟩
  obtain ⟨S, hS⟩ : ∃ S, (A * 18014398509481984 % B != 0).toNat = S := ⟨_, rfl⟩
  have hS1 : S ≤ 1 := by rw [← hS]; cases (A * 18014398509481984 % B != 0) <;> simp
  have hD1 : 9007199254740992 ≤ D := by
    rw [← hD, Nat.le_div_iff_mul_le (by omega)]
    have : B ≤ 2 * A := by omega
    omega
  have hD2 : D < 36028797018963968 := by
    rw [← hD, Nat.div_lt_iff_lt_mul (by omega)]
    have : A < 2 * B := by omega
    omega
  rw [hD, hS] at h2
  obtain ⟨q, hq⟩ : ∃ q, 2 * D + S = q := ⟨_, rfl⟩
  rw [hq] at h2
  obtain ⟨pl, hpl⟩ : ∃ pl, (lu : Int) - 52 - ((lm : Int) - 52) - ((54 : Nat) : Int) - 1 = pl := ⟨_, rfl⟩
  rw [hpl] at h2
  have h3 : Ieee.double.nearest false q pl = r := h2
  rw [← h3]
  by_cases hq5 : q < 36028797018963968
  · have l54 : q.log2 = 54 := by
      have a := (Nat.le_log2 (n := q) (k := 54) (by omega)).2 (by omega)
      have b := (Nat.log2_lt (n := q) (k := 55) (by omega)).2 (by omega)
      omega
    refine near_le (last := pl + 2) (kept := 9007199254740992) (by omega) (by rw [l54]; omega) (by omega) ?_ (by omega)
    have e1 : (pl - (pl + 2)).toNat = 0 := by omega
    have e2 : (pl + 2 - pl).toNat = 2 := by omega
    rw [e1, e2, Nat.shiftLeft_zero]
    have := cut_le q 2 4 (by rw [l54]; rfl)
    omega
  · have l55 : q.log2 = 55 := by
      have a := (Nat.le_log2 (n := q) (k := 55) (by omega)).2 (by omega)
      have b := (Nat.log2_lt (n := q) (k := 56) (by omega)).2 (by omega)
      omega
    have e1 : (pl - (pl + 3)).toNat = 0 := by omega
    have e2 : (pl + 3 - pl).toNat = 3 := by omega
    by_cases hlt : lu < lm
    · refine near_le (last := pl + 3) (kept := 9007199254740992) (by omega) (by rw [l55]; omega) (by omega) ?_ (by omega)
      rw [e1, e2, Nat.shiftLeft_zero]
      have := cut_le q 3 8 (by rw [l55]; rfl)
      omega
    · have hAB := hsame (by omega)
      have hDle : D ≤ 18014398509481984 := by
        rw [← hD]
        have : A * 18014398509481984 / B ≤ B * 18014398509481984 / B := Nat.div_le_div_right (Nat.mul_le_mul_right _ hAB)
        rw [Nat.mul_div_cancel_left _ (by omega)] at this
        exact this
      have hDge : D = 18014398509481984 := by omega
      have hBA : B = A := by
        have : 18014398509481984 * B ≤ A * 18014398509481984 := by
          rw [← hDge, ← hD]
          have := Nat.div_mul_le_self (A * 18014398509481984) B
          rw [hDge] at hD
          rw [hD] at this ⊢
          omega
        omega
      have hS0 : S = 0 := by
        rw [← hS, hBA]
        simp
      refine near_le (last := pl + 3) (kept := 4503599627370496) (by omega) (by rw [l55]; omega) (by omega) ?_ (by omega)
      rw [e1, e2, Nat.shiftLeft_zero]
      have := cut_eq q 3 8 (by rw [l55]; rfl) (by omega) (by omega)
      omega
/-- A share of one core is not above one. -/
theorem shr_le {u m : Int} (hu : 0 ≤ u) (hum : u ≤ m) (h1 : 1 ≤ m) (hm : m ≤ 16384) {r : Nat} (h : shr u m = some r) : (FloatKind.f64.format.order r 4607182418800017408 == some Ordering.gt) = false := by
  apply not_gt
  obtain ⟨U, rfl⟩ : ∃ U : Nat, u = U := ⟨u.toNat, by omega⟩
  obtain ⟨M, rfl⟩ : ∃ M : Nat, m = M := ⟨m.toNat, by omega⟩
  by_cases h0 : U = 0
  · subst h0
    obtain ⟨m1, m2, m3⟩ := exact_n (n := M) (by omega) (by omega)
    have e : shr ((0 : Nat) : Int) M = ((Ieee.double.read (floatOfInt .f64 ((0 : Nat) : Int))).quotient 54 (Ieee.double.read (floatOfInt .f64 (M : Int)))).map Ieee.double.write := rfl
    have z : Ieee.double.read (floatOfInt .f64 ((0 : Nat) : Int)) = .number false 0 (-1074) := by decide +kernel
    rw [e, z, m1] at h
    generalize M <<< (52 - M.log2) = B at *
    unfold Ieee.Datum.quotient at h
    dsimp only at h
    rw [if_neg (by omega)] at h
    simp only [Option.map_some, Option.some.injEq, Nat.zero_shiftLeft, Nat.zero_div, Nat.zero_mod, Nat.mul_zero] at h
    have h5 : Ieee.double.nearest false 0 _ = r := h
    rw [← h5]
    unfold Ieee.Format.nearest
    rw [if_pos rfl]
    show 0 ≤ _
    omega
  · exact quo_le (by omega) (by omega) (by omega) h
end Go.Proofs.Ytnkfdmlpjgmckab
