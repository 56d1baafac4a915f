import Derived.Test.YtjpilhnkhhhdeaaT
namespace Go.Proofs.Ytjpilhnkhhhdeaa
open Go.RowKit
set_option linter.unusedVariables false

theorem bit_tmod (N k : Nat) : ((N : Int) / 2 ^ k).tmod 2 = ((N / 2 ^ k % 2 : Nat) : Int) := by
  rw [Int.tmod_eq_emod_of_nonneg (Int.ediv_nonneg (by omega) (Int.pow_nonneg (by omega)))]
  push_cast
  rfl
theorem small_mul (q d r N : Nat) (h : N = q * d + r) (hd : 0 < d) : q ≤ N := by
  have := Nat.le_mul_of_pos_right q hd
  omega

set_option maxHeartbeats 1000000 in
theorem quotient_any (N d : Nat) (w : World) (hN : N ≤ 2147483648) (hd : d ≤ 2147483648) (hd0 : 0 < d) : Calls Try.prog 30 #[.int .i64 N, .int .i64 d] w fun e w' => e = .returned (.tuple #[.int .i64 (N / d : Nat), .int .i64 (N % d : Nat)]) ∧ w' = w := by
  go_enter Try.func30, Try.ntmps30
  go_wp2
  go_loop [6, 7, 8] (fun q r i => ∃ (q' r' : Nat) (i' : Int), -1 ≤ i' ∧ i' ≤ 32 ∧ q' ≤ 2147483648 ∧ r' < d ∧ Hid (N / 2 ^ (i' + 1).toNat = q' * d + r') ∧ q = .int .i64 q' ∧ r = .int .i64 r' ∧ i = .int .i64 i') (fun q r i => (intOf i + 1).toNat)
  case atStart =>
    refine ⟨0, 0, 32, by omega, by omega, by omega, hd0, ?_, rfl, rfl, rfl⟩
    show N / 2 ^ 33 = 0 * d + 0
    rw [Nat.zero_mul]
    exact Nat.div_eq_of_lt (by omega)
  case round =>
    obtain ⟨q, r, i, hi1, hi2, hq, hr, HE, rfl, rfl, rfl⟩ := hrel
    by_cases h0 : 0 ≤ i
    · obtain ⟨k, rfl⟩ : ∃ k : Nat, i = (k : Int) := ⟨i.toNat, by omega⟩
      have hp := place N k
      have HE' : Hid (N / 2 ^ (k + 1) = q * d + r) := HE.out
      have HB := bit_tmod N k
      have hb : N / 2 ^ k % 2 = 0 ∨ N / 2 ^ k % 2 = 1 := by omega
      have HS : Hid _ := quot_step (N / 2 ^ (k + 1)) (N / 2 ^ k) q r d (N / 2 ^ k % 2) hp HE.out hr (by omega)
      have HL : Hid (N / 2 ^ k ≤ 2147483648) := Nat.le_trans (Nat.div_le_self _ _) hN
      clear hp HE
      rcases hb with hb | hb
      · have hg : (((N : Int) / 2 ^ k).tmod 2 == 1) = false := by rw [HB, hb]; rfl
        have HS' : Hid _ := HS.out
        rw [hb] at HS'
        clear hb HB HS
        by_cases h2 : (d : Int) ≤ 2 * (r : Int)
        · have hs : N / 2 ^ k = (2 * q + 1) * d + (2 * r + 0 - d) ∧ 2 * r + 0 - d < d := HS'.out.1 (by omega)
          have hq2 : 2 * q + 1 ≤ 2147483648 := Nat.le_trans (small_mul _ _ _ _ hs.1 hd0) HL.out
          have HN : Hid (N / 2 ^ k = (2 * q + 1) * d + (2 * r + 0 - d)) := hs.1
          have hr2 := hs.2
          clear hs HS'
          go_wp2_with fail
          go_round
          case rel => exact ⟨2 * q + 1, 2 * r + 0 - d, (k : Int) - 1, by omega, by omega, hq2, hr2, by show N / 2 ^ ((k : Int) - 1 + 1).toNat = _; rw [show ((k : Int) - 1 + 1).toNat = k by omega]; exact HN.out, by go_num, by go_num, by go_num⟩
          case measure => simp [intOf]
        · have hs : N / 2 ^ k = (2 * q) * d + (2 * r + 0) ∧ 2 * r + 0 < d := HS'.out.2 (by omega)
          have hq2 : 2 * q ≤ 2147483648 := Nat.le_trans (small_mul _ _ _ _ hs.1 hd0) HL.out
          have HN : Hid (N / 2 ^ k = (2 * q) * d + (2 * r + 0)) := hs.1
          have hr2 := hs.2
          clear hs HS'
          go_wp2_with fail
          go_round
          case rel => exact ⟨2 * q, 2 * r + 0, (k : Int) - 1, by omega, by omega, hq2, hr2, by show N / 2 ^ ((k : Int) - 1 + 1).toNat = _; rw [show ((k : Int) - 1 + 1).toNat = k by omega]; exact HN.out, by go_num, by go_num, by go_num⟩
          case measure => simp [intOf]
      · have hg : (((N : Int) / 2 ^ k).tmod 2 == 1) = true := by rw [HB, hb]; rfl
        have HS' : Hid _ := HS.out
        rw [hb] at HS'
        clear hb HB HS
        by_cases h2 : (d : Int) ≤ 2 * (r : Int) + 1
        · have hs : N / 2 ^ k = (2 * q + 1) * d + (2 * r + 1 - d) ∧ 2 * r + 1 - d < d := HS'.out.1 (by omega)
          have hq2 : 2 * q + 1 ≤ 2147483648 := Nat.le_trans (small_mul _ _ _ _ hs.1 hd0) HL.out
          have HN : Hid (N / 2 ^ k = (2 * q + 1) * d + (2 * r + 1 - d)) := hs.1
          have hr2 := hs.2
          clear hs HS'
          go_wp2_with fail
          go_round
          case rel => exact ⟨2 * q + 1, 2 * r + 1 - d, (k : Int) - 1, by omega, by omega, hq2, hr2, by show N / 2 ^ ((k : Int) - 1 + 1).toNat = _; rw [show ((k : Int) - 1 + 1).toNat = k by omega]; exact HN.out, by go_num, by go_num, by go_num⟩
          case measure => simp [intOf]
        · have hs : N / 2 ^ k = (2 * q) * d + (2 * r + 1) ∧ 2 * r + 1 < d := HS'.out.2 (by omega)
          have hq2 : 2 * q ≤ 2147483648 := Nat.le_trans (small_mul _ _ _ _ hs.1 hd0) HL.out
          have HN : Hid (N / 2 ^ k = (2 * q) * d + (2 * r + 1)) := hs.1
          have hr2 := hs.2
          clear hs HS'
          go_wp2_with fail
          go_round
          case rel => exact ⟨2 * q, 2 * r + 1, (k : Int) - 1, by omega, by omega, hq2, hr2, by show N / 2 ^ ((k : Int) - 1 + 1).toNat = _; rw [show ((k : Int) - 1 + 1).toNat = k by omega]; exact HN.out, by go_num, by go_num, by go_num⟩
          case measure => simp [intOf]
    · obtain rfl : i = -1 := by omega
      have HQ : Hid (q = N / d ∧ r = N % d) := by
        refine quot_end N q r d ?_ hr
        have h := HE.out
        simpa using h
      clear HE
      go_wp2_with fail
      go_ret2
      obtain ⟨rfl, rfl⟩ := HQ.out
      exact ⟨rfl, rfl⟩
end Go.Proofs.Ytjpilhnkhhhdeaa
