import Derived.Test.YtjpilhnkhhhdeaaLawD
namespace Go.Proofs.Ytjpilhnkhhhdeaa
open Go.RowKit
set_option linter.unusedVariables false

theorem res_13 (x n : Nat) (hn : n < 32) : res 13 x n = x * 2 ^ n % 4294967296 := by
  show wd ((x : Int) * 2 ^ (n % 32)) = _
  rw [← wd_nat, Nat.mod_eq_of_lt hn]
  push_cast
  rfl
theorem sg_wd (R : Int) (h1 : -2147483648 ≤ R) (h2 : R < 2147483648) : sg (wd R) = R := by
  rw [← wrap_sg _ (wd_lt R)]
  exact wrap_wd R h1 h2
theorem sar_bd (z : Int) (n : Nat) (h1 : -2147483648 ≤ z) (h2 : z < 2147483648) : -2147483648 ≤ z / 2 ^ n ∧ z / 2 ^ n < 2147483648 := by
  have p : (0 : Int) < 2 ^ n := Int.pow_pos (by omega)
  constructor
  · apply Int.le_ediv_of_mul_le p
    have : (1 : Int) ≤ 2 ^ n := by omega
    have := Int.mul_le_mul_of_nonneg_left this (show (0 : Int) ≤ 2147483648 by omega)
    omega
  · apply Int.ediv_lt_of_lt_mul p
    have : (1 : Int) ≤ 2 ^ n := by omega
    have := Int.mul_le_mul_of_nonneg_left this (show (0 : Int) ≤ 2147483648 by omega)
    omega
theorem moves_eq (k x n m : Nat) (hk : k = 13 ∨ k = 14 ∨ k = 15) (hx : x < 4294967296) (h : n + m < 32) : res k (res k x n) m = res k x (n + m + 32) := by
  have e : (n + m + 32) % 32 = n + m := by omega
  rcases hk with rfl | rfl | rfl
  · rw [res_13 x n (by omega), res_13 _ m (by omega)]
    show _ = wd ((x : Int) * 2 ^ ((n + m + 32) % 32))
    rw [e]
    have e2 : ((x : Int) * 2 ^ (n + m)) = ((x * 2 ^ (n + m) : Nat) : Int) := by push_cast; rfl
    rw [e2, wd_nat, Nat.mul_mod, Nat.mod_mod, ← Nat.mul_mod, Nat.pow_add, Nat.mul_assoc]
  · show x / 2 ^ (n % 32) / 2 ^ (m % 32) = x / 2 ^ ((n + m + 32) % 32)
    rw [e, Nat.mod_eq_of_lt (show n < 32 by omega), Nat.mod_eq_of_lt (show m < 32 by omega), Nat.div_div_eq_div_mul, Nat.pow_add]
  · show wd (sg (wd (sg x / 2 ^ (n % 32))) / 2 ^ (m % 32)) = wd (sg x / 2 ^ ((n + m + 32) % 32))
    have b := sg_bd x hx
    have b2 := sar_bd (sg x) n b.1 b.2
    rw [e, Nat.mod_eq_of_lt (show n < 32 by omega), Nat.mod_eq_of_lt (show m < 32 by omega), sg_wd _ b2.1 b2.2, Int.ediv_ediv_of_nonneg (Int.pow_nonneg (by omega)), ← Int.pow_add]
theorem res_lt (k x n : Nat) (hk : k = 13 ∨ k = 14 ∨ k = 15) (hx : x < 4294967296) : res k x n < 4294967296 := by
  rcases hk with rfl | rfl | rfl
  · exact wd_lt _
  · exact Nat.lt_of_le_of_lt (Nat.div_le_self _ _) hx
  · exact wd_lt _

theorem small_n (n : Nat) : ∃ n' : Nat, (n : Int) % 32 = n' ∧ n' < 32 := ⟨n % 32, by omega, by omega⟩
theorem small_m (m n' : Nat) (h : n' < 32) : ∃ m' : Nat, (m : Int) % (32 - (n' : Int)) = m' ∧ n' + m' < 32 := by
  refine ⟨m % (32 - n'), ?_, ?_⟩
  · rw [show (32 : Int) - (n' : Int) = ((32 - n' : Nat) : Int) by omega]
    rfl
  · have := Nat.mod_lt m (show 32 - n' > 0 by omega)
    omega

set_option maxHeartbeats 1000000 in
theorem aluMoves_any (x n m : Nat) (w : World) (hx : x < 4294967296) (hn : n < 256) (hm : m < 256) : Calls Try.prog 7 #[.int .u32 x, .int .u8 n, .int .u8 m] w fun e w' => e = .returned (.bool true) ∧ w' = w := by
  have C0 : Made 13 1 1 2 := made_of 13 1 1 2 (by omega) (by omega) (by omega) (by omega) (by omega) rfl
  have C1 : Made 5 x x (wd ((x : Int) + x)) := made_of 5 x x _ hx hx (by omega) (by omega) (by omega) rfl
  have C2 : Made 13 x 1 (wd ((x : Int) + x)) := made_of 13 x 1 _ hx (by omega) (by omega) (by omega) (by omega) (by
    show wd ((x : Int) * 2 ^ 1) = _
    rw [show (x : Int) * 2 ^ 1 = (x : Int) + x by omega])
  revert C1 C2
  generalize wd ((x : Int) + x) = tw
  intro C1 C2
  unfold Made at *
  go_enter Try.func7, Try.ntmps7
  go_wp2_with fail
  refine (C0.out _).mono ?_
  rintro e w1 ⟨rfl, hw⟩
  obtain rfl := hw.symm
  clear hw
  go_wp2_with fail
  obtain ⟨n', e1, hn'⟩ := small_n n
  rw [e1]
  obtain ⟨m', e2, hm'⟩ := small_m m n' hn'
  rw [e2]
  clear e1 e2
  go_loop [9] (fun o => ∃ k : Nat, 13 ≤ k ∧ k ≤ 16 ∧ o = .int .i64 k) (fun o => 16 - (intOf o).toNat)
  case atStart => exact ⟨13, by omega, by omega, rfl⟩
  case round =>
    obtain ⟨k, hk1, hk2, rfl⟩ := hrel
    by_cases hlt : (k : Int) ≤ 15
    · have hk : k = 13 ∨ k = 14 ∨ k = 15 := by omega
      have ha := res_lt k x n' hk hx
      have D1 : Made k x n' (res k x n') := made_of k x n' _ hx (by omega) (by omega) (by omega) (by omega) rfl
      have D2 : Made k (res k x n') m' (res k x (n' + m' + 32)) := made_of k _ m' _ ha (by omega) (by omega) (by omega) (by omega) (moves_eq k x n' m' hk hx hm')
      have D3 : Made k x (n' + m' + 32) (res k x (n' + m' + 32)) := made_of k x _ _ hx (by omega) (by omega) (by omega) (by omega) rfl
      rw [show ((k : Nat) : Int) = (k : Int) from rfl] at D1
      revert D1 D2 D3 ha
      generalize res k x n' = a
      generalize res k x (n' + m' + 32) = c
      obtain ⟨s, hs⟩ : ∃ s : Nat, s = n' + m' + 32 := ⟨_, rfl⟩
      rw [← hs]
      intro ha D1 D2 D3
      have HS : Hid ((s : Int) = (n' : Int) + (m' : Int) + 32) := by show _ = _; omega
      unfold Made at *
      clear hk hs
      go_wp2_with fail
      refine (D1.out _).mono ?_
      rintro e w1 ⟨rfl, hw⟩
      obtain rfl := hw.symm
      clear hw
      go_wp2_with fail
      refine (D2.out _).mono ?_
      rintro e w1 ⟨rfl, hw⟩
      obtain rfl := hw.symm
      clear hw
      go_wp2_with fail
      rw [← HS.out]
      refine (D3.out _).mono ?_
      rintro e w1 ⟨rfl, hw⟩
      obtain rfl := hw.symm
      clear hw
      go_wp2_with fail
      go_round
      case rel => exact ⟨k + 1, by omega, by omega, by go_num⟩
      case measure => simp [intOf]; omega
    · obtain rfl : k = 16 := by omega
      go_wp2_with fail
      refine (C1.out _).mono ?_
      rintro e w1 ⟨rfl, hw⟩
      obtain rfl := hw.symm
      clear hw
      go_wp2_with fail
      refine (C2.out _).mono ?_
      rintro e w1 ⟨rfl, hw⟩
      obtain rfl := hw.symm
      clear hw
      go_wp2_with fail
      go_ret
      exact ⟨ret_bool (by simp), rfl⟩
end Go.Proofs.Ytjpilhnkhhhdeaa
