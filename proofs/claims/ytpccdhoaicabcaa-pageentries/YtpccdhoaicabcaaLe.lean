import Derived.Test.YtpccdhoaicabcaaE
namespace Go.Proofs.Ytpccdhoaicabcaa
open Go.RowKit
set_option linter.unusedVariables false

theorem and_mod (x : Nat) : (x &&& 2147475456) % 8192 = 0 := by
  have h := Nat.and_mod_two_pow (a := x) (b := 2147475456) (n := 13)
  rw [show (2 : Nat) ^ 13 = 8192 from rfl, show 2147475456 % 8192 = 0 from rfl, Nat.and_zero] at h
  exact h
theorem and_small (x : Nat) : (x &&& 2147475456) / 2147483648 = 0 := by
  have : x &&& 2147475456 ≤ 2147475456 := Nat.and_le_right
  omega
theorem xor_low (a m : Nat) (h : m % 8192 = 0) : (a ^^^ m) % 8192 = a % 8192 := by
  have e := Nat.xor_mod_two_pow (a := a) (b := m) (n := 13)
  rw [show (2 : Nat) ^ 13 = 8192 from rfl, h, Nat.xor_zero] at e
  exact e
theorem xor_high (a m : Nat) (h : m / 2147483648 = 0) : (a ^^^ m) / 2147483648 = a / 2147483648 := by
  have e := Nat.xor_div_two_pow (a := a) (b := m) (n := 31)
  rw [show (2 : Nat) ^ 31 = 2147483648 from rfl, h, Nat.xor_zero] at e
  exact e

theorem said (f r x : Nat) (hf : f < 1024) (hr : r < 8) (h1 : x % 8192 = f * 8 + r) (h2 : x / 2147483648 = 1) : frm x = f ∧ rts x = r ∧ isT x = true := by
  have ht : isT x = true := by unfold isT; simp; omega
  refine ⟨?_, ?_, ht⟩
  · unfold frm; rw [if_pos ht]; omega
  · unfold rts; rw [if_pos ht]; omega

set_option maxRecDepth 20000 in
set_option maxHeartbeats 1000000 in
theorem entries_in (f r n : Nat) (w : World) (hf : f < 1024) (hr : r < 8) (hn : n < 4294967296) : Calls Try.prog 5 #[.int .i64 f, .int .i64 r, .int .u32 n] w fun e w' => e = .returned (.bool true) ∧ w' = w := by
  have H0 : Hid (∀ w, Calls _ _ _ w _) := fun w => encode_in 5 3 w (by omega) (by omega)
  have H1 : Hid (∀ w, Calls _ _ _ w _) := fun w => encode_in f r w hf hr
  obtain ⟨X, hX⟩ : ∃ X, X = (enc f r).toNat := ⟨_, rfl⟩
  have hX2 : X = 2147483648 + f * 8 + r := by rw [hX, enc_nat f r hf hr]
  have e0 : ((enc 5 3).toNat : Int) = 2147483691 := by rw [enc_nat 5 3 (by omega) (by omega)]; rfl
  rw [e0] at H0
  rw [← hX] at H1
  obtain ⟨Y, hY⟩ : ∃ Y, Y = X ^^^ (n &&& 2147475456) := ⟨_, rfl⟩
  have hYl : Y < 4294967296 := by
    rw [hY]
    exact Nat.xor_lt_two_pow (n := 32) (by rw [hX2]; omega) (Nat.lt_of_le_of_lt Nat.and_le_left (by exact hn))
  have hY1 : bits .xor .u32 (X : Int) (bits .and .u32 (n : Int) 2147475456) = (Y : Int) := by
    rw [show (2147475456 : Int) = ((2147475456 : Nat) : Int) from rfl, u32_and_nat _ _ hn (by omega), u32_xor_nat _ _ (by omega) (Nat.lt_of_le_of_lt Nat.and_le_left hn), hY]
  have hZ1 : bits .and .u32 (X : Int) 2147483647 = ((f * 8 + r : Nat) : Int) := by
    rw [show (2147483647 : Int) = ((2 ^ 31 - 1 : Nat) : Int) from rfl, u32_and_nat _ _ (by omega) (by omega), Nat.and_two_pow_sub_one_eq_mod]
    omega
  obtain ⟨a1, a2, a3⟩ := said f r X hf hr (by omega) (by omega)
  obtain ⟨b1, b2, b3⟩ := said f r Y hf hr (by rw [hY, xor_low _ _ (and_mod n)]; omega) (by rw [hY, xor_high _ _ (and_small n)]; omega)
  have H2 := fun w => decode_any X w (by omega)
  rw [a1, a2, a3] at H2
  have H3 := fun w => decode_any Y w hYl
  rw [b1, b2, b3, ← hY1] at H3
  have H4 := fun w => decode_any (f * 8 + r) w (by omega)
  have c1 : isT (f * 8 + r) = false := by unfold isT; simp; omega
  rw [show frm (f * 8 + r) = 0 by unfold frm; rw [c1]; rfl, show rts (f * 8 + r) = 0 by unfold rts; rw [c1]; rfl, c1, ← hZ1] at H4
  have H2 : Hid (∀ w, Calls _ _ _ w _) := H2
  have H3 : Hid (∀ w, Calls _ _ _ w _) := H3
  have H4 : Hid (∀ w, Calls _ _ _ w _) := H4
  have g1 : (f : Int) ≤ 1023 := by omega
  have g2 : (r : Int) ≤ 7 := by omega
  clear hY1 hZ1 hX2 hX hY hYl a1 a2 a3 b1 b2 b3 c1 hf hr hn e0
  go_enter Try.func5, Try.ntmps5
  go_wp2_with fail
  refine (H0.out _).mono ?_
  rintro e w1 ⟨rfl, hw⟩
  obtain rfl := hw.symm
  clear hw
  go_wp2_with fail
  refine (H1.out _).mono ?_
  rintro e w1 ⟨rfl, hw⟩
  obtain rfl := hw.symm
  clear hw
  go_wp2_with fail
  refine (H2.out _).mono ?_
  rintro e w1 ⟨rfl, hw⟩
  obtain rfl := hw.symm
  clear hw
  go_wp2_with fail
  refine (H3.out _).mono ?_
  rintro e w1 ⟨rfl, hw⟩
  obtain rfl := hw.symm
  clear hw
  go_wp2_with fail
  refine (H4.out _).mono ?_
  rintro e w1 ⟨rfl, hw⟩
  obtain rfl := hw.symm
  clear hw
  go_wp2
  go_ret
  exact ⟨rfl, rfl⟩

set_option maxRecDepth 20000 in
set_option maxHeartbeats 1000000 in
theorem entries_out (f r : Int) (n : Nat) (w : World) (h : ¬ ((0 ≤ f ∧ f < 1024) ∧ 0 ≤ r ∧ r < 8)) : Calls Try.prog 5 #[.int .i64 f, .int .i64 r, .int .u32 n] w fun e w' => e = .returned (.bool true) ∧ w' = w := by
  have H0 : Hid (∀ w, Calls _ _ _ w _) := fun w => encode_in 5 3 w (by omega) (by omega)
  have H1 : Hid (∀ w, Calls _ _ _ w _) := fun w => encode_out f r w h
  have e0 : ((enc 5 3).toNat : Int) = 2147483691 := by rw [enc_nat 5 3 (by omega) (by omega)]; rfl
  rw [e0] at H0
  clear e0
  go_enter Try.func5, Try.ntmps5
  go_wp2_with fail
  refine (H0.out _).mono ?_
  rintro e w1 ⟨rfl, hw⟩
  obtain rfl := hw.symm
  clear hw
  go_wp2_with fail
  refine (H1.out _).mono ?_
  rintro e w1 ⟨rfl, hw⟩
  obtain rfl := hw.symm
  clear hw
  by_cases h1 : f < 0
  · clear h
    go_wp2
    go_ret
    exact ⟨rfl, rfl⟩
  · by_cases h2 : 1023 < f
    · clear h
      go_wp2
      go_ret
      exact ⟨rfl, rfl⟩
    · by_cases h3 : r < 0
      · clear h
        go_wp2
        go_ret
        exact ⟨rfl, rfl⟩
      · have h4 : 7 < r := by omega
        clear h
        go_wp2
        go_ret
        exact ⟨rfl, rfl⟩

theorem entries_any (f r : Int) (n : Nat) (w : World) (hn : n < 4294967296) : Calls Try.prog 5 #[.int .i64 f, .int .i64 r, .int .u32 n] w fun e w' => e = .returned (.bool true) ∧ w' = w := by
  by_cases h : (0 ≤ f ∧ f < 1024) ∧ 0 ≤ r ∧ r < 8
  · obtain ⟨a, rfl⟩ := Int.eq_ofNat_of_zero_le h.1.1
    obtain ⟨b, rfl⟩ := Int.eq_ofNat_of_zero_le h.2.1
    exact entries_in a b n w (by omega) (by omega) hn
  · exact entries_out f r n w h

theorem entries_all (f r z : Int) (w : World) (hf : -9223372036854775808 ≤ f ∧ f ≤ 9223372036854775807) (hr : -9223372036854775808 ≤ r ∧ r ≤ 9223372036854775807) (hz : 0 ≤ z ∧ z < 4294967296) :
    Calls Try.prog 5 #[.int .i64 f, .int .i64 r, .int .u32 z] w fun e w' => e = .returned (.bool true) ∧ Keeps (fun _ => False) w w' := by
  obtain ⟨n, rfl⟩ := Int.eq_ofNat_of_zero_le hz.1
  refine (entries_any f r n w (by omega)).mono ?_
  rintro e w' ⟨rfl, rfl⟩
  exact ⟨rfl, Keeps.refl _ _⟩

end Go.Proofs.Ytpccdhoaicabcaa
