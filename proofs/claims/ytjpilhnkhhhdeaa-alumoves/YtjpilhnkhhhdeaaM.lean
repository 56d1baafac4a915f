import Derived.Test.YtjpilhnkhhhdeaaQ
namespace Go.Proofs.Ytjpilhnkhhhdeaa
open Go.RowKit
set_option linter.unusedVariables false

theorem val_u32 {a b : Int} (h : a = b) : Value.int .u32 a = .int .u32 b := by rw [h]
theorem lt32_and (x y : Nat) (hx : x < 4294967296) (hy : y < 4294967296) : x &&& y < 4294967296 := Nat.and_lt_two_pow (n := 32) x hy
theorem lt32_or (x y : Nat) (hx : x < 4294967296) (hy : y < 4294967296) : x ||| y < 4294967296 := Nat.or_lt_two_pow (n := 32) hx hy
theorem lt32_xor (x y : Nat) (hx : x < 4294967296) (hy : y < 4294967296) : x ^^^ y < 4294967296 := Nat.xor_lt_two_pow (n := 32) hx hy

set_option maxHeartbeats 2000000 in
theorem mixed_10 (x y : Nat) (w : World) (hx : x < 4294967296) (hy : y < 4294967296) : Calls Try.prog 23 #[.int .i64 10, .int .u32 x, .int .u32 y] w fun e w' => e = .returned (.int .u32 (res 10 x y : Nat)) ∧ w' = w := by
  have HZ : Hid (x &&& y < 4294967296) := lt32_and x y hx hy
  have HBit : Hid (∀ k, (x &&& y) / 2 ^ k % 2 = _) := fun k => bit_and x y k
  go_enter Try.func23, Try.ntmps23
  go_wp2
  go_loop [7, 8] (fun o i => ∃ (o' : Nat) (i' : Int), -1 ≤ i' ∧ i' ≤ 31 ∧ Hid (o' = (x &&& y) / 2 ^ (i' + 1).toNat) ∧ o = .int .u32 o' ∧ i = .int .i64 i') (fun o i => (intOf i + 1).toNat)
  case atStart =>
    refine ⟨0, 31, by omega, by omega, ?_, rfl, rfl⟩
    show 0 = (x &&& y) / 2 ^ 32
    exact (Nat.div_eq_of_lt HZ.out).symm
  case round =>
    obtain ⟨o, i, hi1, hi2, HE, rfl, rfl⟩ := hrel
    by_cases h0 : 0 ≤ i
    · obtain ⟨k, rfl⟩ : ∃ k : Nat, i = (k : Int) := ⟨i.toNat, by omega⟩
      have hk : k < 32 := by omega
      have ho : 2 * o + 1 < 4294967296 := by
        have h1 : o = (x &&& y) / 2 ^ (k + 1) := HE.out
        have h2 := HZ.out
        have h3 : (x &&& y) / 2 ^ (k + 1) ≤ (x &&& y) / 2 ^ 1 := Nat.div_le_div_left (Nat.pow_le_pow_right (by omega) (by omega)) (by omega)
        omega
      have HX : Hid (∀ w, Calls _ _ _ w _) := fun w => bit_any x k w hx hk
      have HY : Hid (∀ w, Calls _ _ _ w _) := fun w => bit_any y k w hy hk
      have hp : (x &&& y) / 2 ^ k = 2 * o + (x &&& y) / 2 ^ k % 2 := by
        have h1 : o = (x &&& y) / 2 ^ (k + 1) := HE.out
        rw [h1]
        exact place _ k
      rw [HBit.out k] at hp
      have hbx : x / 2 ^ k % 2 = 0 ∨ x / 2 ^ k % 2 = 1 := by omega
      have hby : y / 2 ^ k % 2 = 0 ∨ y / 2 ^ k % 2 = 1 := by omega
      rcases hbx with hbx | hbx <;> rcases hby with hby | hby <;> rw [hbx] at HX <;> rw [hby] at HY <;> rw [hbx, hby] at hp <;> simp at hp <;> clear hbx hby
      all_goals
        have HP : Hid ((x &&& y) / 2 ^ k = _) := hp
        clear hp HE
        go_wp2_with fail
        refine (HX.out _).mono ?_
        rintro e w1 ⟨rfl, hw⟩
        obtain rfl := hw.symm
        clear hw
        go_wp2_with fail
        refine (HY.out _).mono ?_
        rintro e w1 ⟨rfl, hw⟩
        obtain rfl := hw.symm
        clear hw
        go_wp2_with fail
        go_round
        case rel =>
          refine ⟨(x &&& y) / 2 ^ k, (k : Int) - 1, by omega, by omega, ?_, ?_, by go_num⟩
          · show _ = (x &&& y) / 2 ^ ((k : Int) - 1 + 1).toNat
            rw [show ((k : Int) - 1 + 1).toNat = k by omega]
          · rw [HP.out]
            exact val_u32 (by push_cast; omega)
        case measure => simp [intOf]
    · obtain rfl : i = -1 := by omega
      have HQ : Hid (o = res 10 x y) := by
        have h := HE.out
        show o = x &&& y
        simpa using h
      clear HE
      go_wp2_with fail
      go_ret
      exact ⟨ret_int (by rw [HQ.out]), rfl⟩

set_option maxHeartbeats 2000000 in
theorem mixed_11 (x y : Nat) (w : World) (hx : x < 4294967296) (hy : y < 4294967296) : Calls Try.prog 23 #[.int .i64 11, .int .u32 x, .int .u32 y] w fun e w' => e = .returned (.int .u32 (res 11 x y : Nat)) ∧ w' = w := by
  have HZ : Hid (x ||| y < 4294967296) := lt32_or x y hx hy
  have HBit : Hid (∀ k, (x ||| y) / 2 ^ k % 2 = _) := fun k => bit_or x y k
  go_enter Try.func23, Try.ntmps23
  go_wp2
  go_loop [7, 8] (fun o i => ∃ (o' : Nat) (i' : Int), -1 ≤ i' ∧ i' ≤ 31 ∧ Hid (o' = (x ||| y) / 2 ^ (i' + 1).toNat) ∧ o = .int .u32 o' ∧ i = .int .i64 i') (fun o i => (intOf i + 1).toNat)
  case atStart =>
    refine ⟨0, 31, by omega, by omega, ?_, rfl, rfl⟩
    show 0 = (x ||| y) / 2 ^ 32
    exact (Nat.div_eq_of_lt HZ.out).symm
  case round =>
    obtain ⟨o, i, hi1, hi2, HE, rfl, rfl⟩ := hrel
    by_cases h0 : 0 ≤ i
    · obtain ⟨k, rfl⟩ : ∃ k : Nat, i = (k : Int) := ⟨i.toNat, by omega⟩
      have hk : k < 32 := by omega
      have ho : 2 * o + 1 < 4294967296 := by
        have h1 : o = (x ||| y) / 2 ^ (k + 1) := HE.out
        have h2 := HZ.out
        have h3 : (x ||| y) / 2 ^ (k + 1) ≤ (x ||| y) / 2 ^ 1 := Nat.div_le_div_left (Nat.pow_le_pow_right (by omega) (by omega)) (by omega)
        omega
      have HX : Hid (∀ w, Calls _ _ _ w _) := fun w => bit_any x k w hx hk
      have HY : Hid (∀ w, Calls _ _ _ w _) := fun w => bit_any y k w hy hk
      have hp : (x ||| y) / 2 ^ k = 2 * o + (x ||| y) / 2 ^ k % 2 := by
        have h1 : o = (x ||| y) / 2 ^ (k + 1) := HE.out
        rw [h1]
        exact place _ k
      rw [HBit.out k] at hp
      have hbx : x / 2 ^ k % 2 = 0 ∨ x / 2 ^ k % 2 = 1 := by omega
      have hby : y / 2 ^ k % 2 = 0 ∨ y / 2 ^ k % 2 = 1 := by omega
      rcases hbx with hbx | hbx <;> rcases hby with hby | hby <;> rw [hbx] at HX <;> rw [hby] at HY <;> rw [hbx, hby] at hp <;> simp at hp <;> clear hbx hby
      all_goals
        have HP : Hid ((x ||| y) / 2 ^ k = _) := hp
        clear hp HE
        go_wp2_with fail
        refine (HX.out _).mono ?_
        rintro e w1 ⟨rfl, hw⟩
        obtain rfl := hw.symm
        clear hw
        go_wp2_with fail
        refine (HY.out _).mono ?_
        rintro e w1 ⟨rfl, hw⟩
        obtain rfl := hw.symm
        clear hw
        go_wp2_with fail
        go_round
        case rel =>
          refine ⟨(x ||| y) / 2 ^ k, (k : Int) - 1, by omega, by omega, ?_, ?_, by go_num⟩
          · show _ = (x ||| y) / 2 ^ ((k : Int) - 1 + 1).toNat
            rw [show ((k : Int) - 1 + 1).toNat = k by omega]
          · rw [HP.out]
            exact val_u32 (by push_cast; omega)
        case measure => simp [intOf]
    · obtain rfl : i = -1 := by omega
      have HQ : Hid (o = res 11 x y) := by
        have h := HE.out
        show o = x ||| y
        simpa using h
      clear HE
      go_wp2_with fail
      go_ret
      exact ⟨ret_int (by rw [HQ.out]), rfl⟩

set_option maxHeartbeats 2000000 in
theorem mixed_12 (x y : Nat) (w : World) (hx : x < 4294967296) (hy : y < 4294967296) : Calls Try.prog 23 #[.int .i64 12, .int .u32 x, .int .u32 y] w fun e w' => e = .returned (.int .u32 (res 12 x y : Nat)) ∧ w' = w := by
  have HZ : Hid (x ^^^ y < 4294967296) := lt32_xor x y hx hy
  have HBit : Hid (∀ k, (x ^^^ y) / 2 ^ k % 2 = _) := fun k => bit_xor x y k
  go_enter Try.func23, Try.ntmps23
  go_wp2
  go_loop [7, 8] (fun o i => ∃ (o' : Nat) (i' : Int), -1 ≤ i' ∧ i' ≤ 31 ∧ Hid (o' = (x ^^^ y) / 2 ^ (i' + 1).toNat) ∧ o = .int .u32 o' ∧ i = .int .i64 i') (fun o i => (intOf i + 1).toNat)
  case atStart =>
    refine ⟨0, 31, by omega, by omega, ?_, rfl, rfl⟩
    show 0 = (x ^^^ y) / 2 ^ 32
    exact (Nat.div_eq_of_lt HZ.out).symm
  case round =>
    obtain ⟨o, i, hi1, hi2, HE, rfl, rfl⟩ := hrel
    by_cases h0 : 0 ≤ i
    · obtain ⟨k, rfl⟩ : ∃ k : Nat, i = (k : Int) := ⟨i.toNat, by omega⟩
      have hk : k < 32 := by omega
      have ho : 2 * o + 1 < 4294967296 := by
        have h1 : o = (x ^^^ y) / 2 ^ (k + 1) := HE.out
        have h2 := HZ.out
        have h3 : (x ^^^ y) / 2 ^ (k + 1) ≤ (x ^^^ y) / 2 ^ 1 := Nat.div_le_div_left (Nat.pow_le_pow_right (by omega) (by omega)) (by omega)
        omega
      have HX : Hid (∀ w, Calls _ _ _ w _) := fun w => bit_any x k w hx hk
      have HY : Hid (∀ w, Calls _ _ _ w _) := fun w => bit_any y k w hy hk
      have hp : (x ^^^ y) / 2 ^ k = 2 * o + (x ^^^ y) / 2 ^ k % 2 := by
        have h1 : o = (x ^^^ y) / 2 ^ (k + 1) := HE.out
        rw [h1]
        exact place _ k
      rw [HBit.out k] at hp
      have hbx : x / 2 ^ k % 2 = 0 ∨ x / 2 ^ k % 2 = 1 := by omega
      have hby : y / 2 ^ k % 2 = 0 ∨ y / 2 ^ k % 2 = 1 := by omega
      rcases hbx with hbx | hbx <;> rcases hby with hby | hby <;> rw [hbx] at HX <;> rw [hby] at HY <;> rw [hbx, hby] at hp <;> simp at hp <;> clear hbx hby
      all_goals
        have HP : Hid ((x ^^^ y) / 2 ^ k = _) := hp
        clear hp HE
        go_wp2_with fail
        refine (HX.out _).mono ?_
        rintro e w1 ⟨rfl, hw⟩
        obtain rfl := hw.symm
        clear hw
        go_wp2_with fail
        refine (HY.out _).mono ?_
        rintro e w1 ⟨rfl, hw⟩
        obtain rfl := hw.symm
        clear hw
        go_wp2_with fail
        go_round
        case rel =>
          refine ⟨(x ^^^ y) / 2 ^ k, (k : Int) - 1, by omega, by omega, ?_, ?_, by go_num⟩
          · show _ = (x ^^^ y) / 2 ^ ((k : Int) - 1 + 1).toNat
            rw [show ((k : Int) - 1 + 1).toNat = k by omega]
          · rw [HP.out]
            exact val_u32 (by push_cast; omega)
        case measure => simp [intOf]
    · obtain rfl : i = -1 := by omega
      have HQ : Hid (o = res 12 x y) := by
        have h := HE.out
        show o = x ^^^ y
        simpa using h
      clear HE
      go_wp2_with fail
      go_ret
      exact ⟨ret_int (by rw [HQ.out]), rfl⟩
end Go.Proofs.Ytjpilhnkhhhdeaa
