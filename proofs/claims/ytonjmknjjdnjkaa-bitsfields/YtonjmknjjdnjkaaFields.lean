import Derived.Test.YtonjmknjjdnjkaaFixed
namespace Go.Proofs.Ytonjmknjjdnjkaa
open Go.RowKit
set_option linter.unusedVariables false

theorem ret_bool' {a b : Bool} (h : a = b) : Ending.returned (.bool a) = .returned (.bool b) := by rw [h]

set_option maxRecDepth 100000 in
set_option maxHeartbeats 1000000 in
theorem fields_no (x v : Nat) (f n : Int) (w : World) (hn : n ≤ 9223372036854775807)
    (h : f < 0 ∨ n < 1 ∨ 32 - n < f) :
    Calls Try.prog 4 #[.agg #[.int .u32 x, .int .u32 v, .int .i64 f, .int .i64 n]] w fun e w' => e = .returned (.bool true) ∧ Keeps (fun _ => False) w w' := by
  have H : Hid (f < 0 ∨ n < 1 ∨ 32 - n < f) := h
  have HN : Hid (n ≤ 9223372036854775807) := hn
  clear hn h
  go_enter Try.func4, Try.ntmps4
  go_wp2_with fail
  refine (fixed_any _).mono ?_
  rintro e w1 ⟨rfl, hK⟩
  have hB := (Blk.new w #[.int .u32 x, .int .u32 v, .int .i64 f, .int .i64 n] 45).kept hK (fun e => e)
  have hK1 := (((Keeps.refl (fun _ => False) w).alloc (.cells #[.int .u32 x, .int .u32 v, .int .i64 f, .int .i64 n] 45)).trans hK fun _ _ e => e)
  obtain ⟨b, hb⟩ : ∃ b, b = w.heap.size := ⟨_, rfl⟩
  rw [← hb] at hB ⊢
  have c0 := hB.cell (i := 0) rfl
  have c1 := hB.cell (i := 1) rfl
  have c2 := hB.cell (i := 2) rfl
  have c3 := hB.cell (i := 3) rfl
  clear hK hB hb
  go_wp2_with fail
  go_quiet (fail)
  go_wp2_with fail
  refine (put_no _ _ _ _ _ HN.out H.out).mono ?_
  rintro e w' ⟨rfl, hw'⟩; obtain rfl := hw'.symm
  go_wp2_with fail
  refine (field_no _ _ _ _ HN.out H.out).mono ?_
  rintro e w' ⟨rfl, hw'⟩; obtain rfl := hw'.symm
  by_cases h1 : f < 0
  · go_wp2
    go_ret
    exact ⟨rfl, hK1.drewN _⟩
  · by_cases h2 : n < 1
    · go_wp2
      go_ret
      exact ⟨rfl, hK1.drewN _⟩
    · by_cases h3 : 32 < f
      · go_wp2
        go_ret
        exact ⟨rfl, hK1.drewN _⟩
      · by_cases h4 : 32 < n
        · go_wp2
          go_ret
          exact ⟨rfl, hK1.drewN _⟩
        · have h5 : 32 < f + n := by have := H.out; omega
          go_wp2
          go_ret
          exact ⟨rfl, hK1.drewN _⟩
set_option maxRecDepth 100000 in
set_option maxHeartbeats 1000000 in
theorem fields_val (x v f n : Nat) (w : World) (hx : x < 4294967296) (h1 : 1 ≤ n) (h2 : f + n ≤ 32) (h3 : n < 32) (hv : 2 ^ n ≤ v) :
    Calls Try.prog 4 #[.agg #[.int .u32 x, .int .u32 v, .int .i64 f, .int .i64 n]] w fun e w' => e = .returned (.bool true) ∧ Keeps (fun _ => False) w w' := by
  obtain ⟨o, ho⟩ : ∃ o, o = fieldN x f n := ⟨_, rfl⟩
  have ho1 : o < 2 ^ n := by rw [ho]; exact fieldN_lt x f n
  have hF := field_yes x f n
  have hP := fun w => put_val x f n v w h1 h2 hv
  rw [← ho] at hF
  have HF : Hid (∀ w, _) := hF
  have HP : Hid (∀ w, _) := hP
  have q1 : ((o : Int) / 2 ^ n != 0) = false := by
    have : (o : Int) / 2 ^ n = 0 := Int.ediv_eq_zero_of_lt (by omega) (by have := pow_int n; omega)
    rw [this]; rfl
  have q2 : ((v : Int) / 2 ^ n != 0) = true := by
    have hp := Nat.two_pow_pos n
    have : (1 : Int) ≤ (v : Int) / 2 ^ n := Int.le_ediv_of_mul_le (by have := pow_int n; omega) (by have := pow_int n; omega)
    simp only [bne_iff_ne, ne_eq]; omega
  have n1 : ¬ (f : Int) < 0 := by omega
  have n2 : ¬ (n : Int) < 1 := by omega
  have n3 : ¬ (32 : Int) < (f : Int) := by omega
  have n4 : ¬ (32 : Int) < (n : Int) := by omega
  have n5 : ¬ (32 : Int) < (f : Int) + (n : Int) := by omega
  have n6 : (n : Int) < 32 := by omega
  clear hF hP ho ho1 hv
  go_enter Try.func4, Try.ntmps4
  go_wp2_with fail
  refine (fixed_any _).mono ?_
  rintro e w1 ⟨rfl, hK⟩
  have hB := (Blk.new w #[.int .u32 x, .int .u32 v, .int .i64 f, .int .i64 n] 45).kept hK (fun e => e)
  have hK1 := (((Keeps.refl (fun _ => False) w).alloc (.cells #[.int .u32 x, .int .u32 v, .int .i64 f, .int .i64 n] 45)).trans hK fun _ _ e => e)
  obtain ⟨b, hb⟩ : ∃ b, b = w.heap.size := ⟨_, rfl⟩
  rw [← hb] at hB ⊢
  have c0 := hB.cell (i := 0) rfl
  have c1 := hB.cell (i := 1) rfl
  have c2 := hB.cell (i := 2) rfl
  have c3 := hB.cell (i := 3) rfl
  clear hK hB hb
  go_wp2_with fail
  go_quiet (fail)
  go_wp2_with fail
  refine (HP.out _).mono ?_
  rintro e w' ⟨rfl, hw'⟩; obtain rfl := hw'.symm
  go_wp2_with fail
  refine (HF.out _ hx h1 h2).mono ?_
  rintro e w2 ⟨rfl, k, hw2⟩
  have hK2 : Keeps (fun _ => False) w w2 := by rw [hw2]; exact (hK1.drewN _).drewN _
  clear hw2 hK1
  go_wp2
  go_ret
  exact ⟨rfl, hK2⟩
theorem bit_same (A x j : Nat) (hA : A < 4294967296) (hx : x < 4294967296) (h : A.testBit j = x.testBit j) :
    (bits .and .u32 ((A : Int) / 2 ^ j) 1 != bits .and .u32 ((x : Int) / 2 ^ j) 1) = false := by
  have h1 := u32_and_nat (A / 2 ^ j) 1 (Nat.lt_of_le_of_lt (Nat.div_le_self _ _) hA) (by omega)
  have h2 := u32_and_nat (x / 2 ^ j) 1 (Nat.lt_of_le_of_lt (Nat.div_le_self _ _) hx) (by omega)
  rw [← cast_div, nat_mask1] at h1 h2
  have h3 : A / 2 ^ j % 2 = x / 2 ^ j % 2 := by
    rw [Nat.testBit_eq_decide_div_mod_eq, Nat.testBit_eq_decide_div_mod_eq] at h
    have := decide_eq_decide.1 h
    omega
  rw [show ((1 : Nat) : Int) = 1 from rfl] at h1 h2
  rw [h1, h2, h3]
  simp

set_option maxRecDepth 100000 in
set_option maxHeartbeats 1000000 in
theorem fields_yes (x v f n : Nat) (w : World) (hx : x < 4294967296) (h1 : 1 ≤ n) (h2 : f + n ≤ 32) (h3 : n < 32) (hv : v < 2 ^ n) :
    Calls Try.prog 4 #[.agg #[.int .u32 x, .int .u32 v, .int .i64 f, .int .i64 n]] w fun e w' => e = .returned (.bool true) ∧ Keeps (fun _ => False) w w' := by
  obtain ⟨o, ho⟩ : ∃ o, o = fieldN x f n := ⟨_, rfl⟩
  obtain ⟨A, hA⟩ : ∃ A, A = putN x f n v := ⟨_, rfl⟩
  have ho1 : o < 2 ^ n := by rw [ho]; exact fieldN_lt x f n
  have hA1 : A < 4294967296 := by rw [hA]; exact putN_lt x f n v hx h2 hv
  have hA2 : fieldN A f n = v := by rw [hA]; exact fieldN_putN x f n v hx h2 hv
  have hA3 : putN A f n o = x := by rw [hA, ho]; exact putN_putN x f n v hx h2 hv
  have hA4 : ∀ j, ¬ (f ≤ j ∧ j < f + n) → A.testBit j = x.testBit j := fun j hj => by rw [hA, putN_bit x f n v j hx h2 hv, if_neg hj]
  have hF := fun w => field_yes x f n w hx h1 h2
  have hP := fun w => put_yes x f n v w hx h1 h2 hv
  have hF2 := fun w => field_yes A f n w hA1 h1 h2
  have hP2 := fun w => put_yes A f n o w hA1 h1 h2 ho1
  rw [← ho] at hF
  rw [← hA] at hP
  rw [hA2] at hF2
  rw [hA3] at hP2
  have HF : Hid (∀ w, _) := hF
  have HP : Hid (∀ w, _) := hP
  have HF2 : Hid (∀ w, _) := hF2
  have HP2 : Hid (∀ w, _) := hP2
  have HB : Hid (∀ j, ¬ (f ≤ j ∧ j < f + n) → A.testBit j = x.testBit j) := hA4
  have q1 : ((o : Int) / 2 ^ n != 0) = false := by
    have : (o : Int) / 2 ^ n = 0 := Int.ediv_eq_zero_of_lt (by omega) (by have := pow_int n; omega)
    rw [this]; rfl
  have q2 : ((v : Int) / 2 ^ n != 0) = false := by
    have : (v : Int) / 2 ^ n = 0 := Int.ediv_eq_zero_of_lt (by omega) (by have := pow_int n; omega)
    rw [this]; rfl
  have n1 : ¬ (f : Int) < 0 := by omega
  have n2 : ¬ (n : Int) < 1 := by omega
  have n3 : ¬ (32 : Int) < (f : Int) := by omega
  have n4 : ¬ (32 : Int) < (n : Int) := by omega
  have n5 : ¬ (32 : Int) < (f : Int) + (n : Int) := by omega
  have n6 : (n : Int) < 32 := by omega
  clear hF hP hF2 hP2 hA4 hA2 hA3 hA ho ho1 hv
  go_enter Try.func4, Try.ntmps4
  go_wp2_with fail
  refine (fixed_any _).mono ?_
  rintro e w1 ⟨rfl, hK⟩
  have hB := (Blk.new w #[.int .u32 x, .int .u32 v, .int .i64 f, .int .i64 n] 45).kept hK (fun e => e)
  have hK1 := (((Keeps.refl (fun _ => False) w).alloc (.cells #[.int .u32 x, .int .u32 v, .int .i64 f, .int .i64 n] 45)).trans hK fun _ _ e => e)
  obtain ⟨b, hb⟩ : ∃ b, b = w.heap.size := ⟨_, rfl⟩
  rw [← hb] at hB ⊢
  have c0 := hB.cell (i := 0) rfl
  have c1 := hB.cell (i := 1) rfl
  have c2 := hB.cell (i := 2) rfl
  have c3 := hB.cell (i := 3) rfl
  clear hK hB hb
  go_wp2_with fail
  go_quiet (fail)
  go_wp2_with fail
  refine (HP.out _).mono ?_
  rintro e w2 ⟨rfl, k, hw2⟩
  have hK2 : Keeps (fun _ => False) w w2 := by rw [hw2]; exact (hK1.drewN _).drewN _
  clear hw2 hK1 c0 c1 c2 c3
  go_wp2_with fail
  refine (HF.out _).mono ?_
  rintro e w3 ⟨rfl, k, hw3⟩
  have hK3 : Keeps (fun _ => False) w w3 := by rw [hw3]; exact hK2.drewN _
  clear hw3 hK2
  go_wp2_with fail
  refine (HF2.out _).mono ?_
  rintro e w4 ⟨rfl, k, hw4⟩
  have hK4 : Keeps (fun _ => False) w w4 := by rw [hw4]; exact hK3.drewN _
  clear hw4 hK3
  go_wp2_with fail
  refine (HP2.out _).mono ?_
  rintro e w5 ⟨rfl, k, hw5⟩
  have hK5 : Keeps (fun _ => False) w w5 := by rw [hw5]; exact hK4.drewN _
  clear hw5 hK4 q1 q2 n6
  go_wp2
  go_loop [15] (fun i => ∃ j : Nat, j ≤ 32 ∧ i = .int .i64 j) (fun i => 32 - (intOf i).toNat)
  case atStart => exact ⟨0, by omega, rfl⟩
  case round =>
    obtain ⟨j, hj, rfl⟩ := hrel
    by_cases hlt : (j : Int) < 32
    · by_cases a1 : (j : Int) < (f : Int)
      · have hs := bit_same A x j hA1 hx (HB.out j (by omega))
        go_wp2
        go_round
        case rel => exact ⟨j + 1, by omega, by go_num⟩
        case measure => simp [intOf]; omega
      · by_cases a2 : (f : Int) + (n : Int) ≤ (j : Int)
        · have hs := bit_same A x j hA1 hx (HB.out j (by omega))
          go_wp2
          go_round
          case rel => exact ⟨j + 1, by omega, by go_num⟩
          case measure => simp [intOf]; omega
        · go_wp2
          go_round
          case rel => exact ⟨j + 1, by omega, by go_num⟩
          case measure => simp [intOf]; omega
    · go_wp2
      go_ret
      exact ⟨rfl, hK5⟩

set_option maxRecDepth 100000 in
set_option maxHeartbeats 1000000 in
theorem fields_yes32 (x v f n : Nat) (w : World) (hx : x < 4294967296) (h1 : 1 ≤ n) (h2 : f + n ≤ 32) (h3 : ¬ n < 32) (hv : v < 2 ^ n) :
    Calls Try.prog 4 #[.agg #[.int .u32 x, .int .u32 v, .int .i64 f, .int .i64 n]] w fun e w' => e = .returned (.bool true) ∧ Keeps (fun _ => False) w w' := by
  obtain ⟨o, ho⟩ : ∃ o, o = fieldN x f n := ⟨_, rfl⟩
  obtain ⟨A, hA⟩ : ∃ A, A = putN x f n v := ⟨_, rfl⟩
  have ho1 : o < 2 ^ n := by rw [ho]; exact fieldN_lt x f n
  have hA1 : A < 4294967296 := by rw [hA]; exact putN_lt x f n v hx h2 hv
  have hA2 : fieldN A f n = v := by rw [hA]; exact fieldN_putN x f n v hx h2 hv
  have hA3 : putN A f n o = x := by rw [hA, ho]; exact putN_putN x f n v hx h2 hv
  have hA4 : ∀ j, ¬ (f ≤ j ∧ j < f + n) → A.testBit j = x.testBit j := fun j hj => by rw [hA, putN_bit x f n v j hx h2 hv, if_neg hj]
  have hF := fun w => field_yes x f n w hx h1 h2
  have hP := fun w => put_yes x f n v w hx h1 h2 hv
  have hF2 := fun w => field_yes A f n w hA1 h1 h2
  have hP2 := fun w => put_yes A f n o w hA1 h1 h2 ho1
  rw [← ho] at hF
  rw [← hA] at hP
  rw [hA2] at hF2
  rw [hA3] at hP2
  have HF : Hid (∀ w, _) := hF
  have HP : Hid (∀ w, _) := hP
  have HF2 : Hid (∀ w, _) := hF2
  have HP2 : Hid (∀ w, _) := hP2
  have HB : Hid (∀ j, ¬ (f ≤ j ∧ j < f + n) → A.testBit j = x.testBit j) := hA4
  have q1 : ((o : Int) / 2 ^ n != 0) = false := by
    have : (o : Int) / 2 ^ n = 0 := Int.ediv_eq_zero_of_lt (by omega) (by have := pow_int n; omega)
    rw [this]; rfl
  have q2 : ((v : Int) / 2 ^ n != 0) = false := by
    have : (v : Int) / 2 ^ n = 0 := Int.ediv_eq_zero_of_lt (by omega) (by have := pow_int n; omega)
    rw [this]; rfl
  have n1 : ¬ (f : Int) < 0 := by omega
  have n2 : ¬ (n : Int) < 1 := by omega
  have n3 : ¬ (32 : Int) < (f : Int) := by omega
  have n4 : ¬ (32 : Int) < (n : Int) := by omega
  have n5 : ¬ (32 : Int) < (f : Int) + (n : Int) := by omega
  have n6 : ¬ (n : Int) < 32 := by omega
  clear hF hP hF2 hP2 hA4 hA2 hA3 hA ho ho1 hv
  go_enter Try.func4, Try.ntmps4
  go_wp2_with fail
  refine (fixed_any _).mono ?_
  rintro e w1 ⟨rfl, hK⟩
  have hB := (Blk.new w #[.int .u32 x, .int .u32 v, .int .i64 f, .int .i64 n] 45).kept hK (fun e => e)
  have hK1 := (((Keeps.refl (fun _ => False) w).alloc (.cells #[.int .u32 x, .int .u32 v, .int .i64 f, .int .i64 n] 45)).trans hK fun _ _ e => e)
  obtain ⟨b, hb⟩ : ∃ b, b = w.heap.size := ⟨_, rfl⟩
  rw [← hb] at hB ⊢
  have c0 := hB.cell (i := 0) rfl
  have c1 := hB.cell (i := 1) rfl
  have c2 := hB.cell (i := 2) rfl
  have c3 := hB.cell (i := 3) rfl
  clear hK hB hb
  go_wp2_with fail
  go_quiet (fail)
  go_wp2_with fail
  refine (HP.out _).mono ?_
  rintro e w2 ⟨rfl, k, hw2⟩
  have hK2 : Keeps (fun _ => False) w w2 := by rw [hw2]; exact (hK1.drewN _).drewN _
  clear hw2 hK1 c0 c1 c2 c3
  go_wp2_with fail
  refine (HF.out _).mono ?_
  rintro e w3 ⟨rfl, k, hw3⟩
  have hK3 : Keeps (fun _ => False) w w3 := by rw [hw3]; exact hK2.drewN _
  clear hw3 hK2
  go_wp2_with fail
  refine (HF2.out _).mono ?_
  rintro e w4 ⟨rfl, k, hw4⟩
  have hK4 : Keeps (fun _ => False) w w4 := by rw [hw4]; exact hK3.drewN _
  clear hw4 hK3
  go_wp2_with fail
  refine (HP2.out _).mono ?_
  rintro e w5 ⟨rfl, k, hw5⟩
  have hK5 : Keeps (fun _ => False) w w5 := by rw [hw5]; exact hK4.drewN _
  clear hw5 hK4 q1 q2 n6
  go_wp2
  go_loop [15] (fun i => ∃ j : Nat, j ≤ 32 ∧ i = .int .i64 j) (fun i => 32 - (intOf i).toNat)
  case atStart => exact ⟨0, by omega, rfl⟩
  case round =>
    obtain ⟨j, hj, rfl⟩ := hrel
    by_cases hlt : (j : Int) < 32
    · by_cases a1 : (j : Int) < (f : Int)
      · have hs := bit_same A x j hA1 hx (HB.out j (by omega))
        go_wp2
        go_round
        case rel => exact ⟨j + 1, by omega, by go_num⟩
        case measure => simp [intOf]; omega
      · by_cases a2 : (f : Int) + (n : Int) ≤ (j : Int)
        · have hs := bit_same A x j hA1 hx (HB.out j (by omega))
          go_wp2
          go_round
          case rel => exact ⟨j + 1, by omega, by go_num⟩
          case measure => simp [intOf]; omega
        · go_wp2
          go_round
          case rel => exact ⟨j + 1, by omega, by go_num⟩
          case measure => simp [intOf]; omega
    · go_wp2
      go_ret
      exact ⟨rfl, hK5⟩

end Go.Proofs.Ytonjmknjjdnjkaa
