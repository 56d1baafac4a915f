import Derived.Test.YtipejahmjdamjaaGreatDoorAlA
import Derived.Test.YtipejahmjdamjaaGreatDoorMem
namespace Go.Proofs.YtipejahmjdamjaaGreatDoor.Al
open Go.RowKit
set_option linter.unusedVariables false

/-- Is it an operation that makes a word; one that branches? -/
def isDo (k : Int) : Bool := decide (5 ≤ k) && decide (k ≤ 17)
def isBr (k : Int) : Bool := decide (21 ≤ k) && decide (k ≤ 25)
theorem isDo_iff (k : Int) : isDo k = true ↔ 5 ≤ k ∧ k ≤ 17 := by simp [isDo]
theorem isBr_iff (k : Int) : isBr k = true ↔ 21 ≤ k ∧ k ≤ 25 := by simp [isBr]
/-- The error and the word of Do. -/
def doE (k : Int) (y : Nat) : Int := if isDo k then (if y = 0 ∧ (k = 8 ∨ k = 9) then 31 else 0) else 30
def doW (k : Int) (x y : Nat) : Nat := if doE k y = 0 then res k.toNat x y else 0
/-- What Takes answers. -/
def takeV (k : Int) (x y : Nat) : Bool := if k = 21 then x == y else if k = 22 then x != y else if k = 23 then decide (sg x < sg y) else if k = 24 then !decide (sg x < sg y) else if k = 25 then decide (x < y) else false
def takeE (k : Int) : Int := if isBr k then 0 else 30

set_option maxHeartbeats 400000 in
theorem does_any (k : Int) (w : World) : Calls Tryz.prog 204 #[.int .i64 k] w fun e w' => e = .returned (.bool (isDo k)) ∧ w' = w := by
  by_cases h1 : 5 ≤ k <;> by_cases h2 : k ≤ 17
  all_goals
    go_enter Tryz.func204, Tryz.ntmps204
    go_wp2
    go_ret
    exact ⟨ret_bool (by simp [isDo, h1, h2]), rfl⟩

set_option maxHeartbeats 400000 in
theorem branches_any (k : Int) (w : World) : Calls Tryz.prog 206 #[.int .i64 k] w fun e w' => e = .returned (.bool (isBr k)) ∧ w' = w := by
  by_cases h1 : 21 ≤ k <;> by_cases h2 : k ≤ 25
  all_goals
    go_enter Tryz.func206, Tryz.ntmps206
    go_wp2
    go_ret
    exact ⟨ret_bool (by simp [isBr, h1, h2]), rfl⟩

set_option maxHeartbeats 400000 in
theorem do_no (k : Int) (x y : Nat) (w : World) (h : isDo k = false) : Calls Tryz.prog 186 #[.int .i64 k, .int .u32 x, .int .u32 y] w fun e w' => e = .returned (.tuple #[.int .u32 0, .int .i64 30]) ∧ w' = w := by
  have D := fun w => does_any k w
  rw [h] at D
  have HD : Hid (∀ w, Calls _ _ _ w _) := D
  clear D h
  go_enter Tryz.func186, Tryz.ntmps186
  go_wp2_with fail
  refine (HD.out _).mono ?_
  rintro e w1 ⟨rfl, hw⟩
  obtain rfl := hw.symm
  clear hw
  go_wp2_with fail
  go_ret2
  exact ⟨rfl, rfl⟩

set_option maxHeartbeats 400000 in
theorem do_zero (k : Int) (x : Nat) (w : World) (h : k = 8 ∨ k = 9) : Calls Tryz.prog 186 #[.int .i64 k, .int .u32 x, .int .u32 0] w fun e w' => e = .returned (.tuple #[.int .u32 0, .int .i64 31]) ∧ w' = w := by
  have D := fun w => does_any k w
  have h' : isDo k = true := (isDo_iff k).2 (by omega)
  rw [h'] at D
  have HD : Hid (∀ w, Calls _ _ _ w _) := D
  clear D h'
  rcases h with rfl | rfl
  all_goals
    go_enter Tryz.func186, Tryz.ntmps186
    go_wp2_with fail
    refine (HD.out _).mono ?_
    rintro e w1 ⟨rfl, hw⟩
    obtain rfl := hw.symm
    clear hw
    go_wp2_with fail
    go_ret2
    exact ⟨rfl, rfl⟩

set_option maxHeartbeats 400000 in
theorem do_yes (k : Int) (x y : Nat) (w : World) (hx : x < 4294967296) (hy : y < 4294967296) (h : isDo k = true) (h0 : k = 8 ∨ k = 9 → 0 < y) :
    Calls Tryz.prog 186 #[.int .i64 k, .int .u32 x, .int .u32 y] w fun e w' => e = .returned (.tuple #[.int .u32 (res k.toNat x y : Nat), .int .i64 0]) ∧ w' = w := by
  have D := fun w => does_any k w
  have hk := (isDo_iff k).1 h
  rw [h] at D
  have HD : Hid (∀ w, Calls _ _ _ w _) := D
  have HM : Hid (∀ w, Calls _ _ _ w _) := fun w => made_any k x y w hx hy hk.1 hk.2 h0
  by_cases hz : 0 < y
  · have hn : ¬ (y : Int) = 0 := by omega
    clear D h hk h0 hz
    go_enter Tryz.func186, Tryz.ntmps186
    go_wp2_with fail
    refine (HD.out _).mono ?_
    rintro e w1 ⟨rfl, hw⟩
    obtain rfl := hw.symm
    clear hw
    go_wp2_with fail
    refine (HM.out _).mono ?_
    rintro e w1 ⟨rfl, hw⟩
    obtain rfl := hw.symm
    clear hw
    go_wp2_with fail
    go_ret2
    exact ⟨rfl, rfl⟩
  · have h8 : (k == 8) = false := beq_false_of_ne (fun h => hz (h0 (.inl h)))
    have h9 : (k == 9) = false := beq_false_of_ne (fun h => hz (h0 (.inr h)))
    obtain rfl : y = 0 := by omega
    clear D h hk h0 hz
    go_enter Tryz.func186, Tryz.ntmps186
    go_wp2_with fail
    refine (HD.out _).mono ?_
    rintro e w1 ⟨rfl, hw⟩
    obtain rfl := hw.symm
    clear hw
    go_wp2_with fail
    refine (HM.out _).mono ?_
    rintro e w1 ⟨rfl, hw⟩
    obtain rfl := hw.symm
    clear hw
    go_wp2_with fail
    go_ret2
    exact ⟨rfl, rfl⟩

theorem do_any (k : Int) (x y : Nat) (w : World) (hx : x < 4294967296) (hy : y < 4294967296) :
    Calls Tryz.prog 186 #[.int .i64 k, .int .u32 x, .int .u32 y] w fun e w' => e = .returned (.tuple #[.int .u32 (doW k x y : Nat), .int .i64 (doE k y)]) ∧ w' = w := by
  cases h : isDo k
  · have e1 : doE k y = 30 := by simp [doE, h]
    have e2 : doW k x y = 0 := by simp [doW, e1]
    rw [e1, e2]
    exact do_no k x y w h
  · by_cases h0 : y = 0 ∧ (k = 8 ∨ k = 9)
    · have e1 : doE k y = 31 := by simp [doE, h, h0]
      have e2 : doW k x y = 0 := by simp [doW, e1]
      rw [e1, e2, h0.1]
      exact do_zero k x w h0.2
    · have e1 : doE k y = 0 := by simp [doE, h, h0]
      have e2 : doW k x y = res k.toNat x y := by simp [doW, e1]
      rw [e1, e2]
      exact do_yes k x y w hx hy h (fun h => by by_cases a : y = 0; exact absurd ⟨a, h⟩ h0; omega)

theorem isDo_k (k : Nat) (h : 5 ≤ k) (h2 : k ≤ 17) : isDo k = true := (isDo_iff _).2 (by omega)

theorem eq_cast (x y : Nat) : ((x : Int) == (y : Int)) = (x == y) := by
  by_cases h : x = y
  · subst h; simp
  · have h' : ¬ (x : Int) = y := by omega
    rw [beq_false_of_ne h', beq_false_of_ne h]

set_option maxHeartbeats 400000 in
theorem taken_any (k : Int) (x y : Nat) (w : World) (hx : x < 4294967296) (hy : y < 4294967296) (h1 : 21 ≤ k) (h2 : k ≤ 25) :
    Calls Tryz.prog 207 #[.int .i64 k, .int .u32 x, .int .u32 y] w fun e w' => e = .returned (.bool (takeV k x y)) ∧ w' = w := by
  have h : k = 21 ∨ k = 22 ∨ k = 23 ∨ k = 24 ∨ k = 25 := by omega
  clear h1 h2
  rcases h with rfl | rfl | rfl | rfl | rfl
  · go_enter Tryz.func207, Tryz.ntmps207
    go_wp2_with fail
    go_ret
    refine ⟨ret_bool ?_, rfl⟩
    rw [eq_cast]
    simp [takeV]
  · go_enter Tryz.func207, Tryz.ntmps207
    go_wp2_with fail
    go_ret
    refine ⟨ret_bool ?_, rfl⟩
    rw [eq_cast]
    rfl
  · have HB : Hid (∀ w, Calls _ _ _ w _) := fun w => below_any x y w hx hy
    go_enter Tryz.func207, Tryz.ntmps207
    go_wp2_with fail
    refine (HB.out _).mono ?_
    rintro e w1 ⟨rfl, hw⟩
    obtain rfl := hw.symm
    clear hw
    go_wp2_with fail
    go_ret
    exact ⟨rfl, rfl⟩
  · have HB : Hid (∀ w, Calls _ _ _ w _) := fun w => below_any x y w hx hy
    go_enter Tryz.func207, Tryz.ntmps207
    go_wp2_with fail
    refine (HB.out _).mono ?_
    rintro e w1 ⟨rfl, hw⟩
    obtain rfl := hw.symm
    clear hw
    go_wp2_with fail
    go_ret
    exact ⟨rfl, rfl⟩
  · go_enter Tryz.func207, Tryz.ntmps207
    go_wp2_with fail
    go_ret
    exact ⟨rfl, rfl⟩

set_option maxHeartbeats 400000 in
theorem takes_no (k : Int) (x y : Nat) (w : World) (h : isBr k = false) : Calls Tryz.prog 189 #[.int .i64 k, .int .u32 x, .int .u32 y] w fun e w' => e = .returned (.tuple #[.bool false, .int .i64 30]) ∧ w' = w := by
  have D := fun w => branches_any k w
  rw [h] at D
  have HD : Hid (∀ w, Calls _ _ _ w _) := D
  clear D h
  go_enter Tryz.func189, Tryz.ntmps189
  go_wp2_with fail
  refine (HD.out _).mono ?_
  rintro e w1 ⟨rfl, hw⟩
  obtain rfl := hw.symm
  clear hw
  go_wp2_with fail
  go_ret2
  exact ⟨rfl, rfl⟩

set_option maxHeartbeats 400000 in
theorem takes_yes (k : Int) (x y : Nat) (w : World) (hx : x < 4294967296) (hy : y < 4294967296) (h : isBr k = true) : Calls Tryz.prog 189 #[.int .i64 k, .int .u32 x, .int .u32 y] w fun e w' => e = .returned (.tuple #[.bool (takeV k x y), .int .i64 0]) ∧ w' = w := by
  have D := fun w => branches_any k w
  have hk := (isBr_iff k).1 h
  rw [h] at D
  have HD : Hid (∀ w, Calls _ _ _ w _) := D
  have HM : Hid (∀ w, Calls _ _ _ w _) := fun w => taken_any k x y w hx hy hk.1 hk.2
  clear D h hk
  go_enter Tryz.func189, Tryz.ntmps189
  go_wp2_with fail
  refine (HD.out _).mono ?_
  rintro e w1 ⟨rfl, hw⟩
  obtain rfl := hw.symm
  clear hw
  go_wp2_with fail
  refine (HM.out _).mono ?_
  rintro e w1 ⟨rfl, hw⟩
  obtain rfl := hw.symm
  clear hw
  go_wp2_with fail
  go_ret2
  exact ⟨rfl, rfl⟩

theorem takes_any (k : Int) (x y : Nat) (w : World) (hx : x < 4294967296) (hy : y < 4294967296) : Calls Tryz.prog 189 #[.int .i64 k, .int .u32 x, .int .u32 y] w fun e w' => e = .returned (.tuple #[.bool (takeV k x y), .int .i64 (takeE k)]) ∧ w' = w := by
  cases h : isBr k
  · have hk : ¬ (21 ≤ k ∧ k ≤ 25) := fun a => by rw [(isBr_iff k).2 a] at h; cases h
    have e1 : takeE k = 30 := by simp [takeE, h]
    have e2 : takeV k x y = false := by
      unfold takeV
      rw [if_neg (by omega), if_neg (by omega), if_neg (by omega), if_neg (by omega), if_neg (by omega)]
    rw [e1, e2]
    exact takes_no k x y w h
  · have e1 : takeE k = 0 := by simp [takeE, h]
    rw [e1]
    exact takes_yes k x y w hx hy h
end Go.Proofs.YtipejahmjdamjaaGreatDoor.Al
namespace Go.Proofs.YtipejahmjdamjaaGreatDoor.Is
open Go.RowKit
set_option linter.unusedVariables false

/-- Has an instruction a word? -/
def okI (op a b c imm : Int) : Bool :=
  (formOf op != 0) && fitB (hasA (formOf op)) a && fitB (hasB (formOf op)) b && fitB (hasC (formOf op)) c && (hasI (formOf op) || imm == 0) && decide (-131072 ≤ imm ∧ imm < 131072)
/-- The document's sum. -/
def wordI (op a b c imm : Int) : Int := op * 67108864 + a * 4194304 + b * 262144 + c * 16384 + imm % 262144
def encW (op a b c imm : Int) : Int := if okI op a b c imm then wordI op a b c imm else 0
def encE (op a b c imm : Int) : Int := if okI op a b c imm then 0 else 21

theorem fitB_bd {t : Bool} {n : Int} (h : fitB t n = true) : 0 ≤ n ∧ n ≤ 15 := by
  cases t <;> simp [fitB] at h <;> omega
theorem formOf_bd {n : Int} (h : formOf n ≠ 0) : 1 ≤ n ∧ n ≤ 30 := by
  by_cases hn : n < 0 ∨ 31 ≤ n
  · exact absurd (show formOf n = 0 by unfold formOf rowOf; rw [if_pos hn]; rfl) h
  · by_cases h0 : n = 0
    · subst h0; exact absurd rfl h
    · omega

theorem or_nat (op a b c m : Nat) (h1 : op ≤ 30) (h2 : a ≤ 15) (h3 : b ≤ 15) (h4 : c ≤ 15) (h5 : m < 262144) (h6 : c = 0 ∨ m = 0) :
    (((op * 67108864 ||| a * 4194304) ||| b * 262144) ||| c * 16384) ||| m = op * 67108864 + a * 4194304 + b * 262144 + c * 16384 + m := by
  have e1 : op * 67108864 ||| a * 4194304 = op * 67108864 + a * 4194304 := by
    have := Nat.two_pow_add_eq_or_of_lt (i := 26) (b := a * 4194304) (by omega) op
    have e : 2 ^ 26 * op = op * 67108864 := by omega
    rw [e] at this; exact this.symm
  have e2 : (op * 67108864 + a * 4194304) ||| b * 262144 = op * 67108864 + a * 4194304 + b * 262144 := by
    have := Nat.two_pow_add_eq_or_of_lt (i := 22) (b := b * 262144) (by omega) (op * 16 + a)
    have e : 2 ^ 22 * (op * 16 + a) = op * 67108864 + a * 4194304 := by omega
    rw [e] at this; exact this.symm
  have e3 : (op * 67108864 + a * 4194304 + b * 262144) ||| c * 16384 = op * 67108864 + a * 4194304 + b * 262144 + c * 16384 := by
    have := Nat.two_pow_add_eq_or_of_lt (i := 18) (b := c * 16384) (by omega) (op * 256 + a * 16 + b)
    have e : 2 ^ 18 * (op * 256 + a * 16 + b) = op * 67108864 + a * 4194304 + b * 262144 := by omega
    rw [e] at this; exact this.symm
  rw [e1, e2, e3]
  rcases h6 with rfl | rfl
  · have := Nat.two_pow_add_eq_or_of_lt (i := 18) (b := m) (by omega) (op * 256 + a * 16 + b)
    have e : 2 ^ 18 * (op * 256 + a * 16 + b) = op * 67108864 + a * 4194304 + b * 262144 + 0 * 16384 := by omega
    rw [e] at this; exact this.symm
  · simp

theorem orW_eq (op a b c imm : Int) (h1 : 1 ≤ op ∧ op ≤ 30) (h2 : 0 ≤ a ∧ a ≤ 15) (h3 : 0 ≤ b ∧ b ≤ 15) (h4 : 0 ≤ c ∧ c ≤ 15) (h6 : c = 0 ∨ imm = 0) : orW op a b c imm = wordI op a b c imm := by
  obtain ⟨op, rfl⟩ : ∃ x : Nat, op = (x : Int) := ⟨op.toNat, by omega⟩
  obtain ⟨a, rfl⟩ : ∃ x : Nat, a = (x : Int) := ⟨a.toNat, by omega⟩
  obtain ⟨b, rfl⟩ : ∃ x : Nat, b = (x : Int) := ⟨b.toNat, by omega⟩
  obtain ⟨c, rfl⟩ : ∃ x : Nat, c = (x : Int) := ⟨c.toNat, by omega⟩
  obtain ⟨m, hm⟩ : ∃ x : Nat, imm % 262144 = (x : Int) := ⟨(imm % 262144).toNat, by omega⟩
  have hm2 : m < 262144 := by omega
  have hm3 : c = 0 ∨ m = 0 := by omega
  unfold orW wordI
  have e1 : (op : Int) % 4294967296 * 67108864 % 4294967296 = ((op * 67108864 : Nat) : Int) := by omega
  have e2 : (a : Int) % 4294967296 * 4194304 % 4294967296 = ((a * 4194304 : Nat) : Int) := by omega
  have e3 : (b : Int) % 4294967296 * 262144 % 4294967296 = ((b * 262144 : Nat) : Int) := by omega
  have e4 : (c : Int) % 4294967296 * 16384 % 4294967296 = ((c * 16384 : Nat) : Int) := by omega
  rw [e1, e2, e3, e4, hm]
  have o := or_nat op a b c m (by omega) (by omega) (by omega) (by omega) hm2 hm3
  have k1 : op * 67108864 ||| a * 4194304 < 4294967296 := Nat.or_lt_two_pow (n := 32) (by omega) (by omega)
  have k2 : (op * 67108864 ||| a * 4194304) ||| b * 262144 < 4294967296 := Nat.or_lt_two_pow (n := 32) k1 (by omega)
  have k3 : ((op * 67108864 ||| a * 4194304) ||| b * 262144) ||| c * 16384 < 4294967296 := Nat.or_lt_two_pow (n := 32) k2 (by omega)
  rw [u32_or_nat _ _ (by omega) (by omega), u32_or_nat _ _ k1 (by omega), u32_or_nat _ _ k2 (by omega), u32_or_nat _ _ k3 (by omega), o]
  omega

/-- What Encode answers. -/
theorem enc_any (op a b c imm : Int) (w : World) (h : Tabs w) :
    Calls Tryz.prog 129 #[insV op a b c imm] w fun e w' => e = .returned (.tuple #[.int .u32 (encW op a b c imm), .int .i64 (encE op a b c imm)]) ∧ Below w.heap.size w w' := by
  obtain ⟨k, hk, hk8⟩ := formOf_nat op
  have no : okI op a b c imm = false → encW op a b c imm = 0 ∧ encE op a b c imm = 21 := fun h => by simp [encW, encE, h]
  by_cases hk0 : k = 0
  · obtain ⟨e1, e2⟩ := no (by simp [okI, hk, hk0])
    rw [e1, e2]
    exact enc_zero op a b c imm w h (by omega)
  have hkn : formOf op ≠ 0 := by omega
  have hkn' : ((k : Int) != 0) = true := by simp; omega
  cases FA : fitB (hasA k) a
  · obtain ⟨e1, e2⟩ := no (by simp [okI, hk, FA])
    rw [e1, e2]
    exact enc_a op a b c imm w h k hk hk8 hk0 FA
  cases FB : fitB (hasB k) b
  · obtain ⟨e1, e2⟩ := no (by simp [okI, hk, FB])
    rw [e1, e2]
    exact enc_b op a b c imm w h k hk hk8 hk0 FA FB
  cases FC : fitB (hasC k) c
  · obtain ⟨e1, e2⟩ := no (by simp [okI, hk, FC])
    rw [e1, e2]
    exact enc_c op a b c imm w h k hk hk8 hk0 FA FB FC
  have hop := formOf_bd hkn
  cases FI : hasI k
  · by_cases hm : imm = 0
    · have y : okI op a b c imm = true := by simp [okI, hk, hkn', FA, FB, FC, FI, hm]
      have e := orW_eq op a b c imm hop (fitB_bd FA) (fitB_bd FB) (fitB_bd FC) (.inr hm)
      have := enc_none op a b c imm w h k hk hk8 hk0 FA FB FC FI hm
      rw [e] at this
      simpa [encW, encE, y] using this
    · obtain ⟨e1, e2⟩ := no (by simp [okI, hk, FI, hm])
      rw [e1, e2]
      exact enc_i op a b c imm w h k hk hk8 hk0 FA FB FC FI hm
  · by_cases hr : imm < -131072 ∨ 131072 ≤ imm
    · obtain ⟨e1, e2⟩ := no (by simp only [okI]; rw [show decide (-131072 ≤ imm ∧ imm < 131072) = false by simp; omega]; simp)
      rw [e1, e2]
      exact enc_r op a b c imm w h k hk hk8 hk0 FA FB FC FI hr
    · have y : okI op a b c imm = true := by simp [okI, hk, hkn', FA, FB, FC, FI]; omega
      have hc : c = 0 := by
        have : hasC k = false := by
          have h4 : (k : Int) ≠ 4 := by intro h4; rw [h4] at FI; exact absurd FI (by decide)
          simp [hasC]; omega
        rw [this] at FC
        simpa [fitB] using FC
      have e := orW_eq op a b c imm hop (fitB_bd FA) (fitB_bd FB) (fitB_bd FC) (.inl hc)
      have := enc_yes op a b c imm w h k hk hk8 hk0 FA FB FC FI (by omega) (by omega)
      rw [e] at this
      simpa [encW, encE, y] using this
end Go.Proofs.YtipejahmjdamjaaGreatDoor.Is
