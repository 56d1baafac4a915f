import Derived.WalkKit
import Derived.Laws.BitsAllLaws
import Derived.Test.YtjadpbkhfclldaaGreatProg
import Derived.WalkSpells
import Derived.WalkLawsBesides
import Derived.Deep.QuietTactic
import Derived.BigQuiet
import Derived.Test.YtjadpbkhfclldaaGreatTy
namespace Go.Proofs.YtjadpbkhfclldaaGreat

/-- What so many ones are. -/
theorem ones_eq (n : Nat) (h2 : n ≤ 32) : (4294967295 : Int) / 2 ^ (32 - n) = ((2 ^ n - 1 : Nat) : Int) := by
  have hn : n = 0 ∨ n = 1 ∨ n = 2 ∨ n = 3 ∨ n = 4 ∨ n = 5 ∨ n = 6 ∨ n = 7 ∨ n = 8 ∨ n = 9 ∨ n = 10 ∨ n = 11 ∨ n = 12 ∨ n = 13 ∨ n = 14 ∨ n = 15 ∨ n = 16 ∨ n = 17 ∨ n = 18 ∨ n = 19 ∨ n = 20 ∨ n = 21 ∨ n = 22 ∨ n = 23 ∨ n = 24 ∨ n = 25 ∨ n = 26 ∨ n = 27 ∨ n = 28 ∨ n = 29 ∨ n = 30 ∨ n = 31 ∨ n = 32 := by omega
  rcases hn with rfl | rfl | rfl | rfl | rfl | rfl | rfl | rfl | rfl | rfl | rfl | rfl | rfl | rfl | rfl | rfl | rfl | rfl | rfl | rfl | rfl | rfl | rfl | rfl | rfl | rfl | rfl | rfl | rfl | rfl | rfl | rfl | rfl <;> rfl

theorem two_le (n m : Nat) (h : n ≤ m) : (2 : Nat) ^ n ≤ 2 ^ m := Nat.pow_le_pow_right (by omega) h

def fieldN (w f n : Nat) : Nat := w / 2 ^ f % 2 ^ n
def putN (w f n v : Nat) : Nat := (w &&& (4294967295 - (2 ^ n - 1) * 2 ^ f)) ||| v * 2 ^ f

theorem fieldN_bit (w f n i : Nat) : (fieldN w f n).testBit i = (decide (i < n) && w.testBit (f + i)) := by
  unfold fieldN
  rw [Nat.testBit_mod_two_pow, Nat.testBit_div_two_pow, Nat.add_comm i f]

theorem maskN_lt (n f : Nat) (h : f + n ≤ 32) : (2 ^ n - 1) * 2 ^ f < 2 ^ 32 := by
  have h1 : (2 ^ n - 1) * 2 ^ f < 2 ^ n * 2 ^ f := Nat.mul_lt_mul_of_pos_right (by have := Nat.two_pow_pos n; omega) (Nat.two_pow_pos f)
  rw [← Nat.pow_add] at h1
  exact Nat.lt_of_lt_of_le h1 (two_le _ _ (by omega))

theorem valN_lt (n f v : Nat) (h : f + n ≤ 32) (hv : v < 2 ^ n) : v * 2 ^ f < 2 ^ 32 := by
  have h1 : v * 2 ^ f < 2 ^ n * 2 ^ f := Nat.mul_lt_mul_of_pos_right hv (Nat.two_pow_pos f)
  rw [← Nat.pow_add] at h1
  exact Nat.lt_of_lt_of_le h1 (two_le _ _ (by omega))

theorem putN_bit (w f n v i : Nat) (hw : w < 2 ^ 32) (h : f + n ≤ 32) (hv : v < 2 ^ n) :
    (putN w f n v).testBit i = if f ≤ i ∧ i < f + n then v.testBit (i - f) else w.testBit i := by
  unfold putN
  have e : 4294967295 - (2 ^ n - 1) * 2 ^ f = 2 ^ 32 - ((2 ^ n - 1) * 2 ^ f + 1) := by
    have : (2 : Nat) ^ 32 = 4294967296 := by decide
    omega
  rw [Nat.testBit_or, Nat.testBit_and, e, Nat.testBit_two_pow_sub_succ (maskN_lt n f h), Nat.testBit_mul_two_pow, Nat.testBit_mul_two_pow, Nat.testBit_two_pow_sub_one]
  by_cases h1 : f ≤ i
  · by_cases h2 : i < f + n
    · have : i - f < n := by omega
      simp [h1, h2, this]
    · have h3 : ¬ i - f < n := by omega
      have h4 : v.testBit (i - f) = false := Nat.testBit_lt_two_pow (Nat.lt_of_lt_of_le hv (two_le _ _ (by omega)))
      by_cases h5 : i < 32
      · simp [h1, h2, h3, h4, h5]
      · have h6 : w.testBit i = false := Nat.testBit_lt_two_pow (Nat.lt_of_lt_of_le hw (two_le _ _ (by omega)))
        simp [h1, h2, h3, h4, h5, h6]
  · by_cases h5 : i < 32
    · simp [h1, h5]
    · omega

theorem putN_lt (w f n v : Nat) (hw : w < 2 ^ 32) (h : f + n ≤ 32) (hv : v < 2 ^ n) : putN w f n v < 2 ^ 32 := by
  refine Nat.lt_pow_two_of_testBit _ fun i hi => ?_
  rw [putN_bit w f n v i hw h hv, if_neg (by omega)]
  exact Nat.testBit_lt_two_pow (Nat.lt_of_lt_of_le hw (two_le _ _ hi))

theorem fieldN_putN (w f n v : Nat) (hw : w < 2 ^ 32) (h : f + n ≤ 32) (hv : v < 2 ^ n) : fieldN (putN w f n v) f n = v := by
  refine Nat.eq_of_testBit_eq fun i => ?_
  rw [fieldN_bit, putN_bit w f n v _ hw h hv]
  by_cases hi : i < n
  · rw [if_pos (by omega)]
    simp [hi]
  · have h4 : v.testBit i = false := Nat.testBit_lt_two_pow (Nat.lt_of_lt_of_le hv (two_le _ _ (by omega)))
    simp [hi, h4]

theorem fieldN_lt (w f n : Nat) : fieldN w f n < 2 ^ n := Nat.mod_lt _ (Nat.two_pow_pos n)

theorem putN_putN (w f n v : Nat) (hw : w < 2 ^ 32) (h : f + n ≤ 32) (hv : v < 2 ^ n) : putN (putN w f n v) f n (fieldN w f n) = w := by
  refine Nat.eq_of_testBit_eq fun i => ?_
  rw [putN_bit _ f n _ i (putN_lt w f n v hw h hv) h (fieldN_lt w f n), putN_bit w f n v i hw h hv, fieldN_bit]
  by_cases hi : f ≤ i ∧ i < f + n
  · rw [if_pos hi]
    have h1 : i - f < n := by omega
    have h2 : f + (i - f) = i := by omega
    simp [h1, h2]
  · rw [if_neg hi, if_neg hi]

theorem cast_div (x f : Nat) : (x : Int) / 2 ^ f = ((x / 2 ^ f : Nat) : Int) := by
  simp

theorem field_eq (x f n : Nat) (hx : x < 4294967296) (h2 : n ≤ 32) : bits .and .u32 ((x : Int) / 2 ^ f) ((2 ^ n - 1 : Nat) : Int) = ((fieldN x f n : Nat) : Int) := by
  have h3 : (2 : Nat) ^ n ≤ 2 ^ 32 := two_le n 32 h2
  have h4 := Nat.two_pow_pos n
  rw [cast_div, u32_and_nat _ _ (Nat.lt_of_le_of_lt (Nat.div_le_self _ _) hx) (by omega), Nat.and_two_pow_sub_one_eq_mod]
  rfl

theorem put_eq (x f n v : Nat) (hx : x < 4294967296) (h : f + n ≤ 32) (hv : v < 2 ^ n) :
    bits .or .u32 (bits .andNot .u32 (x : Int) (((2 ^ n - 1 : Nat) : Int) * 2 ^ f % 4294967296)) ((v : Int) * 2 ^ f % 4294967296) = ((putN x f n v : Nat) : Int) := by
  have a := maskN_lt n f h
  have b := valN_lt n f v h hv
  have e1 : ((2 ^ n - 1 : Nat) : Int) * 2 ^ f % 4294967296 = (((2 ^ n - 1) * 2 ^ f : Nat) : Int) := by
    rw [Int.emod_eq_of_lt]
    · simp
    · exact Int.mul_nonneg (by omega) (by have := Nat.two_pow_pos f; exact_mod_cast Nat.zero_le _)
    · have : (((2 ^ n - 1) * 2 ^ f : Nat) : Int) < 4294967296 := by omega
      simpa using this
  have e2 : (v : Int) * 2 ^ f % 4294967296 = ((v * 2 ^ f : Nat) : Int) := by
    rw [Int.emod_eq_of_lt]
    · simp
    · exact Int.mul_nonneg (by omega) (by have := Nat.two_pow_pos f; exact_mod_cast Nat.zero_le _)
    · have : ((v * 2 ^ f : Nat) : Int) < 4294967296 := by omega
      simpa using this
  rw [e1, e2, u32_andNot_nat _ _ hx (by omega), u32_or_nat _ _ (Nat.lt_of_le_of_lt Nat.and_le_left hx) (by omega)]
  rfl

theorem unsigned_eq (x : Int) (n : Nat) (h : n ≤ 32) : bits .and .u32 (x % 4294967296) ((2 ^ n - 1 : Nat) : Int) = x % 2 ^ n := by
  have h3 : (2 : Nat) ^ n ≤ 2 ^ 32 := two_le n 32 h
  have h4 := Nat.two_pow_pos n
  obtain ⟨m, hm⟩ : ∃ m : Nat, x % 4294967296 = (m : Int) := ⟨(x % 4294967296).toNat, by omega⟩
  have hlt : m < 4294967296 := by omega
  rw [hm, u32_and_nat _ _ hlt (by omega), Nat.and_two_pow_sub_one_eq_mod]
  have e : ((m % 2 ^ n : Nat) : Int) = (m : Int) % 2 ^ n := by simp
  have d : (2 : Int) ^ n ∣ 4294967296 := by
    refine ⟨2 ^ (32 - n), ?_⟩
    rw [← Int.pow_add, show n + (32 - n) = 32 by omega]
    decide
  rw [e, ← hm, Int.emod_emod_of_dvd x d]

theorem pow_int (n : Nat) : ((2 ^ n : Nat) : Int) = (2 : Int) ^ n := by simp

theorem pow_bd (n : Nat) (h1 : 1 ≤ n) (h2 : n ≤ 32) : (2 : Int) ^ (n - 1) ≤ 2147483648 ∧ 0 < (2 : Int) ^ (n - 1) ∧ (2 : Int) ^ n = 2 * 2 ^ (n - 1) ∧ ((2 ^ (n - 1) : Nat) : Int) = 2 ^ (n - 1) ∧ ((2 ^ n : Nat) : Int) = 2 ^ n := by
  have a := two_le (n - 1) 31 (by omega)
  have b := Nat.two_pow_pos (n - 1)
  have e := pow_int (n - 1)
  have g := pow_int n
  refine ⟨?_, ?_, ?_, e, g⟩
  · rw [← e]; have : (2 : Nat) ^ 31 = 2147483648 := by decide
    omega
  · rw [← e]; omega
  · obtain ⟨m, rfl⟩ : ∃ m, n = m + 1 := ⟨n - 1, by omega⟩
    rw [Int.pow_succ]; simp; omega

/-- What a signed number's bits are, and what they mean. -/
theorem back_lo (x : Int) (n : Nat) (h1 : 1 ≤ n) (h2 : n ≤ 32) (h : 0 ≤ x) (hu : x < 2 ^ (n - 1)) : x % 2 ^ n = x := by
  obtain ⟨a, b, c, _, _⟩ := pow_bd n h1 h2
  exact Int.emod_eq_of_lt h (by omega)

theorem back_hi (x : Int) (n : Nat) (h1 : 1 ≤ n) (h2 : n ≤ 32) (h : x < 0) (hl : - 2 ^ (n - 1) ≤ x) : x % 2 ^ n = x + 2 ^ n := by
  obtain ⟨a, b, c, _, _⟩ := pow_bd n h1 h2
  rw [← Int.add_emod_right]
  exact Int.emod_eq_of_lt (by omega) (by omega)

end Go.Proofs.YtjadpbkhfclldaaGreat
namespace Go.Proofs.YtjadpbkhfclldaaGreat
open Go.RowKit

set_option maxHeartbeats 400000 in
theorem size_any (b : Nat) (a : Option Addr) (n c : Nat) (w : World) (hc : w.cell? ⟨b, 0, none⟩ = some (.slice a n c)) (_hn : n ≤ maxLen) :
    Calls Tryz.prog 47 #[.pointer (some ⟨b, 0, none⟩)] w fun e w' => e = .returned (.int .i64 n) ∧ w' = w := by
  unfold maxLen at _hn
  go_enter Tryz.func47, Tryz.ntmps47
  go_wp2
  go_ret
  exact ⟨rfl, rfl⟩

set_option maxHeartbeats 400000 in
theorem at_any (b : Nat) (p : Nat) (w : World) (hc : w.cell? ⟨b, 1, none⟩ = some (.int .i64 p)) :
    Calls Tryz.prog 87 #[.pointer (some ⟨b, 0, none⟩)] w fun e w' => e = .returned (.int .i64 p) ∧ w' = w := by
  go_enter Tryz.func87, Tryz.ntmps87
  go_wp2
  go_ret
  exact ⟨rfl, rfl⟩

set_option maxHeartbeats 400000 in
theorem left_any (b : Nat) (a : Option Addr) (n c p : Nat) (w : World) (hc : w.cell? ⟨b, 0, none⟩ = some (.slice a n c)) (hp : w.cell? ⟨b, 1, none⟩ = some (.int .i64 p)) (hn : n ≤ maxLen) (hpn : p ≤ n) :
    Calls Tryz.prog 100 #[.pointer (some ⟨b, 0, none⟩)] w fun e w' => e = .returned (.int .i64 ((n : Int) - p)) ∧ w' = w := by
  have hn' := hn
  unfold maxLen at hn'
  go_enter Tryz.func100, Tryz.ntmps100
  go_wp2_with (first | (go_at_call 47; refine (size_any b a n c _ hc hn).mono ?_; rintro e w' ⟨rfl, rfl⟩) | (go_at_call 87; refine (at_any b p _ hp).mono ?_; rintro e w' ⟨rfl, rfl⟩))
  go_ret
  exact ⟨rfl, rfl⟩

set_option maxHeartbeats 400000 in
theorem refuse_any (b : Nat) (p er q : Int) (u : Value) (w : World) (hc : w.cell? ⟨b, 1, none⟩ = some (.int .i64 q)) (hd : w.cell? ⟨b, 2, none⟩ = some u) (hf : w.frozen? ⟨b, 1, none⟩ = false) (hg : w.frozen? ⟨b, 2, none⟩ = false) :
    Calls Tryz.prog 102 #[.pointer (some ⟨b, 0, none⟩), .int .i64 p, .int .i64 er] w fun e w' => e = .returned (.tuple #[]) ∧ w' = (w.setCell ⟨b, 1, none⟩ (.int .i64 p)).setCell ⟨b, 2, none⟩ (.int .i64 er) := by
  go_enter Tryz.func102, Tryz.ntmps102
  go_wp2
  go_end0
  exact ⟨rfl, rfl⟩

set_option maxHeartbeats 400000 in
theorem next_any (b g o n c p k : Nat) (w : World) (hc : w.cell? ⟨b, 0, none⟩ = some (.slice (some ⟨g, o, none⟩) n c)) (hp : w.cell? ⟨b, 1, none⟩ = some (.int .i64 p)) (hf : w.frozen? ⟨b, 1, none⟩ = false)
    (hn : p + k ≤ n) (hnc : n ≤ c) (hcm : c ≤ maxLen) :
    Calls Tryz.prog 71 #[.pointer (some ⟨b, 0, none⟩), .int .i64 k] w fun e w' => (∃ x, e = .returned (.slice (some ⟨g, x, none⟩) k (c - p)) ∧ (x = o + p ∨ (k = 0 ∧ x = o))) ∧ ∃ j, w' = (w.setCell ⟨b, 1, none⟩ (.int .i64 ((p : Int) + (k : Int)))).drewN j := by
  unfold maxLen at hcm
  by_cases hcp : c = p
  · obtain rfl : k = 0 := by omega
    obtain rfl : n = c := by omega
    subst hcp
    go_enter Tryz.func71, Tryz.ntmps71
    go_wp2
    go_quiet (fail)
    go_wp2
    go_ret
    exact ⟨⟨o, by simp, by simp⟩, _, rfl⟩
  · go_enter Tryz.func71, Tryz.ntmps71
    go_wp2
    go_quiet (fail)
    go_wp2
    go_ret
    exact ⟨⟨o + p, by simp, .inl rfl⟩, _, rfl⟩

end Go.Proofs.YtjadpbkhfclldaaGreat
namespace Go.Proofs.YtjadpbkhfclldaaGreat
open Go.RowKit

def lowB (k N : Nat) : List UInt8 := (List.range k).map fun i => UInt8.ofNat (N / 256 ^ i)
theorem lowB_length (k N : Nat) : (lowB k N).length = k := by simp [lowB]
theorem lowB_succ (k N : Nat) : lowB (k + 1) N = lowB k N ++ [UInt8.ofNat (N / 256 ^ k)] := by simp [lowB, List.range_succ]

theorem spread_step (l : List Value) (o j N : Nat) (h : o + j < l.length) :
    (l.take o ++ bvs (lowB j N) ++ l.drop (o + j)).set (o + j) (.int .u8 ((UInt8.ofNat (N / 256 ^ j)).toNat : Int)) = l.take o ++ bvs (lowB (j + 1) N) ++ l.drop (o + (j + 1)) := by
  have hl : (l.take o ++ bvs (lowB j N)).length = o + j := by simp [bvs_length, lowB_length]; omega
  rw [List.set_append_right _ _ (by omega), hl, Nat.sub_self, lowB_succ, bvs_append, ← Nat.add_assoc]
  obtain ⟨x, hx⟩ : ∃ x, l.drop (o + j) = x :: l.drop (o + j + 1) := ⟨l[o + j], by rw [List.drop_eq_getElem_cons h]⟩
  rw [hx]
  simp [bvs]

theorem byte_eq (N j : Nat) : (N : Int) / 256 ^ j % 256 = ((UInt8.ofNat (N / 256 ^ j)).toNat : Int) := by
  have e : (UInt8.ofNat (N / 256 ^ j)).toNat = N / 256 ^ j % 256 := UInt8.toNat_ofNat'
  rw [e]
  simp
theorem shift_eq (N j : Nat) : (N : Int) / 256 ^ j / 256 = ((N / 256 ^ (j + 1) : Nat) : Int) := by
  rw [Nat.pow_succ, ← Nat.div_div_eq_div_mul]
  simp

set_option maxHeartbeats 400000 in
theorem spread_any (g o k c N : Nat) (l : List Value) (t : TypeId) (w : World) (hg : Blk w g l t) (hk : o + k ≤ l.length) (hl : k ≤ maxLen) (_hN : N < 18446744073709551616) :
    Calls Tryz.prog 53 #[.slice (some ⟨g, o, none⟩) k c, .int .u64 N] w fun e w' => e = .returned (.tuple #[]) ∧ Blk w' g (l.take o ++ bvs (lowB k N) ++ l.drop (o + k)) t ∧ Keeps (· = g) w w' := by
  unfold maxLen at hl
  go_enter Tryz.func53, Tryz.ntmps53
  go_wp2
  go_loopw [1, 7] (fun n i wr => ∃ j : Nat, j ≤ k ∧ i = .int .i64 j ∧ n = .int .u64 ((N / 256 ^ j : Nat) : Int) ∧ Blk wr g (l.take o ++ bvs (lowB j N) ++ l.drop (o + j)) t ∧ Keeps (· = g) w wr)
    (fun _ i _ => k - (intOf i).toNat)
  case atStart => exact ⟨0, Nat.zero_le _, rfl, by simp, by simpa [lowB, bvs] using hg, Keeps.refl _ _⟩
  case round =>
    obtain ⟨j, hj, rfl, rfl, hB, hK⟩ := hrel
    by_cases hlt : j < k
    · obtain ⟨v, hv⟩ : ∃ v, (l.take o ++ bvs (lowB j N) ++ l.drop (o + j))[o + j]? = some v := by
        have : (l.take o ++ bvs (lowB j N) ++ l.drop (o + j)).length = l.length := by simp [bvs_length, lowB_length]; omega
        exact ⟨_, List.getElem?_eq_getElem (by omega)⟩
      have hc := hB.cell hv
      have hf := hB.frozen (o + j)
      have HB : Hid (Blk wr g (l.take o ++ bvs (lowB j N) ++ l.drop (o + j)) t) := hB
      have HK : Hid (Keeps (· = g) w wr) := hK
      clear hB hK hv
      go_wp2
      go_roundw
      case rel =>
        refine ⟨j + 1, by omega, by go_num, by rw [shift_eq], ?_, HK.out.setCell _ _ fun _ => rfl⟩
        rw [byte_eq, ← spread_step l o j N (by omega)]
        exact HB.out.setCell _ _
      case measure => simp [intOf]; omega
    · obtain rfl : j = k := by omega
      go_wp2
      go_end0
      exact ⟨rfl, hB, hK⟩

def highN : List UInt8 → Nat
  | [] => 0
  | x :: r => x.toNat + 256 * highN r
theorem highN_lt : ∀ xs : List UInt8, highN xs < 256 ^ xs.length
  | [] => by simp [highN]
  | x :: r => by
    have h := highN_lt r
    have hx := x.toNat_lt
    simp only [highN, List.length_cons, Nat.pow_succ]
    omega
theorem highN_snoc : ∀ (xs : List UInt8) (x : UInt8), highN (xs ++ [x]) = highN xs + x.toNat * 256 ^ xs.length
  | [], x => by simp [highN]
  | y :: r, x => by
    have h := highN_snoc r x
    simp only [List.cons_append, highN, h, List.length_cons, Nat.pow_succ]
    rw [Nat.mul_add, ← Nat.mul_assoc, Nat.mul_comm 256 x.toNat, Nat.mul_assoc, Nat.mul_comm (256 ^ r.length) 256]
    omega

theorem gather_eq (A y j : Nat) (hA : A < 256 ^ j) (hy : y < 256) (hj : j < 8) :
    bits .or .u64 (A : Int) (IntKind.u64.wrap (IntKind.u64.wrap (y : Int) * 2 ^ (8 * j))) = ((A + y * 256 ^ j : Nat) : Int) := by
  have e : (256 : Nat) ^ j = 2 ^ (8 * j) := by rw [Nat.pow_mul]
  rw [e] at hA ⊢
  have h1 : (2 : Nat) ^ (8 * j) ≤ 2 ^ 56 := two_le _ _ (by omega)
  have h2 : y * 2 ^ (8 * j) < 18446744073709551616 := by
    have : y * 2 ^ (8 * j) ≤ 255 * 2 ^ 56 := Nat.mul_le_mul (by omega) h1
    omega
  have e1 : IntKind.u64.wrap (y : Int) = y := by rw [IntKind.wrap_u64]; omega
  have e2 : (y : Int) * 2 ^ (8 * j) = ((y * 2 ^ (8 * j) : Nat) : Int) := by simp
  have e3 : IntKind.u64.wrap ((y * 2 ^ (8 * j) : Nat) : Int) = ((y * 2 ^ (8 * j) : Nat) : Int) := by rw [IntKind.wrap_u64]; omega
  rw [e1, e2, e3, u64_or_nat _ _ (by omega) h2, Nat.or_comm, nat_join (8 * j) _ _ (Nat.mul_mod_left _ _) hA, Nat.add_comm]

theorem highN_take (xs : List UInt8) (j : Nat) (hj : j < xs.length) : highN (xs.take (j + 1)) = highN (xs.take j) + xs[j].toNat * 256 ^ j := by
  rw [List.take_succ_eq_append_getElem hj, highN_snoc, List.length_take, Nat.min_eq_left (by omega)]

set_option maxHeartbeats 400000 in
theorem gather_any (g o k c : Nat) (l : List Value) (xs : List UInt8) (t : TypeId) (w : World) (hg : Blk w g l t) (hx : (l.drop o).take k = bvs xs) (hk : xs.length = k) (h8 : k ≤ 8) :
    Calls Tryz.prog 103 #[.slice (some ⟨g, o, none⟩) k c] w fun e w' => e = .returned (.int .u64 (highN xs)) ∧ w' = w := by
  have hcell : ∀ j, (hj : j < xs.length) → w.cell? ⟨g, o + j, none⟩ = some (.int .u8 (xs[j].toNat : Int)) := by
    intro j hj
    refine hg.cell ?_
    have h1 : ((l.drop o).take k)[j]? = some (.int .u8 (xs[j].toNat : Int)) := by rw [hx]; exact bvs_get xs j hj
    rw [List.getElem?_take_of_lt (by omega), List.getElem?_drop] at h1
    exact h1
  go_enter Tryz.func103, Tryz.ntmps103
  go_wp2
  go_loop [3, 8] (fun n i => ∃ j : Nat, j ≤ k ∧ i = .int .i64 j ∧ n = .int .u64 (highN (xs.take j)))
    (fun _ i => k - (intOf i).toNat)
  case atStart => exact ⟨0, Nat.zero_le _, rfl, by simp [highN]⟩
  case round =>
    obtain ⟨j, hj, rfl, rfl⟩ := hrel
    by_cases hlt : j < k
    · have hc := hcell j (by omega)
      clear hcell hx
      obtain ⟨y, hy⟩ : ∃ y : Nat, y = xs[j].toNat := ⟨_, rfl⟩
      rw [← hy] at hc
      obtain ⟨A, hA⟩ : ∃ A : Nat, A = highN (xs.take j) := ⟨_, rfl⟩
      rw [← hA]
      have HA : Hid (A = highN (xs.take j)) := hA
      have HY : Hid (y = xs[j].toNat) := hy
      clear hA hy
      go_wp2
      go_round
      case rel =>
        refine ⟨j + 1, by omega, by go_num, ?_⟩
        have h1 := highN_lt (xs.take j)
        rw [List.length_take, Nat.min_eq_left (by omega), ← HA.out] at h1
        have h2 := xs[j].toNat_lt
        rw [← HY.out] at h2
        rw [gather_eq A y j h1 (by omega) (by omega), highN_take xs j (by omega), ← HA.out, ← HY.out]
      case measure => simp [intOf]; omega
    · obtain rfl : j = k := by omega
      go_wp2
      go_ret
      exact ⟨by rw [← hk]; simp, rfl⟩

def crcStep (s : Nat) : Nat := if s % 2 = 1 then (s / 2) ^^^ 3988292384 else s / 2
def crcN : Nat → Nat → Nat
  | 0, s => s
  | k + 1, s => crcStep (crcN k s)
def crcL : List UInt8 → Nat → Nat
  | [], s => s
  | x :: r, s => crcL r (crcN 8 (s ^^^ x.toNat))
def sumN (xs : List UInt8) : Nat := 4294967295 ^^^ crcL xs 4294967295

theorem crcStep_lt (s : Nat) (h : s < 4294967296) : crcStep s < 4294967296 := by
  unfold crcStep
  split
  · exact Nat.xor_lt_two_pow (n := 32) (by omega) (by omega)
  · omega
theorem crcN_lt (k s : Nat) (h : s < 4294967296) : crcN k s < 4294967296 := by
  induction k with
  | zero => exact h
  | succ k ih => exact crcStep_lt _ ih
theorem xor_byte_lt (s : Nat) (x : UInt8) (h : s < 4294967296) : s ^^^ x.toNat < 4294967296 :=
  Nat.xor_lt_two_pow (n := 32) (by omega) (by have := x.toNat_lt; omega)
theorem crcL_lt (xs : List UInt8) : ∀ s, s < 4294967296 → crcL xs s < 4294967296 := by
  induction xs with
  | nil => exact fun s h => h
  | cons x r ih => exact fun s h => ih _ (crcN_lt _ _ (xor_byte_lt s x h))
theorem crcL_append (xs ys : List UInt8) : ∀ s, crcL (xs ++ ys) s = crcL ys (crcL xs s) := by
  induction xs with
  | nil => exact fun s => rfl
  | cons x r ih => exact fun s => ih _
theorem sumN_lt (xs : List UInt8) : sumN xs < 4294967296 := Nat.xor_lt_two_pow (n := 32) (by omega) (by have := crcL_lt xs 4294967295 (by omega); omega)

theorem odd_eq (s : Nat) (h : s < 4294967296) : bits .and .u32 (s : Int) 1 = ((s % 2 : Nat) : Int) := by
  have := u32_and_nat s 1 h (by omega)
  rw [nat_mask1] at this
  exact this
theorem turn_eq (s : Nat) (h : s < 4294967296) : bits .xor .u32 ((s : Int) / 2) 3988292384 = (((s / 2) ^^^ 3988292384 : Nat) : Int) := by
  have := u32_xor_nat (s / 2) 3988292384 (by omega) (by omega)
  rw [← this]
  simp

set_option maxHeartbeats 400000 in
theorem sumByte_any (s : Nat) (w : World) (hs : s < 4294967296) :
    Calls Tryz.prog 63 #[.int .u32 s] w fun e w' => e = .returned (.int .u32 (crcN 8 s)) ∧ w' = w := by
  go_enter Tryz.func63, Tryz.ntmps63
  go_wp2
  go_loop [0, 4] (fun n i => ∃ j : Nat, j ≤ 8 ∧ i = .int .i64 j ∧ n = .int .u32 (crcN j s))
    (fun _ i => 8 - (intOf i).toNat)
  case atStart => exact ⟨0, Nat.zero_le _, rfl, rfl⟩
  case round =>
    obtain ⟨j, hj, rfl, rfl⟩ := hrel
    by_cases hlt : j < 8
    · have hb := crcN_lt j s hs
      obtain ⟨A, hA⟩ : ∃ A : Nat, A = crcN j s := ⟨_, rfl⟩
      rw [← hA] at hb ⊢
      have ho := odd_eq A hb
      have ht := turn_eq A hb
      have HA : Hid (A = crcN j s) := hA
      clear hA
      by_cases hodd : A % 2 = 1
      · have hd : (((A % 2 : Nat) : Int) == 1) = true := by simp; omega
        have hs : Hid (((A / 2 ^^^ 3988292384 : Nat) : Int) = (crcN (j + 1) s : Nat)) := by
          show ((A / 2 ^^^ 3988292384 : Nat) : Int) = (crcStep (crcN j s) : Nat)
          rw [← HA.out, crcStep, if_pos hodd]
        go_wp2
        go_round
        case rel => exact ⟨j + 1, by omega, by go_num, by rw [hs.out]⟩
        case measure => simp [intOf]; omega
      · have hd : (((A % 2 : Nat) : Int) == 1) = false := by simp; omega
        have hs : Hid ((A : Int) / 2 = (crcN (j + 1) s : Nat)) := by
          show (A : Int) / 2 = (crcStep (crcN j s) : Nat)
          rw [← HA.out, crcStep, if_neg hodd]
          simp
        go_wp2
        go_round
        case rel => exact ⟨j + 1, by omega, by go_num, by rw [hs.out]⟩
        case measure => simp [intOf]; omega
    · obtain rfl : j = 8 := by omega
      go_wp2
      go_ret
      exact ⟨rfl, rfl⟩

/-- These bytes can be read at this address. -/
def Seg (w : World) (a : Option Addr) (xs : List UInt8) : Prop :=
  xs = [] ∨ ∃ g o, a = some ⟨g, o, none⟩ ∧ ∀ j, (h : j < xs.length) → w.cell? ⟨g, o + j, none⟩ = some (.int .u8 (xs[j].toNat : Int))

theorem crcL_take (xs : List UInt8) (j s : Nat) (hj : j < xs.length) : crcL (xs.take (j + 1)) s = crcN 8 (crcL (xs.take j) s ^^^ xs[j].toNat) := by
  rw [List.take_succ_eq_append_getElem hj, crcL_append]
  rfl

theorem xor_eq (A y : Nat) (hA : A < 4294967296) (hy : y < 256) : bits .xor .u32 (A : Int) (y : Int) = ((A ^^^ y : Nat) : Int) :=
  u32_xor_nat A y hA (by omega)

theorem not_eq (A : Nat) (h : A < 4294967296) : bits .xor .u32 IntKind.u32.max (A : Int) = ((4294967295 ^^^ A : Nat) : Int) :=
  u32_xor_nat 4294967295 A (by omega) h
theorem ret_int' {k : IntKind} {a b : Int} (h : a = b) : Ending.returned (.int k a) = .returned (.int k b) := by rw [h]

set_option maxHeartbeats 400000 in
theorem sum_any (a : Option Addr) (c : Nat) (xs : List UInt8) (w : World) (hx : Seg w a xs) (hl : xs.length ≤ maxLen) :
    Calls Tryz.prog 46 #[.slice a xs.length c] w fun e w' => e = .returned (.int .u32 (sumN xs)) ∧ w' = w := by
  unfold maxLen at hl
  obtain ⟨k, hk⟩ : ∃ k, k = xs.length := ⟨_, rfl⟩
  have HK : Hid (k = xs.length) := hk
  rw [← hk] at hl ⊢
  clear hk
  go_enter Tryz.func46, Tryz.ntmps46
  go_wp2
  go_loop [3, 8] (fun n i => ∃ j : Nat, j ≤ k ∧ i = .int .i64 j ∧ n = .int .u32 (crcL (xs.take j) 4294967295))
    (fun _ i => k - (intOf i).toNat)
  case atStart => exact ⟨0, Nat.zero_le _, rfl, rfl⟩
  case round =>
    obtain ⟨j, hj, rfl, rfl⟩ := hrel
    by_cases hlt : j < k
    · have hjx : j < xs.length := by have := HK.out; omega
      rcases hx with hx | ⟨g, o, rfl, hcell⟩
      · rw [hx] at hjx; simp at hjx
      · have hc := hcell j hjx
        clear hcell
        have hb := crcL_lt (xs.take j) 4294967295 (by omega)
        have HS : Hid (crcL (xs.take (j + 1)) 4294967295 = crcN 8 (crcL (xs.take j) 4294967295 ^^^ xs[j].toNat)) := crcL_take xs j _ hjx
        have hy := xs[j].toNat_lt
        obtain ⟨A, hA⟩ : ∃ A : Nat, A = crcL (xs.take j) 4294967295 := ⟨_, rfl⟩
        obtain ⟨y, hyy⟩ : ∃ y : Nat, y = xs[j].toNat := ⟨_, rfl⟩
        rw [← hA, ← hyy] at HS
        rw [← hA] at hb ⊢
        rw [← hyy] at hc hy
        clear hA hyy
        have hxo := xor_eq A y hb (by omega)
        have hlt' : A ^^^ y < 4294967296 := Nat.xor_lt_two_pow (n := 32) (by omega) (by omega)
        go_wp2_with (go_at_call 63; refine (sumByte_any _ _ hlt').mono ?_; rintro e w' ⟨rfl, rfl⟩)
        go_round
        case rel => exact ⟨j + 1, by omega, by go_num, by rw [HS.out]⟩
        case measure => simp [intOf]; omega
    · obtain rfl : j = k := by omega
      go_wp2
      go_ret
      refine ⟨ret_int' ?_, rfl⟩
      rw [not_eq _ (crcL_lt _ _ (by omega)), List.take_of_length_le (by have := HK.out; omega)]
      rfl
end Go.Proofs.YtjadpbkhfclldaaGreat
