import Derived.Test.YtonjmknjjdnjkaaFixed
import Derived.Test.YtonjmknjjdnjkaaCrc
namespace Go.Proofs.Ytonjmknjjdnjkaa
open Go.RowKit
set_option linter.unusedVariables false

def pickZ (c n : Int) : Int := (if c < 0 then -(c + 1) else c) % n
theorem pickZ_bd (c n : Int) (h : 0 < n) : 0 ≤ pickZ c n ∧ pickZ c n < n := ⟨Int.emod_nonneg _ (by omega), Int.emod_lt_of_pos _ h⟩

set_option maxHeartbeats 400000 in
theorem pick_any (c n : Int) (w : World) (hn : 0 < n) (hc : -9223372036854775808 ≤ c) (hc' : c ≤ 9223372036854775807) (hn' : n ≤ 9223372036854775807) :
    Calls Try.prog 32 #[.int .i64 c, .int .i64 n] w fun e w' => e = .returned (.int .i64 (pickZ c n)) ∧ w' = w := by
  unfold pickZ
  by_cases h : c < 0
  · rw [if_pos h]
    have h0 : (n == 0) = false := by simp; omega
    go_enter Try.func32, Try.ntmps32
    go_wp2
    go_ret
    refine ⟨ret_int ?_, rfl⟩
    rw [← Int.neg_tmod, Int.tmod_eq_emod_of_nonneg (by omega)]
  · rw [if_neg h]
    have h0 : (n == 0) = false := by simp; omega
    go_enter Try.func32, Try.ntmps32
    go_wp2
    go_ret
    exact ⟨rfl, rfl⟩

theorem ret_bool2 {a b : Bool} (h : a = b) : Ending.returned (.bool a) = .returned (.bool b) := by rw [h]

set_option maxHeartbeats 400000 in
theorem sum_bound (a : Option Addr) (len cap : Nat) (at_ : Int) (mask : Int) (w : World) (hl : len = 0 ∨ 2147483647 < len) (hm : len ≤ maxLen) :
    Calls Try.prog 7 #[.slice a len cap, .int .i64 at_, .int .u32 mask] w fun e w' => e = .returned (.bool true) ∧ Keeps (fun _ => False) w w' := by
  unfold maxLen at hm
  by_cases h0 : len = 0
  · subst h0
    clear hl hm
    go_enter Try.func7, Try.ntmps7
    go_wp2_with fail
    refine (fixed_any _).mono ?_
    rintro e w1 ⟨rfl, hK⟩
    go_wp2_with fail
    refine (fixed_any _).mono ?_
    rintro e w2 ⟨rfl, hK2⟩
    have hK3 := hK.trans hK2 fun _ _ e => e
    clear hK hK2
    go_wp2
    go_ret
    exact ⟨rfl, hK3⟩
  · have h1 : ((len : Int) == 0) = false := by simp; omega
    have h2 : (2147483647 : Int) < (len : Int) := by omega
    clear hl h0
    go_enter Try.func7, Try.ntmps7
    go_wp2_with fail
    refine (fixed_any _).mono ?_
    rintro e w1 ⟨rfl, hK⟩
    go_wp2_with fail
    refine (fixed_any _).mono ?_
    rintro e w2 ⟨rfl, hK2⟩
    have hK3 := hK.trans hK2 fun _ _ e => e
    clear hK hK2
    go_wp2
    go_ret
    exact ⟨rfl, hK3⟩

theorem zeroCells_bytes' (n : Nat) : Builtin.zeroCells (Value.int .u8 0).cells n = (bvs (List.replicate n 0)).toArray := zeroCells_bytes n

/-- append of bytes that can be read onto a nil list: a new block of them, with room. -/
theorem run_append_new {w : World} (a : Option Addr) (cap : Nat) (xs : List UInt8) (hx : Seg w a xs) (h0 : 0 < xs.length) (h47 : xs.length ≤ 140737488355328) :
    ∃ rest : List Value, ∃ W1, (∀ ty, (Builtin.append_ #[38, 38] ty #[.slice none 0 0, .slice a xs.length cap]).run Try.prog w = .ok (.slice (some ⟨w.heap.size, 0, none⟩) xs.length (xs.length + rest.length)) W1) ∧
      Blk W1 w.heap.size (bvs xs ++ rest) 5 ∧ Keeps (fun _ => False) w W1 ∧ xs.length + rest.length ≤ maxLen := by
  obtain ⟨i0, hi, hz0, hz1, hz2⟩ := info_parts Try.info5
  rcases hx with rfl | ⟨g, o, rfl, hc⟩
  · simp at h0
  · have happ := fun ty => run_append_nil (P := Try.prog) w 38 ty 5 i0 (.int .u8 0) Try.underlying38 hi hz0 ⟨g, o, none⟩ xs.length cap (bvs xs) (by rw [bvs_length, hz1, Nat.mul_one]) (by
      intro j v hj
      have hlt : j < xs.length := by
        have := (List.getElem?_eq_some_iff.1 hj).1
        rw [bvs_length] at this
        exact this
      rw [bvs_get xs j hlt] at hj
      rw [addr_add, hc j hlt]
      exact hj) h0 (by omega) (by rw [hz2]; omega)
    have hge := grownCap_ge w xs.length 0 5
    have hle := grownCap_le_maxLen w xs.length 0 5 (by unfold maxLen; omega)
    refine ⟨bvs (List.replicate (grownCap w xs.length 0 5 - xs.length) 0), w.drew.alloc (.cells ((bvs xs).toArray ++ (bvs (List.replicate (grownCap w xs.length 0 5 - xs.length) 0)).toArray) 5), ?_, ?_, ((Keeps.refl _ w).drew).alloc _, ?_⟩
    · intro ty
      rw [replicate_bvs, Nat.add_sub_cancel' hge, happ ty, zeroCells_bytes]
    · have := Blk.new w.drew ((bvs xs).toArray ++ (bvs (List.replicate (grownCap w xs.length 0 5 - xs.length) 0)).toArray) 5
      simpa using this
    · rw [replicate_bvs]; omega

theorem add_xor (m j : Nat) (h : m < 2 ^ j) : m + 2 ^ j = m ^^^ 2 ^ j := by
  refine Nat.eq_of_testBit_eq fun i => ?_
  have e : m + 2 ^ j = 2 ^ j * 1 + m := by omega
  rw [e, Nat.testBit_two_pow_mul_add 1 h i, Nat.testBit_xor, Nat.testBit_two_pow]
  by_cases hi : i < j
  · have : ¬ j = i := by omega
    simp [hi, this]
  · have hz : m.testBit i = false := Nat.testBit_lt_two_pow (Nat.lt_of_lt_of_le h (two_le _ _ (by omega)))
    rw [if_neg hi, hz]
    by_cases hj : j = i
    · subst hj; simp
    · obtain ⟨d, hd⟩ : ∃ d, i - j = d + 1 := ⟨i - j - 1, by omega⟩
      rw [hd]
      simp [hj, Nat.testBit_succ]

theorem step_eq (m j F : Nat) (h : m < 2 ^ j) : m * 2 ^ F ^^^ 2 ^ (F + j) = (m + 2 ^ j) * 2 ^ F := by
  have d := Nat.shiftLeft_xor_distrib (a := m) (b := 2 ^ j) (i := F)
  simp only [Nat.shiftLeft_eq] at d
  rw [add_xor m j h, d, Nat.pow_add, Nat.mul_comm (2 ^ F) (2 ^ j)]

theorem xor_u8 (y t : Nat) (hy : y < 256) (ht : t < 8) : bits .xor .u8 (y : Int) (2 ^ t % 256) = ((UInt8.ofNat (y ^^^ 2 ^ t)).toNat : Int) := by
  have h2 : 2 ^ t < 256 := by
    have h3 : 2 ^ t < 2 ^ 8 := Nat.pow_lt_pow_right (by omega) ht
    exact h3
  have h0 := Nat.two_pow_pos t
  have e : (2 : Int) ^ t % 256 = ((2 ^ t : Nat) : Int) := by
    rw [← pow_int]
    exact Int.emod_eq_of_lt (by omega) (by omega)
  rw [e, u8_xor_nat y (2 ^ t) hy h2, UInt8.toNat_ofNat', Nat.mod_eq_of_lt (xor_lt_byte y t hy ht)]

theorem bvs_set (ys : List UInt8) (rest : List Value) (q : Nat) (u : UInt8) (hq : q < ys.length) : (bvs ys ++ rest).set q (.int .u8 (u.toNat : Int)) = bvs (ys.set q u) ++ rest := by
  rw [List.set_append_left _ _ (by rw [bvs_length]; exact hq)]
  congr 1
  simp [bvs, List.map_set]

set_option maxHeartbeats 1000000 in
theorem sum_main (a : Option Addr) (cap : Nat) (xs : List UInt8) (at_ : Int) (mask : Nat) (w : World) (hx : Seg w a xs) (h0 : 0 < xs.length) (hl : xs.length ≤ 2147483647)
    (ha : -9223372036854775808 ≤ at_ ∧ at_ ≤ 9223372036854775807) (hm : mask < 4294967296) :
    Calls Try.prog 7 #[.slice a xs.length cap, .int .i64 at_, .int .u32 mask] w fun e w' => e = .returned (.bool true) ∧ Keeps (fun _ => False) w w' := by
  obtain ⟨n, hn⟩ : ∃ n, n = xs.length := ⟨_, rfl⟩
  have HN : Hid (n = xs.length) := hn
  have HX : Hid (Seg w a xs) := hx
  have HA : Hid (-9223372036854775808 ≤ at_ ∧ at_ ≤ 9223372036854775807) := ha
  rw [← hn] at h0 hl ⊢
  have h1 : ((n : Int) == 0) = false := by simp; omega
  have h2 : ¬ (2147483647 : Int) < (n : Int) := by omega
  clear hn hx ha
  go_enter Try.func7, Try.ntmps7
  go_wp2_with fail
  refine (fixed_any _).mono ?_
  rintro e w1 ⟨rfl, hK⟩
  have hx1 : Seg w1 a xs := HX.out.kept hK (fun _ _ e => e)
  obtain ⟨rest, W2, happ, hB, hK2, hmx⟩ := run_append_new a cap xs hx1 (by have := HN.out; omega) (by have := HN.out; omega)
  have hx2 : Seg W2 a xs := hx1.kept hK2 (fun _ _ e => e)
  have hK3 := hK.trans hK2 fun _ _ e => e
  have hgl : w.heap.size ≤ w1.heap.size := hK.size
  obtain ⟨g, hg⟩ : ∃ g, g = w1.heap.size := ⟨_, rfl⟩
  rw [← hg] at happ hB hgl
  rw [← HN.out] at happ hmx
  have HP : Hid (∀ ty, _) := happ
  clear happ hx1 hg hK hK2
  have HB : Hid (Blk W2 g (bvs xs ++ rest) 5) := hB
  have HK : Hid (Keeps (fun _ => False) w W2) := hK3
  have HX2 : Hid (Seg W2 a xs) := hx2
  clear hB hK3 hx2
  go_wp2_with (at_builtin; refine wpList_append_run rfl (.tmp 28) (.tmp 29) 38 38 rfl (.slice none 0 0) (.slice a n cap) (.slice (some ⟨g, 0, none⟩) n (n + rest.length)) W2 rfl rfl HP.out ?_)
  refine (pick_any at_ (8 * n) _ (by omega) HA.out.1 HA.out.2 (by omega)).mono ?_
  rintro e w' ⟨rfl, hw'⟩; obtain rfl := hw'.symm
  obtain ⟨F, hF⟩ : ∃ F : Nat, pickZ at_ (8 * n) = (F : Int) := ⟨(pickZ at_ (8 * n)).toNat, by have := (pickZ_bd at_ (8 * n) (by omega)).1; omega⟩
  have hF8 : F < 8 * n := by have := (pickZ_bd at_ (8 * n) (by omega)).2; omega
  rw [hF]
  clear hF
  go_wp2
  go_loopw [9, 10] (fun t i wr => ∃ j m : Nat, ∃ ys : List UInt8, j ≤ 32 ∧ i = .int .i64 j ∧ m < 2 ^ j ∧ ys.length = xs.length ∧ highN ys = highN xs ^^^ m * 2 ^ F ∧ t = .bool (decide (m ≠ 0)) ∧ Blk wr g (bvs ys ++ rest) 5 ∧ Keeps (fun _ => False) w wr)
    (fun _ i _ => 32 - (intOf i).toNat)
  case atStart => exact ⟨0, 0, xs, by omega, rfl, by omega, rfl, by simp, rfl, HB.out, HK.out⟩
  case round =>
    obtain ⟨j, m, ys, hj, rfl, hmj, hyl, hyh, rfl, hB, hKr⟩ := hrel
    have HB : Hid (Blk wr g (bvs ys ++ rest) 5) := hB
    have HK : Hid (Keeps (fun _ => False) w wr) := hKr
    have HY : Hid (ys.length = xs.length ∧ highN ys = highN xs ^^^ m * 2 ^ F) := ⟨hyl, hyh⟩
    have HM : Hid (m < 2 ^ j) := hmj
    clear hB hKr hyl hyh hmj
    by_cases hlt : (j : Int) < 32
    · by_cases hbit : mask / 2 ^ j % 2 = 1
      · have hd : (bits .and .u32 ((mask : Int) / 2 ^ j) 1 == 1) = true := by
          rw [cast_div]
          have := odd_eq (mask / 2 ^ j) (Nat.lt_of_le_of_lt (Nat.div_le_self _ _) hm)
          rw [this, hbit]; rfl
        by_cases hin : (F : Int) + (j : Int) < 8 * (n : Int)
        · have hq : (F + j) / 8 < ys.length := by have := HY.out.1; have := HN.out; omega
          have hc := HB.out.cell (i := (F + j) / 8) (v := .int .u8 (ys[(F + j) / 8].toNat : Int)) (by
            rw [List.getElem?_append_left (by rw [bvs_length]; exact hq)]
            exact bvs_get ys _ hq)
          have hf := HB.out.frozen ((F + j) / 8)
          obtain ⟨y, hy⟩ : ∃ y : Nat, y = ys[(F + j) / 8].toNat := ⟨_, rfl⟩
          rw [← hy] at hc
          have HYY : Hid (y = ys[(F + j) / 8].toNat) := hy
          clear hy
          go_wp2
          go_roundw
          case rel =>
            have hy := ys[(F + j) / 8].toNat_lt
            refine ⟨j + 1, m + 2 ^ j, ys.set ((F + j) / 8) (UInt8.ofNat (ys[(F + j) / 8].toNat ^^^ 2 ^ ((F + j) % 8))), by omega, by go_num, ?_, ?_, ?_, ?_, ?_, ?_⟩
            · have := HM.out; rw [Nat.pow_succ]; omega
            · rw [List.length_set]; exact HY.out.1
            · rw [highN_flip ys _ _ (by omega) hq, HY.out.2, Nat.xor_assoc, show 8 * ((F + j) / 8) + (F + j) % 8 = F + j by omega, step_eq m j F HM.out]
            · have := Nat.two_pow_pos j
              have h5 : m + 2 ^ j ≠ 0 := by omega
              rw [decide_eq_true h5]
            · rw [xor_u8 y _ (by rw [HYY.out]; exact hy) (by omega), HYY.out, ← bvs_set ys rest _ _ hq]
              exact HB.out.setCell _ _
            · exact HK.out.setCell _ _ fun h => by
                have : g < w.heap.size := h
                omega
          case measure => simp [intOf]; omega
        · go_wp2
          go_roundw
          case rel => exact ⟨j + 1, m, ys, by omega, by go_num, Nat.lt_of_lt_of_le HM.out (two_le _ _ (by omega)), HY.out.1, HY.out.2, rfl, HB.out, HK.out⟩
          case measure => simp [intOf]; omega
      · have hd : (bits .and .u32 ((mask : Int) / 2 ^ j) 1 == 1) = false := by
          rw [cast_div]
          have := odd_eq (mask / 2 ^ j) (Nat.lt_of_le_of_lt (Nat.div_le_self _ _) hm)
          rw [this]
          have h3 : mask / 2 ^ j % 2 = 0 := by omega
          rw [h3]; rfl
        go_wp2
        go_roundw
        case rel => exact ⟨j + 1, m, ys, by omega, by go_num, Nat.lt_of_lt_of_le HM.out (two_le _ _ (by omega)), HY.out.1, HY.out.2, rfl, HB.out, HK.out⟩
        case measure => simp [intOf]; omega
    · obtain rfl : j = 32 := by omega
      have hSx : Seg wr a xs := HX.out.kept HK.out (fun _ _ e => e)
      have hSy : Seg wr (some ⟨g, 0, none⟩) ys := .inr ⟨g, 0, rfl, fun i hi => HB.out.cell (by
        rw [Nat.zero_add, List.getElem?_append_left (by rw [bvs_length]; exact hi)]
        exact bvs_get ys i hi)⟩
      have hlx : xs.length ≤ maxLen := by have := HN.out; unfold maxLen; omega
      have hX := fun c => sum_any a c xs wr hSx hlx
      have hY := fun c => sum_any (some ⟨g, 0, none⟩) c ys wr hSy (by rw [HY.out.1]; exact hlx)
      rw [HY.out.1, ← HN.out] at hY
      rw [← HN.out] at hX
      have hT := sum_turn xs ys m F HY.out.1 HM.out (by rw [← HN.out]; omega) HY.out.2
      obtain ⟨A, hA⟩ : ∃ A, A = sumN xs := ⟨_, rfl⟩
      obtain ⟨B, hBB⟩ : ∃ B, B = sumN ys := ⟨_, rfl⟩
      rw [← hA, ← hBB] at hT
      rw [← hA] at hX
      rw [← hBB] at hY
      have HX3 : Hid (∀ c, _) := hX
      have HY3 : Hid (∀ c, _) := hY
      have HT : Hid (A = B ↔ m = 0) := hT
      clear hX hY hT hA hBB hSx hSy hlx
      go_wp2_with fail
      refine (HX3.out _).mono ?_
      rintro e w' ⟨rfl, hw'⟩; obtain rfl := hw'.symm
      go_wp2_with fail
      refine (HY3.out _).mono ?_
      rintro e w' ⟨rfl, hw'⟩; obtain rfl := hw'.symm
      go_wp2_with fail
      refine (HX3.out _).mono ?_
      rintro e w' ⟨rfl, hw'⟩; obtain rfl := hw'.symm
      go_wp2
      go_ret
      refine ⟨ret_bool2 ?_, HK.out⟩
      by_cases e : m = 0
      · have h5 := HT.out.2 e
        subst h5
        simp [e]
      · have h5 : ¬ ((A : Int) = (B : Int)) := fun h => e (HT.out.1 (by omega))
        have h6 : ((A : Int) != (B : Int)) = true := by simpa using h5
        rw [h6]
        simp [e]
end Go.Proofs.Ytonjmknjjdnjkaa
