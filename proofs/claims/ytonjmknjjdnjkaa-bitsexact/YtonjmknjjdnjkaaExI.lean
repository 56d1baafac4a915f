import Derived.Test.YtonjmknjjdnjkaaExH
namespace Go.Proofs.Ytonjmknjjdnjkaa
open Go.RowKit
set_option linter.unusedVariables false

theorem not_eq' (A : Nat) (h : A < 4294967296) : bits .xor .u32 (A : Int) 4294967295 = ((4294967295 ^^^ A : Nat) : Int) := by
  rw [Nat.xor_comm]
  exact u32_xor_nat A 4294967295 h (by omega)

set_option maxHeartbeats 1000000 in
theorem refSum_any (a : Option Addr) (c : Nat) (xs : List UInt8) (w : World) (hx : Seg w a xs) (hl : xs.length ≤ maxLen) :
    Calls Try.prog 59 #[.slice a xs.length c] w fun e w' => e = .returned (.int .u32 (sumN xs)) ∧ w' = w := by
  unfold maxLen at hl
  obtain ⟨n, hn⟩ : ∃ n, n = xs.length := ⟨_, rfl⟩
  have HN : Hid (n = xs.length) := hn
  have HX : Hid (Seg w a xs) := hx
  rw [← hn] at hl ⊢
  clear hn hx
  go_enter Try.func59, Try.ntmps59
  go_wp2
  go_loop [3, 4, 5, 6] (fun s i k o => ∃ j : Nat, j ≤ n ∧ i = .int .i64 j ∧ s = .int .u32 ((crcL (xs.take j) 4294967295 : Nat) : Int)) (fun _ i _ _ => n - (intOf i).toNat)
  case atStart => exact ⟨0, by omega, rfl, rfl⟩
  case round =>
    obtain ⟨j, hj, rfl, rfl⟩ := hrel
    by_cases hlt : j < n
    · have hjx : j < xs.length := by have := HN.out; omega
      rcases HX.out with hs | ⟨g, o, rfl, hcell⟩
      · rw [hs] at hjx; simp at hjx
      have hc := hcell j hjx
      have hS := crcL_lt (xs.take j) 4294967295 (by omega)
      have hstep : Hid (_ = _) := crcL_take xs j 4294967295 hjx
      have hxx := xor_eq (crcL (xs.take j) 4294967295) (xs[j]).toNat hS (xs[j]).toNat_lt
      have hS2 := xor_byte_lt (crcL (xs.take j) 4294967295) (xs[j]) hS
      obtain ⟨A, hA⟩ : ∃ A, A = crcL (xs.take j) 4294967295 := ⟨_, rfl⟩
      obtain ⟨X, hX⟩ : ∃ X, X = (xs[j]).toNat := ⟨_, rfl⟩
      obtain ⟨B, hB⟩ : ∃ B, B = A ^^^ X := ⟨_, rfl⟩
      rw [← hA, ← hX, ← hB] at hxx
      rw [← hA, ← hX, ← hB] at hS2
      rw [← hA, ← hX, ← hB] at hstep
      rw [← hX] at hc
      rw [← hA]
      have HS2 : Hid (True ∧ B < 4294967296) := ⟨trivial, hS2⟩
      have hX32 : (X : Int) % 4294967296 = X := by
        have := (xs[j]).toNat_lt
        omega
      clear hcell hS hA hX hB hS2
      go_wp2
      clear hxx hX32
      go_loop [3, 5, 6] (fun s k o => ∃ m : Nat, m ≤ 8 ∧ k = .int .i64 m ∧ s = .int .u32 ((crcN m B : Nat) : Int)) (fun _ k _ => 8 - (intOf k).toNat)
      case atStart => exact ⟨0, by omega, rfl, rfl⟩
      case round =>
        obtain ⟨m, hm, rfl, rfl⟩ := hrel
        by_cases hm8 : m < 8
        · have hSm := crcN_lt m B HS2.out.2
          have ho := odd_eq (crcN m B) hSm
          have ht := turn_eq (crcN m B) hSm
          have hs1 : crcN (m + 1) B = crcStep (crcN m B) := rfl
          unfold crcStep at hs1
          obtain ⟨D, hD⟩ : ∃ D, D = crcN m B := ⟨_, rfl⟩
          rw [← hD] at ho ht hs1
          rw [← hD]
          clear hD hSm
          by_cases h1 : D % 2 = 1
          · rw [if_pos h1] at hs1
            rw [h1] at ho
            have HT : Hid (_ = _) := ht
            have HS1 : Hid (_ = _) := hs1
            clear h1 hs1 ht
            go_wp2
            go_round
            case rel => exact ⟨m + 1, by omega, by go_num, by rw [HS1.out, ← HT.out]⟩
            case measure => simp [intOf]; omega
          · have h0 : D % 2 = 0 := by omega
            rw [if_neg h1] at hs1
            rw [h0] at ho
            have HS1 : Hid (_ = _) := hs1
            clear h1 h0 hs1 ht
            go_wp2
            go_round
            case rel => exact ⟨m + 1, by omega, by go_num, by rw [HS1.out]; simp⟩
            case measure => simp [intOf]; omega
        · obtain rfl : m = 8 := by omega
          go_wp2
          go_round
          case rel => exact ⟨j + 1, by omega, by go_num, by rw [hstep.out]⟩
          case measure => simp [intOf]; omega
    · obtain rfl : j = n := by omega
      have hall : xs.take j = xs := List.take_of_length_le (by have := HN.out; omega)
      rw [hall]
      have hS := crcL_lt xs 4294967295 (by omega)
      have hfin := not_eq' _ hS
      have HF : Hid (_ = _) := hfin
      obtain ⟨A, hA⟩ : ∃ A, A = crcL xs 4294967295 := ⟨_, rfl⟩
      have HA : Hid (A = crcL xs 4294967295) := hA
      rw [← hA] at HF
      rw [← hA]
      clear hfin hS hall hA
      go_wp2
      go_ret
      exact ⟨ret_int' (by rw [HF.out, HA.out]; rfl), rfl⟩

set_option maxHeartbeats 400000 in
theorem refNewReader_any (a : Option Addr) (c : Nat) (xs : List UInt8) (w : World) (hx : Seg w a xs) (hl : xs.length ≤ 35184372088832) :
    Calls Try.prog 47 #[.slice a xs.length c] w fun e w' => e = .returned (.pointer (some ⟨w.heap.size, 0, none⟩)) ∧ ∃ v', RR w' w.heap.size v' xs 0 0 ∧ (∀ k, v'.ownBlock = some k → w.heap.size ≤ k) ∧ Keeps (fun _ => False) w w' := by
  obtain ⟨W1, hW⟩ : ∃ W1, W1 = w.alloc (.cells #[.slice none 0 0, .int .i64 0, .int .i64 0] 97) := ⟨_, rfl⟩
  have hK1 : Keeps (fun _ => False) w W1 := by rw [hW]; exact (Keeps.refl _ w).alloc _
  have hB1 : Blk W1 w.heap.size [.slice none 0 0, .int .i64 0, .int .i64 0] 97 := by rw [hW]; exact Blk.new w _ 97
  have hsz : W1.heap.size = w.heap.size + 1 := by rw [hW]; simp
  have hs1 : Seg W1 a xs := hx.kept hK1 (fun _ _ e => e)
  obtain ⟨v', W2, happ, hown, hG⟩ := append_seg (w := W1) (.slice none 0 0) 0 c [] (World.ownsRow_nil _ _ _ _) a xs hs1 (by omega)
  obtain ⟨hnew, hK2⟩ := hG.new
  obtain ⟨a', c', rfl, _, _⟩ := own_slice hown
  have hB2 : Blk W2 w.heap.size _ 97 := hB1.kept hK2 (fun e => e)
  have hB3 := hB2.setCell 0 (.slice a' (0 + xs.length) c')
  have c0 := hB1.cell (i := 0) rfl
  have d0 := hB2.cell (i := 0) rfl
  have f0 := hB2.frozen 0
  have hne : (Value.slice a' (0 + xs.length) c').ownBlock ≠ some w.heap.size := by
    intro e
    have := hnew _ e
    omega
  rw [Nat.zero_add, List.nil_append] at hown
  rw [Nat.zero_add] at happ hB3 hne hnew
  have fin : RR (W2.setCell ⟨w.heap.size, 0, none⟩ (.slice a' xs.length c')) w.heap.size (.slice a' xs.length c') xs 0 0 := ⟨hB3, owns_set hown hne, hne, Nat.zero_le _⟩
  have HF : Hid (RR _ _ _ _ _ _) := fin
  have HNW : Hid (∀ k, (Value.slice a' xs.length c').ownBlock = some k → w.heap.size ≤ k) := fun k hk => by have := hnew k hk; omega
  have HK : Hid (Keeps (fun _ => False) w (W2.setCell ⟨w.heap.size, 0, none⟩ (.slice a' xs.length c'))) := (hK1.trans hK2 fun _ _ e => e).setCell _ _ fun h => by
    have : w.heap.size < w.heap.size := h
    omega
  obtain ⟨n, hnn⟩ : ∃ n, n = xs.length := ⟨_, rfl⟩
  rw [← hnn] at happ HF HNW HK ⊢
  rw [hW] at happ c0
  have HAP : Hid (∀ ty, _) := happ
  clear hnn happ hW hs1 hB1 hB2 hB3 hK1 hK2 hG hown hne hnew fin hsz
  go_enter Try.func47, Try.ntmps47
  go_wp2_with (at_builtin; go_must (refine wpList_append_run rfl (.tmp 10) (.tmp 11) 38 38 rfl (.slice none 0 0) (.slice a n c) (.slice a' n c') W2 rfl rfl HAP.out ?_))
  go_ret
  exact ⟨rfl, _, HF.out, HNW.out, HK.out⟩
end Go.Proofs.Ytonjmknjjdnjkaa
