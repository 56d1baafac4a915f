import Derived.Test.YtonjmknjjdnjkaaWalkA
import Derived.Test.YtonjmknjjdnjkaaWalkF
import Derived.Lib.SlBytesConst
namespace Go.Proofs.Ytonjmknjjdnjkaa
open Go.RowKit
set_option linter.unusedVariables false

theorem fx_field (w : World) : Calls Try.prog 18 #[.int .u32 305419896, .int .i64 8, .int .i64 12] w fun e w' => e = .returned (.tuple #[.int .u32 1110, .int .i64 0]) ∧ Keeps (fun _ => False) w w' :=
  (field_yes 305419896 8 12 w (by omega) (by omega) (by omega)).mono fun e w' ⟨h1, k, h2⟩ => ⟨h1, h2 ▸ (Keeps.refl _ w).drewN k⟩
theorem fx_put (w : World) : Calls Try.prog 17 #[.int .u32 4294967295, .int .i64 4, .int .i64 8, .int .u32 18] w fun e w' => e = .returned (.tuple #[.int .u32 4294963503, .int .i64 0]) ∧ Keeps (fun _ => False) w w' :=
  (put_yes 4294967295 4 8 18 w (by omega) (by omega) (by omega) (by decide)).mono fun e w' ⟨h1, k, h2⟩ => ⟨h1, h2 ▸ (Keeps.refl _ w).drewN k⟩
theorem fx_signed (w : World) : Calls Try.prog 20 #[.int .u32 131072, .int .i64 18] w fun e w' => e = .returned (.tuple #[.int .i64 (-131072), .int .i64 0]) ∧ w' = w :=
  signed_hi' 131072 18 w (by omega) (by omega) (by decide) (by decide) (by decide) (by decide) (by omega)
theorem fx_unsigned (w : World) : Calls Try.prog 19 #[.int .i64 (-1), .int .i64 18] w fun e w' => e = .returned (.tuple #[.int .u32 262143, .int .i64 0]) ∧ w' = w :=
  unsigned_yes (-1) 18 w (by omega) (by omega) (by decide) (by decide) (by decide) (by decide)
theorem fx_sum : sumN [49, 50, 51, 52, 53, 54, 55, 56, 57] = 3421780262 := by decide +kernel

theorem fx_sumc (w0 : World) : Calls Try.prog 38 #[.slice (some ⟨w0.heap.size, 0, none⟩) 9 9] (w0.alloc (.cells #[.int .u8 49, .int .u8 50, .int .u8 51, .int .u8 52, .int .u8 53, .int .u8 54, .int .u8 55, .int .u8 56, .int .u8 57] 5 (9, 10))) fun e w' => e = .returned (.int .u32 3421780262) ∧ Keeps (fun _ => False) w0 w' := by
  have h := sum_any (some ⟨w0.heap.size, 0, none⟩) 9 [49, 50, 51, 52, 53, 54, 55, 56, 57] (w0.alloc (.cells #[.int .u8 49, .int .u8 50, .int .u8 51, .int .u8 52, .int .u8 53, .int .u8 54, .int .u8 55, .int .u8 56, .int .u8 57] 5 (9, 10))) (.inr ⟨_, _, rfl, fun j hj => by
    have hb := heap_alloc_new w0 (.cells #[.int .u8 49, .int .u8 50, .int .u8 51, .int .u8 52, .int .u8 53, .int .u8 54, .int .u8 55, .int .u8 56, .int .u8 57] 5 (9, 10))
    simp only [World.cell?, hb]
    match j, hj with
    | 0, _ => rfl
    | 1, _ => rfl
    | 2, _ => rfl
    | 3, _ => rfl
    | 4, _ => rfl
    | 5, _ => rfl
    | 6, _ => rfl
    | 7, _ => rfl
    | 8, _ => rfl⟩) (by decide)
  rw [fx_sum] at h
  exact h.mono fun e w' ⟨h1, h2⟩ => ⟨h1, h2 ▸ (Keeps.refl _ w0).alloc _⟩

theorem fx_new (w : World) : Calls Try.prog 22 #[] w fun e w' => ∃ b, e = .returned (.pointer (some ⟨b, 0, none⟩)) ∧ w.heap.size ≤ b ∧ Wr w' b none [] ∧ Keeps (fun _ => False) w w' :=
  (newWriter_any w).mono fun e w' ⟨h1, h2⟩ => ⟨_, h1, Nat.le_refl _, ⟨rfl, h2 ▸ Blk.new w _ 110⟩, h2 ▸ (Keeps.refl _ w).alloc _⟩

theorem fx_bytes : ([] : List UInt8) ++ lowB 1 7 ++ (lowB 4 (ByteArray.size ⟨#[97, 98]⟩) ++ (ByteArray.mk #[97, 98]).data.toList) = [7, 2, 0, 0, 0, 97, 98] := by decide +kernel

theorem seg_of_blk {w : World} {g : Nat} {xs : List UInt8} (h : Blk w g (bvs xs) 5) : Seg w (some ⟨g, 0, none⟩) xs :=
  .inr ⟨g, 0, rfl, fun j hj => h.cell (by rw [Nat.zero_add]; exact bvs_get xs j hj)⟩

theorem fx_r8 (r q : Nat) (w : World) (h : Rd w r q [7, 2, 0, 0, 0, 97, 98] 0 0) : Calls Try.prog 41 #[.pointer (some ⟨r, 0, none⟩)] w fun e w' => e = .returned (.int .u8 7) ∧ Rd w' r q [7, 2, 0, 0, 0, 97, 98] 1 0 ∧ Keeps (· = r) w w' :=
  rU8_any r q 0 0 _ w h
theorem fx_t1 : txtV [7, 2, 0, 0, 0, 97, 98] 1 0 2 = [97, 98] := by decide +kernel
theorem fx_t2 : txtP [7, 2, 0, 0, 0, 97, 98] 1 0 2 = 7 := by decide +kernel
theorem fx_t3 : txtE [7, 2, 0, 0, 0, 97, 98] 1 0 2 = 0 := by decide +kernel
theorem fx_rt (r q : Nat) (w : World) (h : Rd w r q [7, 2, 0, 0, 0, 97, 98] 1 0) : Calls Try.prog 33 #[.pointer (some ⟨r, 0, none⟩), .int .i64 2] w fun e w' => e = .returned (.string ⟨#[97, 98]⟩) ∧ Rd w' r q [7, 2, 0, 0, 0, 97, 98] 7 0 ∧ Keeps (· = r) w w' := by
  have := rText_any r q 1 0 2 _ w h
  rw [fx_t1, fx_t2, fx_t3] at this
  exact this
theorem fx_re (r q : Nat) (w : World) (h : Rd w r q [7, 2, 0, 0, 0, 97, 98] 7 0) : Calls Try.prog 29 #[.pointer (some ⟨r, 0, none⟩)] w fun e w' => e = .returned (.int .i64 0) ∧ w' = w :=
  rEnd_any r q 7 0 _ w h

set_option maxHeartbeats 400000 in
theorem fixed_any (w : World) :
    Calls Try.prog 8 #[] w fun e w' => e = .returned (.bool true) ∧ Keeps (fun _ => False) w w' := by
  have kc := fun (w : World) (C : Array Value) (n c : Nat) => Lib.run_convert_bytes_const (P := Try.prog) w 38 5 C n c Try.underlying38 Try.underlying5
  go_enter Try.func8, Try.ntmps8
  go_wp2_with fail
  refine (fx_field _).mono ?_
  rintro e w1 ⟨rfl, hK1⟩
  go_wp2_with fail
  refine (fx_put _).mono ?_
  rintro e w2 ⟨rfl, hK2⟩
  have hK := hK1.trans hK2 fun _ _ e => e
  clear hK1 hK2
  go_wp2_with fail
  refine (fx_signed _).mono ?_
  rintro e w' ⟨rfl, hw'⟩; obtain rfl := hw'.symm
  go_wp2_with fail
  refine (fx_unsigned _).mono ?_
  rintro e w' ⟨rfl, hw'⟩; obtain rfl := hw'.symm
  go_wp2_with fail
  refine (fx_sumc _).mono ?_
  rintro e w3 ⟨rfl, hK3⟩
  have hK4 := hK.trans hK3 fun _ _ e => e
  clear hK hK3
  go_wp2_with fail
  refine (fx_new _).mono ?_
  rintro e w4 ⟨b, rfl, hbl, hw, hK5⟩
  have hK6 := hK4.trans hK5 fun _ _ e => e
  have hbl' : w.heap.size ≤ b := Nat.le_trans hK4.size hbl
  clear hK4 hK5 hbl
  go_wp2_with fail
  refine (wU8_any b 7 none [] _ hw (by decide) (by decide)).mono ?_
  rintro e w5 ⟨rfl, g5, hw5, hf5, hK7⟩
  clear hw
  go_wp2_with fail
  refine (wText_any b ⟨#[97, 98]⟩ (some g5) _ _ hw5 (by decide) (by decide)).mono ?_
  rintro e w6 ⟨rfl, g6, hw6, hf6, hK8⟩
  rw [fx_bytes] at hw6
  clear hw5
  go_wp2_with fail
  refine (wOut_any b (some g6) _ _ hw6 (by decide)).mono ?_
  rintro e w7 ⟨rfl, hB7, hK9⟩
  have hK10 : Keeps (fun _ => False) w w7 := by
    have a1 : Keeps (fun _ => False) w w5 := hK6.trans hK7 fun k hk h => by
      rcases h with h | h
      · omega
      · cases h
    have a2 : Keeps (fun _ => False) w w6 := a1.trans hK8 fun k hk h => by
      have := hK6.size
      rcases h with h | h
      · omega
      · have : k = g5 := by simpa using h
        rcases hf5 with h' | h'
        · cases h'
        · omega
    exact a2.trans hK9 fun _ _ e => e
  clear hK6 hK7 hK8 hK9 hf5 hf6 hw6
  go_wp2_with fail
  refine (newReader_any (some ⟨w6.heap.size, 0, none⟩) 7 [7, 2, 0, 0, 0, 97, 98] _ (seg_of_blk hB7) (by decide)).mono ?_
  rintro e w8 ⟨rfl, hR, hK11⟩
  have hK12 := hK10.trans hK11 fun _ _ e => e
  have hrl : w.heap.size ≤ w7.heap.size := hK10.size
  obtain ⟨r, hr⟩ : ∃ r, r = w7.heap.size + 1 := ⟨_, rfl⟩
  obtain ⟨q, hq⟩ : ∃ q, q = w7.heap.size := ⟨_, rfl⟩
  rw [← hr, ← hq] at hR
  rw [← hr]
  have hr' : w.heap.size ≤ r := by omega
  clear hK10 hK11 hB7 hr hq hrl
  go_wp2_with fail
  refine (fx_r8 r q _ hR).mono ?_
  rintro e w9 ⟨rfl, hR9, hK13⟩
  go_wp2_with fail
  refine (fx_rt r q _ hR9).mono ?_
  rintro e w10 ⟨rfl, hR10, hK14⟩
  have hK15 : Keeps (fun _ => False) w w10 := (hK12.trans hK13 fun k hk h => by omega).trans hK14 fun k hk h => by omega
  clear hK12 hK13 hK14 hR hR9
  go_wp2_with (go_at_call 29; refine (fx_re r q _ hR10).mono ?_; rintro e w' ⟨rfl, hw'⟩; obtain rfl := hw'.symm)
  go_ret
  exact ⟨rfl, hK15⟩
end Go.Proofs.Ytonjmknjjdnjkaa
