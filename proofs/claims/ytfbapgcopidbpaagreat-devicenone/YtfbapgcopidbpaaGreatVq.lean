import Derived.Test.YtfbapgcopidbpaaGreatVm
namespace Go.Proofs.YtfbapgcopidbpaaGreat
open Go.RowKit Go.Shelf
open Mq (SegW wvs wvs_length wvs_get run_make_words run_copy_wb segW_of_blk Mm lay)
set_option linter.unusedVariables false
set_option maxRecDepth 8000
set_option linter.unusedSimpArgs false
theorem output_nil (mv : Value) (p : Int) (w : World) : Calls Tryz.prog 8 #[.pointer none, mv, .int .i64 p] w fun e w' => e = .returned (.tuple #[.int .i64 0, .int .i64 3]) ∧ Keeps (fun _ => False) w w' := by
 obtain ⟨W, hW⟩ : ∃ W, W = w.alloc (.cells #[.int .i64 p] 3) := ⟨_, rfl⟩
 obtain ⟨B, hB⟩ : ∃ B, B = w.heap.size := ⟨_, rfl⟩
 have HK : Hid (Keeps (fun _ => False) w W) := by rw [hW]; exact (Keeps.refl _ _).alloc _
 have HC : Hid (Calls Tryz.prog 17 #[.pointer none, mv, .slice (some ⟨B, 0, none⟩) 1 1] W fun e w' => e = .returned (.int .i64 3) ∧ w' = W) := fits_nild _ _ _
 go_enter Tryz.func8, Tryz.ntmps8
 go_wp2_with fail
 rw [← hW, ← hB]
 clear hW hB
 refine HC.out.mono ?_
 rintro e w1 ⟨rfl, rfl⟩
 go_wp2
 go_ret2
 exact ⟨rfl, HK.out⟩
theorem begin_nil (mv sv : Value) (w : World) : Calls Tryz.prog 11 #[.pointer none, mv, sv] w fun e w' => e = .returned (.int .i64 3) ∧ Keeps (fun _ => False) w w' := by
 have HC : Hid (Calls Tryz.prog 17 #[.pointer none, mv, sv] w fun e w' => e = .returned (.int .i64 3) ∧ w' = w) := fits_nild _ _ _
 go_enter Tryz.func11, Tryz.ntmps11
 go_wp2_with fail
 refine HC.out.mono ?_
 rintro e w1 ⟨rfl, rfl⟩
 go_wp2
 go_ret
 exact ⟨rfl, Keeps.refl _ _⟩
theorem feeds_nil (w : World) : Calls Tryz.prog 12 #[.pointer none] w fun e w' => e = .returned (.slice none 0 0) ∧ Keeps (fun _ => False) w w' := by
 go_enter Tryz.func12, Tryz.ntmps12
 go_wp2
 go_ret
 exact ⟨rfl, Keeps.refl _ _⟩
set_option maxHeartbeats 2000000 in
theorem deviceNone_of (hof : ∀ (x : Cfg) (w : World) (N : Nat), x.In w N → N ≤ w.heap.size → Calls Tryz.prog 9 #[x.v] w (OfP x w)) (w : World) :
  Calls Tryz.prog 3 #[] w fun e w' => e = .returned (.bool true) ∧ Keeps (fun _ => False) w w' := by
 have HF : Hid (∀ (x : Cfg) (w : World) (N : Nat), x.In w N → N ≤ w.heap.size → Calls Tryz.prog 9 #[x.v] w (OfP x w)) := hof
 clear hof
 have HC : Hid (Calls Tryz.prog 6 #[.int .i64 1] w fun e w' => e = .returned (.tuple #[.pointer (some ⟨w.heap.size + 1, 0, none⟩), .int .i64 0]) ∧ Mm w' (w.heap.size + 1) w.heap.size (List.replicate 16 0) ∧ Keeps (fun _ => False) w w') := Mq.new_in 1 w (by decide) (by decide)
 go_enter Tryz.func3, Tryz.ntmps3
 go_wp2_with fail
 refine HC.out.mono ?_
 rintro e w1 ⟨rfl, _, hK1⟩
 obtain ⟨G, hG⟩ : ∃ G, G = w.heap.size := ⟨_, rfl⟩
 rw [← hG]
 have HK1 : Hid (Keeps (fun _ => False) w w1) := hK1
 clear hG HC hK1
 have HC : Hid (Calls Tryz.prog 7 #[.pointer none, .int .i64 0, .int .i64 0, .int .u32 0] w1 fun r w' => r = .returned (.tuple #[.int .i64 0, .int .u32 0]) ∧ w' = w1) := input_nil _ _ _ _
 go_wp2_with fail
 refine HC.out.mono ?_
 rintro e w2 ⟨rfl, rfl⟩
 clear HC
 have HC : Hid (Calls Tryz.prog 8 #[.pointer none, .pointer (some ⟨G + 1, 0, none⟩), .int .i64 0] w2 fun e w' => e = .returned (.tuple #[.int .i64 0, .int .i64 3]) ∧ Keeps (fun _ => False) w2 w') := output_nil _ _ _
 go_wp2_with fail
 refine HC.out.mono ?_
 rintro e w3 ⟨rfl, hK3⟩
 have HK3 : Hid (Keeps (fun _ => False) w w3) := HK1.out.trans hK3 fun _ _ h => h
 clear HC hK3
 have HC : Hid (Calls Tryz.prog 10 #[] w3 fun e w' => ∃ b1 b2 b3 b4, e = .returned (smC b1 b2 b3 b4).v ∧ (smC b1 b2 b3 b4).In w' w'.heap.size ∧ Keeps (fun _ => False) w3 w') := small_any w3
 go_wp2_with fail
 refine HC.out.mono ?_
 rintro e w4 ⟨b1, b2, b3, b4, rfl, hin, hK4⟩
 have HK4 : Hid (Keeps (fun _ => False) w w4) := HK3.out.trans hK4 fun _ _ h => h
 clear HC hK4
 obtain ⟨x, hx⟩ : ∃ x, x = smC b1 b2 b3 b4 := ⟨_, rfl⟩
 rw [← hx] at hin ⊢
 have HX : Hid (x.ps.length = 1 ∧ x.mayB = true) := by rw [hx]; exact ⟨rfl, (chk_n.1 (smC_chk b1 b2 b3 b4)).fit.1⟩
 have HC : Hid (Calls Tryz.prog 9 #[x.v] w4 (OfP x w4)) := HF.out x w4 w4.heap.size hin (Nat.le_refl _)
 clear hx hin
 go_wp2_with fail
 refine HC.out.mono ?_
 rintro e w5 ⟨hK5, ⟨hm, _⟩ | ⟨hm, c1, c2, F, Gc, T, D, rfl, _, _, _⟩⟩
 ·
  exact absurd hm (by rw [HX.out.2]; decide)
 rw [HX.out.1]
 obtain ⟨Z, hZ⟩ : ∃ Z, Z = rtAt x (rtB x (16 * x.kernel)) 1 / 16 := ⟨_, rfl⟩
 rw [← hZ]
 obtain ⟨Y, hY⟩ : ∃ Y, Y = 16 * x.kernel := ⟨_, rfl⟩
 rw [← hY]
 have HK5 : Hid (Keeps (fun _ => False) w w5) := HK4.out.trans hK5 fun _ _ h => h
 clear HC hm hK5 hZ hY
 obtain ⟨A, hA⟩ : ∃ A, A = w5.heap.size := ⟨_, rfl⟩
 obtain ⟨W6, hW6⟩ : ∃ W6, W6 = w5.alloc (.cells #[.int .i64 Y, .slice (some ⟨c1, 0, none⟩) 1 1, .slice (some ⟨c2, 0, none⟩) x.hs.length x.hs.length, .int .i64 Z] 35) := ⟨_, rfl⟩
 have HK6 : Hid (Keeps (fun _ => False) w W6 ∧ Blk W6 A [.int .i64 Y, .slice (some ⟨c1, 0, none⟩) 1 1, .slice (some ⟨c2, 0, none⟩) x.hs.length x.hs.length, .int .i64 Z] 35) := by rw [hW6, hA]; exact ⟨HK5.out.alloc _, Blk.new _ _ _⟩
 go_upto_region 6 with fail
 rw [← hW6, ← hA]
 clear hW6 hA
 have HC : Hid (Calls Tryz.prog 11 #[.pointer none, .pointer (some ⟨G + 1, 0, none⟩), .slice none 0 0] W6 fun e w' => e = .returned (.int .i64 3) ∧ Keeps (fun _ => False) W6 w') := begin_nil _ _ _
 go_wp2_with fail
 refine HC.out.mono ?_
 rintro e w7 ⟨rfl, hK7⟩
 have HK7 : Hid (Keeps (fun _ => False) W6 w7) := hK7
 clear HC hK7
 have HC : Hid (Calls Tryz.prog 12 #[.pointer none] w7 fun e w' => e = .returned (.slice none 0 0) ∧ Keeps (fun _ => False) w7 w') := feeds_nil _
 go_wp2_with fail
 refine HC.out.mono ?_
 rintro e w8 ⟨rfl, hK8⟩
 have HK8 : Hid (Keeps (fun _ => False) W6 w8) := HK7.out.trans hK8 fun _ _ h => h
 have l1 := (HK6.out.2.kept HK8.out fun h => h).cell (i := 1) rfl
 clear HC hK8
 have HC : Hid (Calls Tryz.prog 13 #[] w8 (AwP w8)) := awake_any w8
 go_wp2_with fail
 refine HC.out.mono ?_
 rintro e w9 ⟨rfl, hK9⟩
 have HK9 : Hid (Keeps (fun _ => False) w8 w9) := hK9
 clear HC hK9 l1
 go_wp2
 go_ret
 exact ⟨rfl, (HK6.out.1.trans HK8.out fun _ _ h => h).trans HK9.out fun _ _ h => h⟩
end Go.Proofs.YtfbapgcopidbpaaGreat
