import Derived.Test.YtofjbkoojimmhaaGreatHi
namespace Go.Proofs.YtofjbkoojimmhaaGreat
open Go.RowKit Go.Shelf
open Mq
set_option linter.unusedVariables false
set_option maxRecDepth 6000
set_option linter.unusedSimpArgs false
set_option maxHeartbeats 2000000 in
theorem trap_halt (c : Cns) (xs : List UInt32) (z : Sta) (v : List UInt32) (w : World) (h : Hw w c xs z v) (T Q : UInt32) (tn : Int) (hT : tn = (T.toNat : Int)) (h1 : 1 ≤ tn) (h6 : tn ≤ 6) (hz : c.act = 0) : Calls Tryz.prog 10 #[.pointer (some ⟨c.W, 0, none⟩), .pointer (some ⟨c.b, 0, none⟩), .int .i64 c.p, .int .i64 tn, .int .u32 (Q.toNat : Int)] w fun e w' => Left c w e (.tuple #[.bool true, .int .i64 0]) (lay (lay xs (c.d.st + 2) [T, Q]) (c.d.st + 0) [3]) { s := 3, r := z.r, t := T, q := Q, o := z.o } v w' := by
 have H0 : Hid (Hw w c xs z v) := h
 have HC : Hid (Calls _ _ _ w _) := fits_any c.fr _ c.W c.b c.g xs w h.wds.top h.mm h.fr
 have hzo : Ok c { z with t := T, q := Q } := ⟨h.ok.s, h.ok.r, by show (T.toNat : Int) ≤ 6; omega, fun e => by exfalso; have : (T.toNat : Int) = 0 := e; omega, h.ok.o, h.ok.two⟩
 have hzo2 : Ok c { s := 3, r := z.r, t := T, q := Q, o := z.o } := ⟨show ((3 : UInt32).toNat : Int) ≤ 3 by decide, h.ok.r, by show (T.toNat : Int) ≤ 6; omega, fun e => by exfalso; have : (T.toNat : Int) = 0 := e; omega, h.ok.o, fun e => absurd e (show ¬ ((3 : UInt32).toNat : Int) = 2 by decide)⟩
 have HO : Hid (Ok c { z with t := T, q := Q } ∧ Ok c { s := 3, r := z.r, t := T, q := Q, o := z.o }) := ⟨hzo, hzo2⟩
 have hw : IntKind.u32.wrap tn = (T.toNat : Int) := by rw [hT]; have := T.toNat_lt; rw [IntKind.wrap_u32]; omega
 have HF : Hid (c.d.fh = .func (.func 92) #[] #[] ∧ ∀ w, Calls Tryz.prog 92 #[.int .u32 (z.r.toNat : Int), .int .u32 c.d.rs] w fun e w' => e = .returned (.bool true) ∧ w' = w) := by
  refine ⟨?_, fun w => care_a _ _ w⟩
  rcases h.care with ⟨_, e, _⟩ | ⟨e, _⟩
  ·
   exact e
  ·
   exact absurd hz e
 clear h hzo hzo2
 have hT2 : Hid (tn = (T.toNat : Int)) := hT
 clear hT
 go_enter Tryz.func10, Tryz.ntmps10
 go_wp2_with fail
 refine HC.out.mono ?_
 rintro e w0 ⟨rfl, hK0⟩
 have H9 : Hid (Hw w0 c xs z v ∧ Keeps (fun _ => False) w w0) := ⟨H0.out.kept hK0, hK0⟩
 have H8 : Hid (Hw w0 c xs z v) := H9.out.1
 have HC1 : Hid (Calls _ _ _ w0 _) := H8.out.asked
 clear hK0 HC
 go_upto_region 6 with fail
 go_wp2_with fail
 refine HC1.out.mono ?_
 rintro e w1 ⟨rfl, hKw1⟩
 have Hw1 : Hid (Hw w1 c xs z v ∧ Keeps (fun _ => False) w0 w1) := ⟨H8.out.kept hKw1, hKw1⟩
 have HNw1 : Hid _ := two_new w1 c.d.vs z.vs
 obtain ⟨W2, hW2⟩ : ∃ W2, W2 = ((((w1.alloc (.cells #[.int .i64 0, .int .i64 0, .int .u32 0, .int .u32 0, .int .u32 0, .nilFunc, .nilFunc] 82)).alloc (.cells #[.int .u32 0, .int .u32 0, .int .u32 0, .int .u32 0, .int .u32 0] 84)).setRow w1.heap.size c.d.vs.toArray).setRow (w1.heap.size + 1) z.vs.toArray) := ⟨_, rfl⟩
 obtain ⟨A, hA⟩ : ∃ A, A = w1.heap.size := ⟨_, rfl⟩
 have HW2 : Hid (Hw W2 c xs z v ∧ Blk W2 A c.d.vs 82 ∧ Blk W2 (A + 1) z.vs 84 ∧ Keeps (fun _ => False) w0 W2 ∧ w0.heap.size ≤ A ∧ A + 1 < W2.heap.size) := by
  obtain ⟨_, _, a, b, k⟩ := HNw1.out
  rw [← hW2] at a b k
  rw [← hA] at a b
  exact ⟨Hw1.out.1.kept k, a, b, Hw1.out.2.trans k fun _ _ h => h, by rw [hA]; exact Hw1.out.2.size, b.lt⟩
 clear hKw1
 unfold Wrd.v Sta.v stv
 go_wp2_with (refine wpList_store_row rfl 82 (.tmp 13) (.tmp 34) rfl w1.heap.size c.d.vs.toArray rfl rfl 82 #[.int .i64 0, .int .i64 0, .int .u32 0, .int .u32 0, .int .u32 0, .nilFunc, .nilFunc] HNw1.out.1 Tryz.size82 rfl Hw1.out.1.all ?_; refine Hid.out ?_)
 unfold Hid
 refine wpList_store_row rfl 84 (.tmp 14) (.tmp 35) rfl (w1.heap.size + 1) z.vs.toArray rfl rfl 84 #[.int .u32 0, .int .u32 0, .int .u32 0, .int .u32 0, .int .u32 0] HNw1.out.2.1 Tryz.size84 rfl (stvs_one z.s z.r z.t z.q z.o) ?_
 rw [← hW2, ← hA]
 clear hW2 hA HNw1 Hw1
 clear HC1
 go_upto_region 9 with fail
 go_wp2_with (refine wpList_load_row rfl 82 (.tmp 13) rfl A rfl 82 c.d.vs.toArray (0, 0) _ HW2.out.2.1 Tryz.underlying82 rfl Tryz.size82 ?_; refine Hid.out ?_)
 unfold Hid
 obtain ⟨W3, hW3⟩ : ∃ W3, W3 = W2.alloc (.cells #[.int .u32 (T.toNat : Int), .int .u32 (Q.toNat : Int)] 38) := ⟨_, rfl⟩
 have hKW3 : Keeps (fun _ => False) W2 W3 := by rw [hW3]; exact (Keeps.refl _ _).alloc _
 have hBW3 : Blk W3 W2.heap.size [.int .u32 (T.toNat : Int), .int .u32 (Q.toNat : Int)] 38 := by rw [hW3]; exact Blk.new _ _ 38
 have HC2 : Hid (Calls Tryz.prog 24 #[c.d.v, .pointer (some ⟨c.b, 0, none⟩), .int .i64 2, .slice (some ⟨W2.heap.size, 0, none⟩) 2 2] W3 _) := write_any c.d c.b c.g xs 2 2 rfl (some ⟨W2.heap.size, 0, none⟩) 2 [T, Q] W3 (HW2.out.1.mm.kept hKW3 (fun h => h) fun h => h) (seg2 T Q hBW3) (by have := HW2.out.1.hi; simp; omega)
 have H3 : Hid (Hw W3 c xs z v ∧ Keeps (fun _ => False) w0 W3 ∧ Blk W3 A c.d.vs 82 ∧ Blk W3 (A + 1) z.vs 84) := ⟨HW2.out.1.kept hKW3, HW2.out.2.2.2.1.trans hKW3 fun _ _ h => h, HW2.out.2.1.kept hKW3 fun h => h, HW2.out.2.2.1.kept hKW3 fun h => h⟩
 have hAg : A ≠ c.g ∧ A + 1 ≠ c.g := by
  have q := H9.out.1.mm.row.lt
  have q1 := HW2.out.2.2.2.2.1
  exact ⟨by omega, by omega⟩
 clear hKW3 hBW3
 go_wp2_with fail
 rw [← hW3]
 clear hW3
 refine HC2.out.mono ?_
 rintro e w4 ⟨rfl, hM, hK⟩
 have H4 : Hid (Hw w4 c (lay xs (c.d.st + 2) [T, Q]) { z with t := T, q := Q } v ∧ Keeps (· = c.g) w w4 ∧ Blk w4 A c.d.vs 82 ∧ Blk w4 (A + 1) z.vs 84) := ⟨H3.out.1.lay_tq T Q hK hM HO.out.1, ((H9.out.2.trans H3.out.2.1 fun _ _ h => h).mono fun _ _ h => h.elim).trans hK fun _ _ h => h, H3.out.2.2.1.kept hK hAg.1, H3.out.2.2.2.kept hK hAg.2⟩
 clear hM hK HC2 hAg
 have c3 := H4.out.2.2.1.cell (i := 3) rfl
 have c5 := H4.out.2.2.1.cell (i := 5) rfl
 rw [HF.out.1] at c5
 have c1 := H4.out.2.2.2.cell (i := 1) rfl
 have HC3 : Hid (∀ w, Calls Tryz.prog 92 #[.int .u32 (z.r.toNat : Int), .int .u32 c.d.rs] w fun e w' => e = .returned (.bool true) ∧ w' = w) := HF.out.2
 go_upto_region 12 with fail
 go_wp2_with fail
 refine (HC3.out _).mono ?_
 rintro e w5 ⟨rfl, hw5⟩
 obtain rfl := hw5.symm
 clear hw5 c3 c5 c1 HC3
 go_upto_region 13 with fail
 go_wp2_with (refine wpList_load_row rfl 82 (.tmp 13) rfl A rfl 82 c.d.vs.toArray (0, 0) _ H4.out.2.2.1 Tryz.underlying82 rfl Tryz.size82 ?_; refine Hid.out ?_)
 unfold Hid
 obtain ⟨W6, hW6⟩ : ∃ W6, W6 = w4.alloc (.cells #[.int .u32 3] 38) := ⟨_, rfl⟩
 have hKW6 : Keeps (fun _ => False) w4 W6 := by rw [hW6]; exact (Keeps.refl _ _).alloc _
 have hBW6 : Blk W6 w4.heap.size [.int .u32 3] 38 := by rw [hW6]; exact Blk.new _ _ 38
 have HC4 : Hid (Calls Tryz.prog 24 #[c.d.v, .pointer (some ⟨c.b, 0, none⟩), .int .i64 0, .slice (some ⟨w4.heap.size, 0, none⟩) 1 1] W6 _) := write_any c.d c.b c.g _ 0 0 rfl (some ⟨w4.heap.size, 0, none⟩) 1 [3] W6 (H4.out.1.mm.kept hKW6 (fun h => h) fun h => h) (seg1 3 hBW6) (by have := H4.out.1.hi; simp; omega)
 have H6 : Hid (Hw W6 c (lay xs (c.d.st + 2) [T, Q]) { z with t := T, q := Q } v ∧ Keeps (· = c.g) w W6) := ⟨H4.out.1.kept hKW6, H4.out.2.1.trans (hKW6.mono fun _ _ h => h.elim) fun _ _ h => h⟩
 clear hKW6 hBW6
 go_wp2_with fail
 rw [← hW6]
 clear hW6
 refine HC4.out.mono ?_
 rintro e w7 ⟨rfl, hM, hK⟩
 have H7 : Hid (Hw w7 c (lay (lay xs (c.d.st + 2) [T, Q]) (c.d.st + 0) [3]) { s := 3, r := z.r, t := T, q := Q, o := z.o } v ∧ Keeps (· = c.g) w w7) := ⟨H6.out.1.lay_s 3 hK hM HO.out.2, H6.out.2.trans hK fun _ _ h => h⟩
 clear hM hK HC4
 go_wp2
 go_ret2
 exact ⟨rfl, H7.out.1, H7.out.2⟩
set_option maxHeartbeats 2000000 in
theorem trap_full (c : Cns) (xs : List UInt32) (z : Sta) (v : List UInt32) (w : World) (h : Hw w c xs z v) (T Q : UInt32) (tn : Int) (hT : tn = (T.toNat : Int)) (h1 : 1 ≤ tn) (h6 : tn ≤ 6) (hz : ¬ c.act = 0) (hr : c.d.rs ≤ (z.r.toNat : Int)) : Calls Tryz.prog 10 #[.pointer (some ⟨c.W, 0, none⟩), .pointer (some ⟨c.b, 0, none⟩), .int .i64 c.p, .int .i64 tn, .int .u32 (Q.toNat : Int)] w fun e w' => Left c w e (.tuple #[.bool true, .int .i64 0]) (lay (lay xs (c.d.st + 2) [T, Q]) (c.d.st + 0) [3]) { s := 3, r := z.r, t := T, q := Q, o := z.o } v w' := by
 have H0 : Hid (Hw w c xs z v) := h
 have HC : Hid (Calls _ _ _ w _) := fits_any c.fr _ c.W c.b c.g xs w h.wds.top h.mm h.fr
 have hzo : Ok c { z with t := T, q := Q } := ⟨h.ok.s, h.ok.r, by show (T.toNat : Int) ≤ 6; omega, fun e => by exfalso; have : (T.toNat : Int) = 0 := e; omega, h.ok.o, h.ok.two⟩
 have hzo2 : Ok c { s := 3, r := z.r, t := T, q := Q, o := z.o } := ⟨show ((3 : UInt32).toNat : Int) ≤ 3 by decide, h.ok.r, by show (T.toNat : Int) ≤ 6; omega, fun e => by exfalso; have : (T.toNat : Int) = 0 := e; omega, h.ok.o, fun e => absurd e (show ¬ ((3 : UInt32).toNat : Int) = 2 by decide)⟩
 have HO : Hid (Ok c { z with t := T, q := Q } ∧ Ok c { s := 3, r := z.r, t := T, q := Q, o := z.o }) := ⟨hzo, hzo2⟩
 have hw : IntKind.u32.wrap tn = (T.toNat : Int) := by rw [hT]; have := T.toNat_lt; rw [IntKind.wrap_u32]; omega
 have HF : Hid (c.d.fh = .func (.func 94) #[] #[] ∧ ∀ w, Calls Tryz.prog 94 #[.int .u32 (z.r.toNat : Int), .int .u32 c.d.rs] w fun e w' => e = .returned (.bool true) ∧ w' = w) := by
  refine ⟨?_, fun w => ?_⟩
  ·
   rcases h.care with ⟨e, _⟩ | ⟨_, e, _⟩
   ·
    exact absurd e hz
   ·
    exact e
  ·
   have := care_b z.r.toNat c.d.rs w
   rwa [show decide (c.d.rs ≤ (z.r.toNat : Int)) = true by simpa using hr] at this
 clear h hzo hzo2
 have hT2 : Hid (tn = (T.toNat : Int)) := hT
 clear hT
 go_enter Tryz.func10, Tryz.ntmps10
 go_wp2_with fail
 refine HC.out.mono ?_
 rintro e w0 ⟨rfl, hK0⟩
 have H9 : Hid (Hw w0 c xs z v ∧ Keeps (fun _ => False) w w0) := ⟨H0.out.kept hK0, hK0⟩
 have H8 : Hid (Hw w0 c xs z v) := H9.out.1
 have HC1 : Hid (Calls _ _ _ w0 _) := H8.out.asked
 clear hK0 HC
 go_upto_region 6 with fail
 go_wp2_with fail
 refine HC1.out.mono ?_
 rintro e w1 ⟨rfl, hKw1⟩
 have Hw1 : Hid (Hw w1 c xs z v ∧ Keeps (fun _ => False) w0 w1) := ⟨H8.out.kept hKw1, hKw1⟩
 have HNw1 : Hid _ := two_new w1 c.d.vs z.vs
 obtain ⟨W2, hW2⟩ : ∃ W2, W2 = ((((w1.alloc (.cells #[.int .i64 0, .int .i64 0, .int .u32 0, .int .u32 0, .int .u32 0, .nilFunc, .nilFunc] 82)).alloc (.cells #[.int .u32 0, .int .u32 0, .int .u32 0, .int .u32 0, .int .u32 0] 84)).setRow w1.heap.size c.d.vs.toArray).setRow (w1.heap.size + 1) z.vs.toArray) := ⟨_, rfl⟩
 obtain ⟨A, hA⟩ : ∃ A, A = w1.heap.size := ⟨_, rfl⟩
 have HW2 : Hid (Hw W2 c xs z v ∧ Blk W2 A c.d.vs 82 ∧ Blk W2 (A + 1) z.vs 84 ∧ Keeps (fun _ => False) w0 W2 ∧ w0.heap.size ≤ A ∧ A + 1 < W2.heap.size) := by
  obtain ⟨_, _, a, b, k⟩ := HNw1.out
  rw [← hW2] at a b k
  rw [← hA] at a b
  exact ⟨Hw1.out.1.kept k, a, b, Hw1.out.2.trans k fun _ _ h => h, by rw [hA]; exact Hw1.out.2.size, b.lt⟩
 clear hKw1
 unfold Wrd.v Sta.v stv
 go_wp2_with (refine wpList_store_row rfl 82 (.tmp 13) (.tmp 34) rfl w1.heap.size c.d.vs.toArray rfl rfl 82 #[.int .i64 0, .int .i64 0, .int .u32 0, .int .u32 0, .int .u32 0, .nilFunc, .nilFunc] HNw1.out.1 Tryz.size82 rfl Hw1.out.1.all ?_; refine Hid.out ?_)
 unfold Hid
 refine wpList_store_row rfl 84 (.tmp 14) (.tmp 35) rfl (w1.heap.size + 1) z.vs.toArray rfl rfl 84 #[.int .u32 0, .int .u32 0, .int .u32 0, .int .u32 0, .int .u32 0] HNw1.out.2.1 Tryz.size84 rfl (stvs_one z.s z.r z.t z.q z.o) ?_
 rw [← hW2, ← hA]
 clear hW2 hA HNw1 Hw1
 clear HC1
 go_upto_region 9 with fail
 go_wp2_with (refine wpList_load_row rfl 82 (.tmp 13) rfl A rfl 82 c.d.vs.toArray (0, 0) _ HW2.out.2.1 Tryz.underlying82 rfl Tryz.size82 ?_; refine Hid.out ?_)
 unfold Hid
 obtain ⟨W3, hW3⟩ : ∃ W3, W3 = W2.alloc (.cells #[.int .u32 (T.toNat : Int), .int .u32 (Q.toNat : Int)] 38) := ⟨_, rfl⟩
 have hKW3 : Keeps (fun _ => False) W2 W3 := by rw [hW3]; exact (Keeps.refl _ _).alloc _
 have hBW3 : Blk W3 W2.heap.size [.int .u32 (T.toNat : Int), .int .u32 (Q.toNat : Int)] 38 := by rw [hW3]; exact Blk.new _ _ 38
 have HC2 : Hid (Calls Tryz.prog 24 #[c.d.v, .pointer (some ⟨c.b, 0, none⟩), .int .i64 2, .slice (some ⟨W2.heap.size, 0, none⟩) 2 2] W3 _) := write_any c.d c.b c.g xs 2 2 rfl (some ⟨W2.heap.size, 0, none⟩) 2 [T, Q] W3 (HW2.out.1.mm.kept hKW3 (fun h => h) fun h => h) (seg2 T Q hBW3) (by have := HW2.out.1.hi; simp; omega)
 have H3 : Hid (Hw W3 c xs z v ∧ Keeps (fun _ => False) w0 W3 ∧ Blk W3 A c.d.vs 82 ∧ Blk W3 (A + 1) z.vs 84) := ⟨HW2.out.1.kept hKW3, HW2.out.2.2.2.1.trans hKW3 fun _ _ h => h, HW2.out.2.1.kept hKW3 fun h => h, HW2.out.2.2.1.kept hKW3 fun h => h⟩
 have hAg : A ≠ c.g ∧ A + 1 ≠ c.g := by
  have q := H9.out.1.mm.row.lt
  have q1 := HW2.out.2.2.2.2.1
  exact ⟨by omega, by omega⟩
 clear hKW3 hBW3
 go_wp2_with fail
 rw [← hW3]
 clear hW3
 refine HC2.out.mono ?_
 rintro e w4 ⟨rfl, hM, hK⟩
 have H4 : Hid (Hw w4 c (lay xs (c.d.st + 2) [T, Q]) { z with t := T, q := Q } v ∧ Keeps (· = c.g) w w4 ∧ Blk w4 A c.d.vs 82 ∧ Blk w4 (A + 1) z.vs 84) := ⟨H3.out.1.lay_tq T Q hK hM HO.out.1, ((H9.out.2.trans H3.out.2.1 fun _ _ h => h).mono fun _ _ h => h.elim).trans hK fun _ _ h => h, H3.out.2.2.1.kept hK hAg.1, H3.out.2.2.2.kept hK hAg.2⟩
 clear hM hK HC2 hAg
 have c3 := H4.out.2.2.1.cell (i := 3) rfl
 have c5 := H4.out.2.2.1.cell (i := 5) rfl
 rw [HF.out.1] at c5
 have c1 := H4.out.2.2.2.cell (i := 1) rfl
 have HC3 : Hid (∀ w, Calls Tryz.prog 94 #[.int .u32 (z.r.toNat : Int), .int .u32 c.d.rs] w fun e w' => e = .returned (.bool true) ∧ w' = w) := HF.out.2
 go_upto_region 12 with fail
 go_wp2_with fail
 refine (HC3.out _).mono ?_
 rintro e w5 ⟨rfl, hw5⟩
 obtain rfl := hw5.symm
 clear hw5 c3 c5 c1 HC3
 go_upto_region 13 with fail
 go_wp2_with (refine wpList_load_row rfl 82 (.tmp 13) rfl A rfl 82 c.d.vs.toArray (0, 0) _ H4.out.2.2.1 Tryz.underlying82 rfl Tryz.size82 ?_; refine Hid.out ?_)
 unfold Hid
 obtain ⟨W6, hW6⟩ : ∃ W6, W6 = w4.alloc (.cells #[.int .u32 3] 38) := ⟨_, rfl⟩
 have hKW6 : Keeps (fun _ => False) w4 W6 := by rw [hW6]; exact (Keeps.refl _ _).alloc _
 have hBW6 : Blk W6 w4.heap.size [.int .u32 3] 38 := by rw [hW6]; exact Blk.new _ _ 38
 have HC4 : Hid (Calls Tryz.prog 24 #[c.d.v, .pointer (some ⟨c.b, 0, none⟩), .int .i64 0, .slice (some ⟨w4.heap.size, 0, none⟩) 1 1] W6 _) := write_any c.d c.b c.g _ 0 0 rfl (some ⟨w4.heap.size, 0, none⟩) 1 [3] W6 (H4.out.1.mm.kept hKW6 (fun h => h) fun h => h) (seg1 3 hBW6) (by have := H4.out.1.hi; simp; omega)
 have H6 : Hid (Hw W6 c (lay xs (c.d.st + 2) [T, Q]) { z with t := T, q := Q } v ∧ Keeps (· = c.g) w W6) := ⟨H4.out.1.kept hKW6, H4.out.2.1.trans (hKW6.mono fun _ _ h => h.elim) fun _ _ h => h⟩
 clear hKW6 hBW6
 go_wp2_with fail
 rw [← hW6]
 clear hW6
 refine HC4.out.mono ?_
 rintro e w7 ⟨rfl, hM, hK⟩
 have H7 : Hid (Hw w7 c (lay (lay xs (c.d.st + 2) [T, Q]) (c.d.st + 0) [3]) { s := 3, r := z.r, t := T, q := Q, o := z.o } v ∧ Keeps (· = c.g) w w7) := ⟨H6.out.1.lay_s 3 hK hM HO.out.2, H6.out.2.trans hK fun _ _ h => h⟩
 clear hM hK HC4
 go_wp2
 go_ret2
 exact ⟨rfl, H7.out.1, H7.out.2⟩
set_option maxHeartbeats 2000000 in
theorem trap_on (c : Cns) (xs : List UInt32) (z : Sta) (v : List UInt32) (w : World) (h : Hw w c xs z v) (T Q : UInt32) (tn : Int) (hT : tn = (T.toNat : Int)) (h1 : 1 ≤ tn) (h6 : tn ≤ 6) (hz : ¬ c.act = 0) (hr : (z.r.toNat : Int) < c.d.rs) : Calls Tryz.prog 10 #[.pointer (some ⟨c.W, 0, none⟩), .pointer (some ⟨c.b, 0, none⟩), .int .i64 c.p, .int .i64 tn, .int .u32 (Q.toNat : Int)] w fun e w' => Left c w e (.tuple #[.bool false, .int .i64 0]) (lay (lay xs (c.d.st + 2) [T, Q]) (c.d.st + 0) [2]) { s := 2, r := z.r, t := T, q := Q, o := z.o } v w' := by
 have H0 : Hid (Hw w c xs z v) := h
 have HC : Hid (Calls _ _ _ w _) := fits_any c.fr _ c.W c.b c.g xs w h.wds.top h.mm h.fr
 have hzo : Ok c { z with t := T, q := Q } := ⟨h.ok.s, h.ok.r, by show (T.toNat : Int) ≤ 6; omega, fun e => by exfalso; have : (T.toNat : Int) = 0 := e; omega, h.ok.o, h.ok.two⟩
 have hzo2 : Ok c { s := 2, r := z.r, t := T, q := Q, o := z.o } := ⟨show ((2 : UInt32).toNat : Int) ≤ 3 by decide, h.ok.r, by show (T.toNat : Int) ≤ 6; omega, fun e => by exfalso; have : (T.toNat : Int) = 0 := e; omega, h.ok.o, fun _ => ⟨hz, hr⟩⟩
 have HO : Hid (Ok c { z with t := T, q := Q } ∧ Ok c { s := 2, r := z.r, t := T, q := Q, o := z.o }) := ⟨hzo, hzo2⟩
 have hw : IntKind.u32.wrap tn = (T.toNat : Int) := by rw [hT]; have := T.toNat_lt; rw [IntKind.wrap_u32]; omega
 have HF : Hid (c.d.fh = .func (.func 94) #[] #[] ∧ ∀ w, Calls Tryz.prog 94 #[.int .u32 (z.r.toNat : Int), .int .u32 c.d.rs] w fun e w' => e = .returned (.bool false) ∧ w' = w) := by
  refine ⟨?_, fun w => ?_⟩
  ·
   rcases h.care with ⟨e, _⟩ | ⟨_, e, _⟩
   ·
    exact absurd e hz
   ·
    exact e
  ·
   have := care_b z.r.toNat c.d.rs w
   rwa [show decide (c.d.rs ≤ (z.r.toNat : Int)) = false by simpa using hr] at this
 clear h hzo hzo2
 have hT2 : Hid (tn = (T.toNat : Int)) := hT
 clear hT
 go_enter Tryz.func10, Tryz.ntmps10
 go_wp2_with fail
 refine HC.out.mono ?_
 rintro e w0 ⟨rfl, hK0⟩
 have H9 : Hid (Hw w0 c xs z v ∧ Keeps (fun _ => False) w w0) := ⟨H0.out.kept hK0, hK0⟩
 have H8 : Hid (Hw w0 c xs z v) := H9.out.1
 have HC1 : Hid (Calls _ _ _ w0 _) := H8.out.asked
 clear hK0 HC
 go_upto_region 6 with fail
 go_wp2_with fail
 refine HC1.out.mono ?_
 rintro e w1 ⟨rfl, hKw1⟩
 have Hw1 : Hid (Hw w1 c xs z v ∧ Keeps (fun _ => False) w0 w1) := ⟨H8.out.kept hKw1, hKw1⟩
 have HNw1 : Hid _ := two_new w1 c.d.vs z.vs
 obtain ⟨W2, hW2⟩ : ∃ W2, W2 = ((((w1.alloc (.cells #[.int .i64 0, .int .i64 0, .int .u32 0, .int .u32 0, .int .u32 0, .nilFunc, .nilFunc] 82)).alloc (.cells #[.int .u32 0, .int .u32 0, .int .u32 0, .int .u32 0, .int .u32 0] 84)).setRow w1.heap.size c.d.vs.toArray).setRow (w1.heap.size + 1) z.vs.toArray) := ⟨_, rfl⟩
 obtain ⟨A, hA⟩ : ∃ A, A = w1.heap.size := ⟨_, rfl⟩
 have HW2 : Hid (Hw W2 c xs z v ∧ Blk W2 A c.d.vs 82 ∧ Blk W2 (A + 1) z.vs 84 ∧ Keeps (fun _ => False) w0 W2 ∧ w0.heap.size ≤ A ∧ A + 1 < W2.heap.size) := by
  obtain ⟨_, _, a, b, k⟩ := HNw1.out
  rw [← hW2] at a b k
  rw [← hA] at a b
  exact ⟨Hw1.out.1.kept k, a, b, Hw1.out.2.trans k fun _ _ h => h, by rw [hA]; exact Hw1.out.2.size, b.lt⟩
 clear hKw1
 unfold Wrd.v Sta.v stv
 go_wp2_with (refine wpList_store_row rfl 82 (.tmp 13) (.tmp 34) rfl w1.heap.size c.d.vs.toArray rfl rfl 82 #[.int .i64 0, .int .i64 0, .int .u32 0, .int .u32 0, .int .u32 0, .nilFunc, .nilFunc] HNw1.out.1 Tryz.size82 rfl Hw1.out.1.all ?_; refine Hid.out ?_)
 unfold Hid
 refine wpList_store_row rfl 84 (.tmp 14) (.tmp 35) rfl (w1.heap.size + 1) z.vs.toArray rfl rfl 84 #[.int .u32 0, .int .u32 0, .int .u32 0, .int .u32 0, .int .u32 0] HNw1.out.2.1 Tryz.size84 rfl (stvs_one z.s z.r z.t z.q z.o) ?_
 rw [← hW2, ← hA]
 clear hW2 hA HNw1 Hw1
 clear HC1
 go_upto_region 9 with fail
 go_wp2_with (refine wpList_load_row rfl 82 (.tmp 13) rfl A rfl 82 c.d.vs.toArray (0, 0) _ HW2.out.2.1 Tryz.underlying82 rfl Tryz.size82 ?_; refine Hid.out ?_)
 unfold Hid
 obtain ⟨W3, hW3⟩ : ∃ W3, W3 = W2.alloc (.cells #[.int .u32 (T.toNat : Int), .int .u32 (Q.toNat : Int)] 38) := ⟨_, rfl⟩
 have hKW3 : Keeps (fun _ => False) W2 W3 := by rw [hW3]; exact (Keeps.refl _ _).alloc _
 have hBW3 : Blk W3 W2.heap.size [.int .u32 (T.toNat : Int), .int .u32 (Q.toNat : Int)] 38 := by rw [hW3]; exact Blk.new _ _ 38
 have HC2 : Hid (Calls Tryz.prog 24 #[c.d.v, .pointer (some ⟨c.b, 0, none⟩), .int .i64 2, .slice (some ⟨W2.heap.size, 0, none⟩) 2 2] W3 _) := write_any c.d c.b c.g xs 2 2 rfl (some ⟨W2.heap.size, 0, none⟩) 2 [T, Q] W3 (HW2.out.1.mm.kept hKW3 (fun h => h) fun h => h) (seg2 T Q hBW3) (by have := HW2.out.1.hi; simp; omega)
 have H3 : Hid (Hw W3 c xs z v ∧ Keeps (fun _ => False) w0 W3 ∧ Blk W3 A c.d.vs 82 ∧ Blk W3 (A + 1) z.vs 84) := ⟨HW2.out.1.kept hKW3, HW2.out.2.2.2.1.trans hKW3 fun _ _ h => h, HW2.out.2.1.kept hKW3 fun h => h, HW2.out.2.2.1.kept hKW3 fun h => h⟩
 have hAg : A ≠ c.g ∧ A + 1 ≠ c.g := by
  have q := H9.out.1.mm.row.lt
  have q1 := HW2.out.2.2.2.2.1
  exact ⟨by omega, by omega⟩
 clear hKW3 hBW3
 go_wp2_with fail
 rw [← hW3]
 clear hW3
 refine HC2.out.mono ?_
 rintro e w4 ⟨rfl, hM, hK⟩
 have H4 : Hid (Hw w4 c (lay xs (c.d.st + 2) [T, Q]) { z with t := T, q := Q } v ∧ Keeps (· = c.g) w w4 ∧ Blk w4 A c.d.vs 82 ∧ Blk w4 (A + 1) z.vs 84) := ⟨H3.out.1.lay_tq T Q hK hM HO.out.1, ((H9.out.2.trans H3.out.2.1 fun _ _ h => h).mono fun _ _ h => h.elim).trans hK fun _ _ h => h, H3.out.2.2.1.kept hK hAg.1, H3.out.2.2.2.kept hK hAg.2⟩
 clear hM hK HC2 hAg
 have c3 := H4.out.2.2.1.cell (i := 3) rfl
 have c5 := H4.out.2.2.1.cell (i := 5) rfl
 rw [HF.out.1] at c5
 have c1 := H4.out.2.2.2.cell (i := 1) rfl
 have HC3 : Hid (∀ w, Calls Tryz.prog 94 #[.int .u32 (z.r.toNat : Int), .int .u32 c.d.rs] w fun e w' => e = .returned (.bool false) ∧ w' = w) := HF.out.2
 go_upto_region 12 with fail
 go_wp2_with fail
 refine (HC3.out _).mono ?_
 rintro e w5 ⟨rfl, hw5⟩
 obtain rfl := hw5.symm
 clear hw5 c3 c5 c1 HC3
 go_upto_region 14 with fail
 go_wp2_with (refine wpList_load_row rfl 82 (.tmp 13) rfl A rfl 82 c.d.vs.toArray (0, 0) _ H4.out.2.2.1 Tryz.underlying82 rfl Tryz.size82 ?_; refine Hid.out ?_)
 unfold Hid
 obtain ⟨W6, hW6⟩ : ∃ W6, W6 = w4.alloc (.cells #[.int .u32 2] 38) := ⟨_, rfl⟩
 have hKW6 : Keeps (fun _ => False) w4 W6 := by rw [hW6]; exact (Keeps.refl _ _).alloc _
 have hBW6 : Blk W6 w4.heap.size [.int .u32 2] 38 := by rw [hW6]; exact Blk.new _ _ 38
 have HC4 : Hid (Calls Tryz.prog 24 #[c.d.v, .pointer (some ⟨c.b, 0, none⟩), .int .i64 0, .slice (some ⟨w4.heap.size, 0, none⟩) 1 1] W6 _) := write_any c.d c.b c.g _ 0 0 rfl (some ⟨w4.heap.size, 0, none⟩) 1 [2] W6 (H4.out.1.mm.kept hKW6 (fun h => h) fun h => h) (seg1 2 hBW6) (by have := H4.out.1.hi; simp; omega)
 have H6 : Hid (Hw W6 c (lay xs (c.d.st + 2) [T, Q]) { z with t := T, q := Q } v ∧ Keeps (· = c.g) w W6) := ⟨H4.out.1.kept hKW6, H4.out.2.1.trans (hKW6.mono fun _ _ h => h.elim) fun _ _ h => h⟩
 clear hKW6 hBW6
 go_wp2_with fail
 rw [← hW6]
 clear hW6
 refine HC4.out.mono ?_
 rintro e w7 ⟨rfl, hM, hK⟩
 have H7 : Hid (Hw w7 c (lay (lay xs (c.d.st + 2) [T, Q]) (c.d.st + 0) [2]) { s := 2, r := z.r, t := T, q := Q, o := z.o } v ∧ Keeps (· = c.g) w w7) := ⟨H6.out.1.lay_s 2 hK hM HO.out.2, H6.out.2.trans hK fun _ _ h => h⟩
 clear hM hK HC4
 go_wp2
 go_ret2
 exact ⟨rfl, H7.out.1, H7.out.2⟩
end Go.Proofs.YtofjbkoojimmhaaGreat
