import Derived.Test.YtofjbkoojimmhaaGreatHj
import Derived.Test.YtofjbkoojimmhaaGreatHk
namespace Go.Proofs.YtofjbkoojimmhaaGreat
open Go.RowKit Go.Shelf
open Mq
set_option linter.unusedVariables false
set_option maxRecDepth 6000
set_option linter.unusedSimpArgs false
theorem ctx_new (w1 : World) (ys : List UInt32) :
  Blk (w1.alloc (.cells #[.int .u32 0, .int .u32 0, .int .u32 0, .int .u32 0, .int .u32 0, .int .u32 0, .int .u32 0, .int .u32 0, .int .u32 0, .int .u32 0, .int .u32 0, .int .u32 0, .int .u32 0, .int .u32 0, .int .u32 0, .int .u32 0, .int .u32 0] 41)) w1.heap.size (wvs z17) 41 ∧ Blk ((w1.alloc (.cells #[.int .u32 0, .int .u32 0, .int .u32 0, .int .u32 0, .int .u32 0, .int .u32 0, .int .u32 0, .int .u32 0, .int .u32 0, .int .u32 0, .int .u32 0, .int .u32 0, .int .u32 0, .int .u32 0, .int .u32 0, .int .u32 0, .int .u32 0] 41)).setRow w1.heap.size (wvs ys).toArray) w1.heap.size (wvs ys) 41 ∧ Keeps (fun _ => False) w1 ((w1.alloc (.cells #[.int .u32 0, .int .u32 0, .int .u32 0, .int .u32 0, .int .u32 0, .int .u32 0, .int .u32 0, .int .u32 0, .int .u32 0, .int .u32 0, .int .u32 0, .int .u32 0, .int .u32 0, .int .u32 0, .int .u32 0, .int .u32 0, .int .u32 0] 41)).setRow w1.heap.size (wvs ys).toArray) :=
 ⟨Blk.new w1 _ 41, (Blk.setRow (t := 41) (l := wvs z17) (Blk.new w1 _ 41) _), ((Keeps.refl _ w1).alloc _).setRow _ _ fun h => absurd h (Nat.lt_irrefl _)⟩
set_option maxHeartbeats 1000000 in
theorem again_any (c : Cns) (xs : List UInt32) (z : Sta) (v : List UInt32) (w : World) (h : Hw w c xs z v) (hz : ¬ c.act = 0) (R : UInt32) (ho : Ok c { z with s := 0, r := R }) : Calls Tryz.prog 25 #[c.d.v, .pointer (some ⟨c.b, 0, none⟩), .int .u32 (R.toNat : Int)] w fun e w' => Left c w e (.tuple #[cxv (ent c.d.en), .int .i64 c.act, .int .i64 0]) (lay xs (c.d.st + 0) [0, R]) { z with s := 0, r := R } v w' := by
 obtain ⟨D, hD⟩ : ∃ D, D = w.heap.size := ⟨_, rfl⟩
 obtain ⟨W0, hW0⟩ : ∃ W0, W0 = (c.d.box w).alloc (.cells #[.int .u32 0, .int .u32 0, .int .u32 0, .int .u32 0, .int .u32 0, .int .u32 0, .int .u32 0, .int .u32 0, .int .u32 0, .int .u32 0, .int .u32 0, .int .u32 0, .int .u32 0, .int .u32 0, .int .u32 0, .int .u32 0, .int .u32 0] 41) := ⟨_, rfl⟩
 have hK0 : Keeps (fun _ => False) w W0 := by rw [hW0]; exact (c.d.box_keeps w).alloc _
 have hB1 : Blk W0 D c.d.vs 82 := by rw [hW0, hD]; exact (c.d.box_blk w).alloc _
 have hB2 : Blk W0 (D + 1) (wvs z17) 41 := by
  have := Blk.new (c.d.box w) #[.int .u32 0, .int .u32 0, .int .u32 0, .int .u32 0, .int .u32 0, .int .u32 0, .int .u32 0, .int .u32 0, .int .u32 0, .int .u32 0, .int .u32 0, .int .u32 0, .int .u32 0, .int .u32 0, .int .u32 0, .int .u32 0, .int .u32 0] 41
  have e : (c.d.box w).heap.size = w.heap.size + 1 := by unfold Wrd.box; simp
  rw [e] at this
  rw [hW0, hD]
  exact this
 have H0 : Hid (Hw W0 c xs z v ∧ Keeps (fun _ => False) w W0 ∧ Blk W0 D c.d.vs 82 ∧ Blk W0 (D + 1) (wvs z17) 41 ∧ w.heap.size = D ∧ c.g < D ∧ Low c w.heap.size) := ⟨h.kept hK0, hK0, hB1, hB2, hD.symm, by rw [hD]; exact h.mm.row.lt, h.low⟩
 have hcare : c.d.fa = .func (.func 95) #[] #[.pointer (some ⟨c.a, 0, none⟩)] ∧ Blk w c.a [.int .i64 c.act] 3 ∧ c.a ≠ c.g := by
  rcases h.care with ⟨e, _⟩ | ⟨_, _, e, b, n⟩
  ·
   exact absurd e hz
  ·
   exact ⟨e, b, n⟩
 have HO : Hid (Ok c { z with s := 0, r := R } ∧ c.d.fa = .func (.func 95) #[] #[.pointer (some ⟨c.a, 0, none⟩)] ∧ Blk W0 c.a [.int .i64 c.act] 3 ∧ c.a ≠ c.g) := ⟨ho, hcare.1, hcare.2.1.kept hK0 fun h => h, hcare.2.2⟩
 obtain ⟨W1, hW1⟩ : ∃ W1, W1 = W0.alloc (.cells #[.int .u32 0, .int .u32 (R.toNat : Int)] 38) := ⟨_, rfl⟩
 have hKW1 : Keeps (fun _ => False) W0 W1 := by rw [hW1]; exact (Keeps.refl _ _).alloc _
 have hBW1 : Blk W1 W0.heap.size [.int .u32 0, .int .u32 (R.toNat : Int)] 38 := by rw [hW1]; exact Blk.new _ _ 38
 have HC : Hid (Calls Tryz.prog 24 #[c.d.v, .pointer (some ⟨c.b, 0, none⟩), .int .i64 0, .slice (some ⟨W0.heap.size, 0, none⟩) 2 2] W1 _) := write_any c.d c.b c.g xs 0 0 rfl (some ⟨W0.heap.size, 0, none⟩) 2 [0, R] W1 (H0.out.1.mm.kept hKW1 (fun h => h) fun h => h) (seg2 0 R hBW1) (by have := H0.out.1.hi; simp; omega)
 have H1 : Hid (Hw W1 c xs z v ∧ Keeps (fun _ => False) w W1 ∧ Blk W1 D c.d.vs 82 ∧ Blk W1 (D + 1) (wvs z17) 41 ∧ Blk W1 c.a [.int .i64 c.act] 3) := ⟨H0.out.1.kept hKW1, H0.out.2.1.trans hKW1 fun _ _ h => h, H0.out.2.2.1.kept hKW1 fun h => h, H0.out.2.2.2.1.kept hKW1 fun h => h, HO.out.2.2.1.kept hKW1 fun h => h⟩
 unfold Wrd.v
 unfold Wrd.box at hW0
 clear h hK0 hB1 hB2 hcare ho hKW1 hBW1 hz
 go_enter Tryz.func25, Tryz.ntmps25
 go_upto_region 1 with fail
 rw [← hW0, ← hD]
 clear hW0 hD
 go_wp2_with (refine wpList_load_row rfl 82 (.tmp 3) rfl D rfl 82 c.d.vs.toArray (0, 0) _ H0.out.2.2.1 Tryz.underlying82 rfl Tryz.size82 ?_; refine Hid.out ?_)
 unfold Hid
 go_wp2_with fail
 rw [← hW1]
 clear hW1
 refine HC.out.mono ?_
 rintro e w2 ⟨rfl, hM, hK⟩
 have hDg : D ≠ c.g ∧ D + 1 ≠ c.g := by have := H0.out.2.2.2.2.2.1; exact ⟨by omega, by omega⟩
 have H2 : Hid (Hw w2 c (lay xs (c.d.st + 0) [0, R]) { z with s := 0, r := R } v ∧ Keeps (· = c.g) w w2 ∧ Blk w2 D c.d.vs 82 ∧ Blk w2 (D + 1) (wvs z17) 41 ∧ Blk w2 c.a [.int .i64 c.act] 3) :=
  ⟨H1.out.1.lay_sr 0 R hK hM HO.out.1, (H1.out.2.1.mono fun _ _ h => h.elim).trans hK fun _ _ h => h, H1.out.2.2.1.kept hK hDg.1, H1.out.2.2.2.1.kept hK hDg.2, H1.out.2.2.2.2.kept hK HO.out.2.2.2⟩
 clear hM hK HC hDg
 have c2 := H2.out.2.2.1.cell (i := 2) rfl
 have c6 := H2.out.2.2.1.cell (i := 6) rfl
 rw [HO.out.2.1] at c6
 have HC2 : Hid (Calls _ _ _ w2 _) := care_c c.d.en c.a c.act w2 H2.out.2.2.2.2
 go_upto_region 4 with fail
 go_wp2_with fail
 refine HC2.out.mono ?_
 rintro e w3 ⟨rfl, hK3⟩
 have HN : Hid _ := ctx_new w3 (ent c.d.en)
 obtain ⟨W4, hW4⟩ : ∃ W4, W4 = (w3.alloc (.cells #[.int .u32 0, .int .u32 0, .int .u32 0, .int .u32 0, .int .u32 0, .int .u32 0, .int .u32 0, .int .u32 0, .int .u32 0, .int .u32 0, .int .u32 0, .int .u32 0, .int .u32 0, .int .u32 0, .int .u32 0, .int .u32 0, .int .u32 0] 41)).setRow w3.heap.size (wvs (ent c.d.en)).toArray := ⟨_, rfl⟩
 obtain ⟨A, hA⟩ : ∃ A, A = w3.heap.size := ⟨_, rfl⟩
 have H4 : Hid (Hw W4 c (lay xs (c.d.st + 0) [0, R]) { z with s := 0, r := R } v ∧ Keeps (· = c.g) w W4 ∧ Blk W4 A (wvs (ent c.d.en)) 41 ∧ Blk W4 (D + 1) (wvs z17) 41) := by
  obtain ⟨_, a, k⟩ := HN.out
  rw [← hW4] at a k
  rw [← hA] at a
  have k2 := hK3.trans k fun _ _ h => h
  exact ⟨H2.out.1.kept k2, H2.out.2.1.trans (k2.mono fun _ _ h => h.elim) fun _ _ h => h, a, H2.out.2.2.2.1.kept k2 fun h => h⟩
 clear c2 c6 HC2 hK3
 unfold cxv
 go_wp2_with (refine wpList_store_row rfl 41 (.tmp 10) (.tmp 28) rfl w3.heap.size (wvs (ent c.d.en)).toArray rfl rfl 41 (wvs z17).toArray HN.out.1 Tryz.size41 rfl (wvs_all _) ?_; refine Hid.out ?_)
 unfold Hid
 rw [← hW4, ← hA]
 clear hW4 hA HN
 go_upto_region 5 with fail
 go_wp2_with (refine wpList_load_row rfl 41 (.tmp 10) rfl A rfl 41 (wvs (ent c.d.en)).toArray (0, 0) _ H4.out.2.2.1 Tryz.underlying41 rfl Tryz.size41 ?_; refine Hid.out ?_)
 unfold Hid
 go_wp2_with (refine wpList_store_row rfl 41 (.tmp 6) (.tmp 30) rfl (D + 1) (wvs (ent c.d.en)).toArray rfl rfl 41 (wvs z17).toArray H4.out.2.2.2 Tryz.size41 rfl (wvs_all _) ?_; refine Hid.out ?_)
 unfold Hid
 have HR : Hid (Blk (W4.setRow (D + 1) (wvs (ent c.d.en)).toArray) (D + 1) (wvs (ent c.d.en)) 41 ∧ Hw (W4.setRow (D + 1) (wvs (ent c.d.en)).toArray) c (lay xs (c.d.st + 0) [0, R]) { z with s := 0, r := R } v ∧ Keeps (· = c.g) w (W4.setRow (D + 1) (wvs (ent c.d.en)).toArray)) := by
  refine ⟨H4.out.2.2.2.setRow _, ?_, H4.out.2.1.setRow _ _ fun h => by have := H0.out.2.2.2.2.1; omega⟩
  exact H4.out.1.above H0.out.2.2.2.2.2.2 ((Keeps.refl _ _).setRow _ _ fun _ => by have := H0.out.2.2.2.2.1; omega)
 go_wp2
 refine bodyPost_ret (results_row_tmp2 rfl _ _ (D + 1) 41 (wvs (ent c.d.en)).toArray (0, 0) _ rfl HR.out.1 Tryz.underlying41 rfl Tryz.size41) rfl ?_
 exact ⟨rfl, HR.out.2.1, HR.out.2.2⟩
set_option maxHeartbeats 1000000 in
theorem load_st (c : Cns) (xs : List UInt32) (z : Sta) (v : List UInt32) (w : World) (h : Hw w c xs z v) (h1 : ¬ (z.s.toNat : Int) = 1) (h2 : ¬ (z.s.toNat : Int) = 2) : Calls Tryz.prog 11 #[.pointer (some ⟨c.W, 0, none⟩), .pointer (some ⟨c.b, 0, none⟩), .int .i64 c.p] w fun e w' => Left c w e (.tuple #[cxv v, .int .i64 0, .int .i64 0]) xs z v w' := by
 have g1 : ((z.s.toNat : Int) == 1) = false := by simpa using h1
 have g2 : ((z.s.toNat : Int) == 2) = false := by simpa using h2
 clear h1 h2
 obtain ⟨D, hD⟩ : ∃ D, D = w.heap.size := ⟨_, rfl⟩
 obtain ⟨W0, hW0⟩ : ∃ W0, W0 = w.alloc (.cells #[.int .u32 0, .int .u32 0, .int .u32 0, .int .u32 0, .int .u32 0, .int .u32 0, .int .u32 0, .int .u32 0, .int .u32 0, .int .u32 0, .int .u32 0, .int .u32 0, .int .u32 0, .int .u32 0, .int .u32 0, .int .u32 0, .int .u32 0] 41) := ⟨_, rfl⟩
 have hK0 : Keeps (fun _ => False) w W0 := by rw [hW0]; exact (Keeps.refl _ w).alloc _
 have hZ : Blk W0 D (wvs z17) 41 := by rw [hW0, hD]; exact Blk.new w _ 41
 have H0 : Hid (Hw W0 c xs z v) := h.kept hK0
 have HZ : Hid (Keeps (fun _ => False) w W0 ∧ Blk W0 D (wvs z17) 41 ∧ w.heap.size = D ∧ Low c w.heap.size) := ⟨hK0, hZ, hD.symm, h.low⟩
 have HC : Hid (Calls _ _ _ W0 _) := H0.out.asked
 clear h hK0 hZ
 go_enter Tryz.func11, Tryz.ntmps11
 go_upto_region 1 with fail
 rw [← hW0, ← hD]
 clear hW0 hD
 go_wp2_with fail
 refine HC.out.mono ?_
 rintro e w1 ⟨rfl, hKw1⟩
 have Hw1 : Hid (Hw w1 c xs z v ∧ Keeps (fun _ => False) W0 w1) := ⟨H0.out.kept hKw1, hKw1⟩
 have HNw1 : Hid _ := two_new w1 c.d.vs z.vs
 obtain ⟨W2, hW2⟩ : ∃ W2, W2 = ((((w1.alloc (.cells #[.int .i64 0, .int .i64 0, .int .u32 0, .int .u32 0, .int .u32 0, .nilFunc, .nilFunc] 82)).alloc (.cells #[.int .u32 0, .int .u32 0, .int .u32 0, .int .u32 0, .int .u32 0] 84)).setRow w1.heap.size c.d.vs.toArray).setRow (w1.heap.size + 1) z.vs.toArray) := ⟨_, rfl⟩
 obtain ⟨A, hA⟩ : ∃ A, A = w1.heap.size := ⟨_, rfl⟩
 have HW2 : Hid (Hw W2 c xs z v ∧ Blk W2 A c.d.vs 82 ∧ Blk W2 (A + 1) z.vs 84 ∧ Keeps (fun _ => False) W0 W2 ∧ W0.heap.size ≤ A ∧ A + 1 < W2.heap.size) := by
  obtain ⟨_, _, a, b, k⟩ := HNw1.out
  rw [← hW2] at a b k
  rw [← hA] at a b
  exact ⟨Hw1.out.1.kept k, a, b, Hw1.out.2.trans k fun _ _ h => h, by rw [hA]; exact Hw1.out.2.size, b.lt⟩
 clear hKw1
 unfold Wrd.v Sta.v stv
 go_wp2_with (refine wpList_store_row rfl 82 (.tmp 9) (.tmp 19) rfl w1.heap.size c.d.vs.toArray rfl rfl 82 #[.int .i64 0, .int .i64 0, .int .u32 0, .int .u32 0, .int .u32 0, .nilFunc, .nilFunc] HNw1.out.1 Tryz.size82 rfl Hw1.out.1.all ?_; refine Hid.out ?_)
 unfold Hid
 refine wpList_store_row rfl 84 (.tmp 10) (.tmp 20) rfl (w1.heap.size + 1) z.vs.toArray rfl rfl 84 #[.int .u32 0, .int .u32 0, .int .u32 0, .int .u32 0, .int .u32 0] HNw1.out.2.1 Tryz.size84 rfl (stvs_one z.s z.r z.t z.q z.o) ?_
 rw [← hW2, ← hA]
 clear hW2 hA HNw1 Hw1
 clear HC
 have n0 := HW2.out.2.2.1.cell (i := 0) rfl
 have n1 := HW2.out.2.2.1.cell (i := 1) rfl
 have HU0 : Hid (Keeps (fun _ => False) w W2 ∧ Blk W2 D (wvs z17) 41 ∧ A ≠ c.g ∧ D ≠ c.g) := ⟨HZ.out.1.trans HW2.out.2.2.2.1 fun _ _ h => h, HZ.out.2.1.kept HW2.out.2.2.2.1 fun h => h, by have := HZ.out.2.2.2.2.2.2.1; have := HW2.out.2.2.2.2.1; have := HZ.out.1.size; omega, by have := HZ.out.2.2.2.2.2.2.1; have := HZ.out.2.2.1; omega⟩
 have HU : Hid (Hw W2 c xs z v ∧ Keeps (· = c.g) w W2 ∧ Blk W2 D (wvs z17) 41 ∧ Blk W2 A c.d.vs 82) := ⟨HW2.out.1, HU0.out.1.mono fun _ _ h => h.elim, HU0.out.2.1, HW2.out.2.1⟩
 have HV : Hid (v.length = 17 ∧ (wvs v).toArray.size = 17) := by
  have e : v.length = 17 := by rw [← HU.out.1.sv]; have := HU.out.1.lo; have := HU.out.1.hi; rw [List.length_take, List.length_drop]; omega
  exact ⟨e, by simp [wvs_length, e]⟩
 have HC5 : Hid (Calls Tryz.prog 26 #[c.d.v, .pointer (some ⟨c.b, 0, none⟩)] W2 _) := saved_any c.d c.b c.g (xs) v W2 HU.out.1.mm (by have := HU.out.1.lo; have := HU.out.1.hi; omega) HU.out.1.sv
 go_upto_region 11 with fail
 go_wp2_with (refine wpList_load_row rfl 82 (.tmp 9) rfl A rfl 82 c.d.vs.toArray (0, 0) _ HU.out.2.2.2 Tryz.underlying82 rfl Tryz.size82 ?_; refine Hid.out ?_)
 unfold Hid
 go_wp2_with fail
 refine HC5.out.mono ?_
 rintro e w5 ⟨rfl, hK5⟩
 have HN : Hid _ := ctx_new w5 v
 obtain ⟨W6, hW6⟩ : ∃ W6, W6 = (w5.alloc (.cells #[.int .u32 0, .int .u32 0, .int .u32 0, .int .u32 0, .int .u32 0, .int .u32 0, .int .u32 0, .int .u32 0, .int .u32 0, .int .u32 0, .int .u32 0, .int .u32 0, .int .u32 0, .int .u32 0, .int .u32 0, .int .u32 0, .int .u32 0] 41)).setRow w5.heap.size (wvs v).toArray := ⟨_, rfl⟩
 obtain ⟨B, hB⟩ : ∃ B, B = w5.heap.size := ⟨_, rfl⟩
 have HU6 : Hid (Hw W6 c (xs) z v ∧ Keeps (· = c.g) w W6 ∧ Blk W6 D (wvs z17) 41 ∧ Blk W6 B (wvs v) 41) := by
  obtain ⟨_, a, k⟩ := HN.out
  rw [← hW6] at a k
  rw [← hB] at a
  have k2 := hK5.trans k fun _ _ h => h
  exact ⟨HU.out.1.kept k2, HU.out.2.1.trans (k2.mono fun _ _ h => h.elim) fun _ _ h => h, HU.out.2.2.1.kept k2 fun h => h, a⟩
 clear HC5 hK5
 unfold cxv
 go_wp2_with (refine wpList_store_row rfl 41 (.tmp 13) (.tmp 53) rfl w5.heap.size (wvs v).toArray rfl rfl 41 (wvs z17).toArray HN.out.1 (by rw [HV.out.2]; exact Tryz.size41) (by rw [HV.out.2]; rfl) (wvs_all _) ?_; refine Hid.out ?_)
 unfold Hid
 rw [← hW6, ← hB]
 clear hW6 hB HN HU
 have HU := HU6
 clear HU6
 go_upto_region 12 with fail
 go_wp2_with (refine wpList_load_row rfl 41 (.tmp 13) rfl B rfl 41 (wvs v).toArray (0, 0) _ HU.out.2.2.2 Tryz.underlying41 rfl (by rw [HV.out.2]; exact Tryz.size41) ?_; refine Hid.out ?_)
 unfold Hid
 go_wp2_with (refine wpList_store_row rfl 41 (.tmp 6) (.tmp 55) rfl D (wvs v).toArray rfl rfl 41 (wvs z17).toArray HU.out.2.2.1 (by rw [HV.out.2]; exact Tryz.size41) (by rw [HV.out.2]; rfl) (wvs_all _) ?_; refine Hid.out ?_)
 unfold Hid
 have HR : Hid (Blk (W6.setRow D (wvs (v)).toArray) D (wvs (v)) 41 ∧ Hw (W6.setRow D (wvs (v)).toArray) c (xs) z v ∧ Keeps (· = c.g) w (W6.setRow D (wvs (v)).toArray)) := by
  refine ⟨HU.out.2.2.1.setRow _, HU.out.1.above HZ.out.2.2.2 ((Keeps.refl _ _).setRow _ _ fun _ => by have := HZ.out.2.2.1; omega), HU.out.2.1.setRow _ _ fun h => by have := HZ.out.2.2.1; omega⟩
 go_wp2
 refine bodyPost_ret (results_row_tmp2 rfl _ _ D 41 (wvs (v)).toArray (0, 0) _ rfl HR.out.1 Tryz.underlying41 rfl (by rw [HV.out.2]; exact Tryz.size41)) rfl ?_
 exact ⟨rfl, HR.out.2.1, HR.out.2.2⟩
set_option maxHeartbeats 1000000 in
theorem load_yl (c : Cns) (xs : List UInt32) (z : Sta) (v : List UInt32) (w : World) (h : Hw w c xs z v) (h1 : (z.s.toNat : Int) = 1) : Calls Tryz.prog 11 #[.pointer (some ⟨c.W, 0, none⟩), .pointer (some ⟨c.b, 0, none⟩), .int .i64 c.p] w fun e w' => Left c w e (.tuple #[cxv v, .int .i64 0, .int .i64 0]) (lay xs (c.d.st + 0) [0]) { z with s := 0 } v w' := by
 have HO : Hid (Ok c { z with s := 0 }) := ⟨show ((0 : UInt32).toNat : Int) ≤ 3 by decide, h.ok.r, h.ok.t, h.ok.q, h.ok.o, fun e => absurd e (show ¬ ((0 : UInt32).toNat : Int) = 2 by decide)⟩
 have HE : Hid ((z.s.toNat : Int) = 1) := h1
 clear h1
 obtain ⟨D, hD⟩ : ∃ D, D = w.heap.size := ⟨_, rfl⟩
 obtain ⟨W0, hW0⟩ : ∃ W0, W0 = w.alloc (.cells #[.int .u32 0, .int .u32 0, .int .u32 0, .int .u32 0, .int .u32 0, .int .u32 0, .int .u32 0, .int .u32 0, .int .u32 0, .int .u32 0, .int .u32 0, .int .u32 0, .int .u32 0, .int .u32 0, .int .u32 0, .int .u32 0, .int .u32 0] 41) := ⟨_, rfl⟩
 have hK0 : Keeps (fun _ => False) w W0 := by rw [hW0]; exact (Keeps.refl _ w).alloc _
 have hZ : Blk W0 D (wvs z17) 41 := by rw [hW0, hD]; exact Blk.new w _ 41
 have H0 : Hid (Hw W0 c xs z v) := h.kept hK0
 have HZ : Hid (Keeps (fun _ => False) w W0 ∧ Blk W0 D (wvs z17) 41 ∧ w.heap.size = D ∧ Low c w.heap.size) := ⟨hK0, hZ, hD.symm, h.low⟩
 have HC : Hid (Calls _ _ _ W0 _) := H0.out.asked
 clear h hK0 hZ
 go_enter Tryz.func11, Tryz.ntmps11
 go_upto_region 1 with fail
 rw [← hW0, ← hD]
 clear hW0 hD
 go_wp2_with fail
 refine HC.out.mono ?_
 rintro e w1 ⟨rfl, hKw1⟩
 have Hw1 : Hid (Hw w1 c xs z v ∧ Keeps (fun _ => False) W0 w1) := ⟨H0.out.kept hKw1, hKw1⟩
 have HNw1 : Hid _ := two_new w1 c.d.vs z.vs
 obtain ⟨W2, hW2⟩ : ∃ W2, W2 = ((((w1.alloc (.cells #[.int .i64 0, .int .i64 0, .int .u32 0, .int .u32 0, .int .u32 0, .nilFunc, .nilFunc] 82)).alloc (.cells #[.int .u32 0, .int .u32 0, .int .u32 0, .int .u32 0, .int .u32 0] 84)).setRow w1.heap.size c.d.vs.toArray).setRow (w1.heap.size + 1) z.vs.toArray) := ⟨_, rfl⟩
 obtain ⟨A, hA⟩ : ∃ A, A = w1.heap.size := ⟨_, rfl⟩
 have HW2 : Hid (Hw W2 c xs z v ∧ Blk W2 A c.d.vs 82 ∧ Blk W2 (A + 1) z.vs 84 ∧ Keeps (fun _ => False) W0 W2 ∧ W0.heap.size ≤ A ∧ A + 1 < W2.heap.size) := by
  obtain ⟨_, _, a, b, k⟩ := HNw1.out
  rw [← hW2] at a b k
  rw [← hA] at a b
  exact ⟨Hw1.out.1.kept k, a, b, Hw1.out.2.trans k fun _ _ h => h, by rw [hA]; exact Hw1.out.2.size, b.lt⟩
 clear hKw1
 unfold Wrd.v Sta.v stv
 go_wp2_with (refine wpList_store_row rfl 82 (.tmp 9) (.tmp 19) rfl w1.heap.size c.d.vs.toArray rfl rfl 82 #[.int .i64 0, .int .i64 0, .int .u32 0, .int .u32 0, .int .u32 0, .nilFunc, .nilFunc] HNw1.out.1 Tryz.size82 rfl Hw1.out.1.all ?_; refine Hid.out ?_)
 unfold Hid
 refine wpList_store_row rfl 84 (.tmp 10) (.tmp 20) rfl (w1.heap.size + 1) z.vs.toArray rfl rfl 84 #[.int .u32 0, .int .u32 0, .int .u32 0, .int .u32 0, .int .u32 0] HNw1.out.2.1 Tryz.size84 rfl (stvs_one z.s z.r z.t z.q z.o) ?_
 rw [← hW2, ← hA]
 clear hW2 hA HNw1 Hw1
 clear HC
 have n0 := HW2.out.2.2.1.cell (i := 0) rfl
 have n1 := HW2.out.2.2.1.cell (i := 1) rfl
 rw [HE.out] at n0
 have HU0 : Hid (Keeps (fun _ => False) w W2 ∧ Blk W2 D (wvs z17) 41 ∧ A ≠ c.g ∧ D ≠ c.g) := ⟨HZ.out.1.trans HW2.out.2.2.2.1 fun _ _ h => h, HZ.out.2.1.kept HW2.out.2.2.2.1 fun h => h, by have := HZ.out.2.2.2.2.2.2.1; have := HW2.out.2.2.2.2.1; have := HZ.out.1.size; omega, by have := HZ.out.2.2.2.2.2.2.1; have := HZ.out.2.2.1; omega⟩
 obtain ⟨W3, hW3⟩ : ∃ W3, W3 = W2.alloc (.cells #[.int .u32 0] 38) := ⟨_, rfl⟩
 have hKW3 : Keeps (fun _ => False) W2 W3 := by rw [hW3]; exact (Keeps.refl _ _).alloc _
 have hBW3 : Blk W3 W2.heap.size [.int .u32 0] 38 := by rw [hW3]; exact Blk.new _ _ 38
 have HC2 : Hid (Calls Tryz.prog 24 #[c.d.v, .pointer (some ⟨c.b, 0, none⟩), .int .i64 0, .slice (some ⟨W2.heap.size, 0, none⟩) 1 1] W3 _) := write_any c.d c.b c.g xs 0 0 rfl (some ⟨W2.heap.size, 0, none⟩) 1 [0] W3 (HW2.out.1.mm.kept hKW3 (fun h => h) fun h => h) (seg1 0 hBW3) (by have := HW2.out.1.hi; simp; omega)
 have H3 : Hid (Hw W3 c xs z v ∧ Keeps (fun _ => False) w W3 ∧ Blk W3 D (wvs z17) 41 ∧ Blk W3 A c.d.vs 82) := ⟨HW2.out.1.kept hKW3, HU0.out.1.trans hKW3 fun _ _ h => h, HU0.out.2.1.kept hKW3 fun h => h, HW2.out.2.1.kept hKW3 fun h => h⟩
 clear hKW3 hBW3
 go_upto_region 8 with fail
 go_wp2_with (refine wpList_load_row rfl 82 (.tmp 9) rfl A rfl 82 c.d.vs.toArray (0, 0) _ HW2.out.2.1 Tryz.underlying82 rfl Tryz.size82 ?_; refine Hid.out ?_)
 unfold Hid
 go_wp2_with fail
 rw [← hW3]
 clear hW3
 refine HC2.out.mono ?_
 rintro e w4 ⟨rfl, hM, hK⟩
 have HU : Hid (Hw w4 c (lay xs (c.d.st + 0) [0]) { z with s := 0 } v ∧ Keeps (· = c.g) w w4 ∧ Blk w4 D (wvs z17) 41 ∧ Blk w4 A c.d.vs 82) := ⟨H3.out.1.lay_s 0 hK hM HO.out, (H3.out.2.1.mono fun _ _ h => h.elim).trans hK fun _ _ h => h, H3.out.2.2.1.kept hK HU0.out.2.2.2, H3.out.2.2.2.kept hK HU0.out.2.2.1⟩
 clear hM hK HC2 n0 n1
 have HV : Hid (v.length = 17 ∧ (wvs v).toArray.size = 17) := by
  have e : v.length = 17 := by rw [← HU.out.1.sv]; have := HU.out.1.lo; have := HU.out.1.hi; rw [List.length_take, List.length_drop]; omega
  exact ⟨e, by simp [wvs_length, e]⟩
 have HC5 : Hid (Calls Tryz.prog 26 #[c.d.v, .pointer (some ⟨c.b, 0, none⟩)] w4 _) := saved_any c.d c.b c.g (lay xs (c.d.st + 0) [0]) v w4 HU.out.1.mm (by have := HU.out.1.lo; have := HU.out.1.hi; omega) HU.out.1.sv
 go_upto_region 11 with fail
 go_wp2_with (refine wpList_load_row rfl 82 (.tmp 9) rfl A rfl 82 c.d.vs.toArray (0, 0) _ HU.out.2.2.2 Tryz.underlying82 rfl Tryz.size82 ?_; refine Hid.out ?_)
 unfold Hid
 go_wp2_with fail
 refine HC5.out.mono ?_
 rintro e w5 ⟨rfl, hK5⟩
 have HN : Hid _ := ctx_new w5 v
 obtain ⟨W6, hW6⟩ : ∃ W6, W6 = (w5.alloc (.cells #[.int .u32 0, .int .u32 0, .int .u32 0, .int .u32 0, .int .u32 0, .int .u32 0, .int .u32 0, .int .u32 0, .int .u32 0, .int .u32 0, .int .u32 0, .int .u32 0, .int .u32 0, .int .u32 0, .int .u32 0, .int .u32 0, .int .u32 0] 41)).setRow w5.heap.size (wvs v).toArray := ⟨_, rfl⟩
 obtain ⟨B, hB⟩ : ∃ B, B = w5.heap.size := ⟨_, rfl⟩
 have HU6 : Hid (Hw W6 c (lay xs (c.d.st + 0) [0]) { z with s := 0 } v ∧ Keeps (· = c.g) w W6 ∧ Blk W6 D (wvs z17) 41 ∧ Blk W6 B (wvs v) 41) := by
  obtain ⟨_, a, k⟩ := HN.out
  rw [← hW6] at a k
  rw [← hB] at a
  have k2 := hK5.trans k fun _ _ h => h
  exact ⟨HU.out.1.kept k2, HU.out.2.1.trans (k2.mono fun _ _ h => h.elim) fun _ _ h => h, HU.out.2.2.1.kept k2 fun h => h, a⟩
 clear HC5 hK5
 unfold cxv
 go_wp2_with (refine wpList_store_row rfl 41 (.tmp 13) (.tmp 53) rfl w5.heap.size (wvs v).toArray rfl rfl 41 (wvs z17).toArray HN.out.1 (by rw [HV.out.2]; exact Tryz.size41) (by rw [HV.out.2]; rfl) (wvs_all _) ?_; refine Hid.out ?_)
 unfold Hid
 rw [← hW6, ← hB]
 clear hW6 hB HN HU
 have HU := HU6
 clear HU6
 go_upto_region 12 with fail
 go_wp2_with (refine wpList_load_row rfl 41 (.tmp 13) rfl B rfl 41 (wvs v).toArray (0, 0) _ HU.out.2.2.2 Tryz.underlying41 rfl (by rw [HV.out.2]; exact Tryz.size41) ?_; refine Hid.out ?_)
 unfold Hid
 go_wp2_with (refine wpList_store_row rfl 41 (.tmp 6) (.tmp 55) rfl D (wvs v).toArray rfl rfl 41 (wvs z17).toArray HU.out.2.2.1 (by rw [HV.out.2]; exact Tryz.size41) (by rw [HV.out.2]; rfl) (wvs_all _) ?_; refine Hid.out ?_)
 unfold Hid
 have HR : Hid (Blk (W6.setRow D (wvs (v)).toArray) D (wvs (v)) 41 ∧ Hw (W6.setRow D (wvs (v)).toArray) c (lay xs (c.d.st + 0) [0]) { z with s := 0 } v ∧ Keeps (· = c.g) w (W6.setRow D (wvs (v)).toArray)) := by
  refine ⟨HU.out.2.2.1.setRow _, HU.out.1.above HZ.out.2.2.2 ((Keeps.refl _ _).setRow _ _ fun _ => by have := HZ.out.2.2.1; omega), HU.out.2.1.setRow _ _ fun h => by have := HZ.out.2.2.1; omega⟩
 go_wp2
 refine bodyPost_ret (results_row_tmp2 rfl _ _ D 41 (wvs (v)).toArray (0, 0) _ rfl HR.out.1 Tryz.underlying41 rfl (by rw [HV.out.2]; exact Tryz.size41)) rfl ?_
 exact ⟨rfl, HR.out.2.1, HR.out.2.2⟩
set_option maxHeartbeats 1000000 in
theorem load_on (c : Cns) (xs : List UInt32) (z : Sta) (v : List UInt32) (w : World) (h : Hw w c xs z v) (h2 : (z.s.toNat : Int) = 2) (R : UInt32) (hR : (R.toNat : Int) = z.r.toNat + 1) : Calls Tryz.prog 11 #[.pointer (some ⟨c.W, 0, none⟩), .pointer (some ⟨c.b, 0, none⟩), .int .i64 c.p] w fun e w' => Left c w e (.tuple #[cxv (ent c.d.en), .int .i64 c.act, .int .i64 0]) (lay xs (c.d.st + 0) [0, R]) { z with s := 0, r := R } v w' := by
 obtain ⟨ha, hr⟩ := h.ok.two h2
 have HO : Hid (Ok c { z with s := 0, r := R } ∧ ¬ c.act = 0) := ⟨⟨show ((0 : UInt32).toNat : Int) ≤ 3 by decide, by show (R.toNat : Int) ≤ _; omega, h.ok.t, h.ok.q, h.ok.o, fun e => absurd e (show ¬ ((0 : UInt32).toNat : Int) = 2 by decide)⟩, ha⟩
 have hb := h.rb
 have m1 : ((z.r.toNat : Int) + 1) % 4294967296 = (R.toNat : Int) := by rw [hR]; omega
 have HE : Hid ((z.s.toNat : Int) = 2) := h2
 clear ha hr hR hb h2
 obtain ⟨D, hD⟩ : ∃ D, D = w.heap.size := ⟨_, rfl⟩
 obtain ⟨W0, hW0⟩ : ∃ W0, W0 = w.alloc (.cells #[.int .u32 0, .int .u32 0, .int .u32 0, .int .u32 0, .int .u32 0, .int .u32 0, .int .u32 0, .int .u32 0, .int .u32 0, .int .u32 0, .int .u32 0, .int .u32 0, .int .u32 0, .int .u32 0, .int .u32 0, .int .u32 0, .int .u32 0] 41) := ⟨_, rfl⟩
 have hK0 : Keeps (fun _ => False) w W0 := by rw [hW0]; exact (Keeps.refl _ w).alloc _
 have hZ : Blk W0 D (wvs z17) 41 := by rw [hW0, hD]; exact Blk.new w _ 41
 have H0 : Hid (Hw W0 c xs z v) := h.kept hK0
 have HZ : Hid (Keeps (fun _ => False) w W0 ∧ Blk W0 D (wvs z17) 41 ∧ w.heap.size = D ∧ Low c w.heap.size) := ⟨hK0, hZ, hD.symm, h.low⟩
 have HC : Hid (Calls _ _ _ W0 _) := H0.out.asked
 clear h hK0 hZ
 go_enter Tryz.func11, Tryz.ntmps11
 go_upto_region 1 with fail
 rw [← hW0, ← hD]
 clear hW0 hD
 go_wp2_with fail
 refine HC.out.mono ?_
 rintro e w1 ⟨rfl, hKw1⟩
 have Hw1 : Hid (Hw w1 c xs z v ∧ Keeps (fun _ => False) W0 w1) := ⟨H0.out.kept hKw1, hKw1⟩
 have HNw1 : Hid _ := two_new w1 c.d.vs z.vs
 obtain ⟨W2, hW2⟩ : ∃ W2, W2 = ((((w1.alloc (.cells #[.int .i64 0, .int .i64 0, .int .u32 0, .int .u32 0, .int .u32 0, .nilFunc, .nilFunc] 82)).alloc (.cells #[.int .u32 0, .int .u32 0, .int .u32 0, .int .u32 0, .int .u32 0] 84)).setRow w1.heap.size c.d.vs.toArray).setRow (w1.heap.size + 1) z.vs.toArray) := ⟨_, rfl⟩
 obtain ⟨A, hA⟩ : ∃ A, A = w1.heap.size := ⟨_, rfl⟩
 have HW2 : Hid (Hw W2 c xs z v ∧ Blk W2 A c.d.vs 82 ∧ Blk W2 (A + 1) z.vs 84 ∧ Keeps (fun _ => False) W0 W2 ∧ W0.heap.size ≤ A ∧ A + 1 < W2.heap.size) := by
  obtain ⟨_, _, a, b, k⟩ := HNw1.out
  rw [← hW2] at a b k
  rw [← hA] at a b
  exact ⟨Hw1.out.1.kept k, a, b, Hw1.out.2.trans k fun _ _ h => h, by rw [hA]; exact Hw1.out.2.size, b.lt⟩
 clear hKw1
 unfold Wrd.v Sta.v stv
 go_wp2_with (refine wpList_store_row rfl 82 (.tmp 9) (.tmp 19) rfl w1.heap.size c.d.vs.toArray rfl rfl 82 #[.int .i64 0, .int .i64 0, .int .u32 0, .int .u32 0, .int .u32 0, .nilFunc, .nilFunc] HNw1.out.1 Tryz.size82 rfl Hw1.out.1.all ?_; refine Hid.out ?_)
 unfold Hid
 refine wpList_store_row rfl 84 (.tmp 10) (.tmp 20) rfl (w1.heap.size + 1) z.vs.toArray rfl rfl 84 #[.int .u32 0, .int .u32 0, .int .u32 0, .int .u32 0, .int .u32 0] HNw1.out.2.1 Tryz.size84 rfl (stvs_one z.s z.r z.t z.q z.o) ?_
 rw [← hW2, ← hA]
 clear hW2 hA HNw1 Hw1
 clear HC
 have n0 := HW2.out.2.2.1.cell (i := 0) rfl
 have n1 := HW2.out.2.2.1.cell (i := 1) rfl
 rw [HE.out] at n0
 have HU0 : Hid (Keeps (fun _ => False) w W2 ∧ Blk W2 D (wvs z17) 41 ∧ A ≠ c.g ∧ D ≠ c.g) := ⟨HZ.out.1.trans HW2.out.2.2.2.1 fun _ _ h => h, HZ.out.2.1.kept HW2.out.2.2.2.1 fun h => h, by have := HZ.out.2.2.2.2.2.2.1; have := HW2.out.2.2.2.2.1; have := HZ.out.1.size; omega, by have := HZ.out.2.2.2.2.2.2.1; have := HZ.out.2.2.1; omega⟩
 have HC2 : Hid (Calls Tryz.prog 25 #[c.d.v, .pointer (some ⟨c.b, 0, none⟩), .int .u32 (R.toNat : Int)] W2 _) := again_any c xs z v W2 HW2.out.1 HO.out.2 R HO.out.1
 go_upto_region 6 with fail
 go_wp2_with (refine wpList_load_row rfl 82 (.tmp 9) rfl A rfl 82 c.d.vs.toArray (0, 0) _ HW2.out.2.1 Tryz.underlying82 rfl Tryz.size82 ?_; refine Hid.out ?_)
 unfold Hid
 go_wp2_with fail
 refine HC2.out.mono ?_
 rintro e w4 ⟨rfl, hh, hK⟩
 have HU : Hid (Hw w4 c (lay xs (c.d.st + 0) [0, R]) { z with s := 0, r := R } v ∧ Keeps (· = c.g) w w4 ∧ Blk w4 D (wvs z17) 41) := ⟨hh, (HU0.out.1.mono fun _ _ h => h.elim).trans hK fun _ _ h => h, HU0.out.2.1.kept hK HU0.out.2.2.2⟩
 have HU : Hid (Hw w4 c (lay xs (c.d.st + 0) [0, R]) { z with s := 0, r := R } v ∧ Keeps (· = c.g) w w4 ∧ Blk w4 D (wvs z17) 41 ∧ True) := ⟨HU.out.1, HU.out.2.1, HU.out.2.2, trivial⟩
 clear hh hK HC2 n0 n1
 unfold cxv
 go_wp2_with (refine wpList_store_row rfl 41 (.tmp 6) (.tmp 36) rfl D (wvs (ent c.d.en)).toArray rfl rfl 41 (wvs z17).toArray HU.out.2.2.1 Tryz.size41 rfl (wvs_all _) ?_; refine Hid.out ?_)
 unfold Hid
 have HR : Hid (Blk (w4.setRow D (wvs (ent c.d.en)).toArray) D (wvs (ent c.d.en)) 41 ∧ Hw (w4.setRow D (wvs (ent c.d.en)).toArray) c (lay xs (c.d.st + 0) [0, R]) { z with s := 0, r := R } v ∧ Keeps (· = c.g) w (w4.setRow D (wvs (ent c.d.en)).toArray)) := by
  refine ⟨HU.out.2.2.1.setRow _, HU.out.1.above HZ.out.2.2.2 ((Keeps.refl _ _).setRow _ _ fun _ => by have := HZ.out.2.2.1; omega), HU.out.2.1.setRow _ _ fun h => by have := HZ.out.2.2.1; omega⟩
 go_wp2
 refine bodyPost_ret (results_row_tmp2 rfl _ _ D 41 (wvs (ent c.d.en)).toArray (0, 0) _ rfl HR.out.1 Tryz.underlying41 rfl Tryz.size41) rfl ?_
 exact ⟨rfl, HR.out.2.1, HR.out.2.2⟩
theorem wp_make_run {P : Program} {o : Oper} {a : Act} {w : World} {K : Act → World → Prop} {Q : Exit → Act → World → Prop} (s x : Operand) (t : TypeId)
  (ho : o.op = .makeSlice t s x) (vs vx v' : Value) (w' : World) (hs : a.eval s = vs) (hx : a.eval x = vx)
  (hr : (Instr.makeSlice t vs vx).run P w = .ok v' w') (h : K (a.put o.dst v') w') : o.wp P a w K Q := by
 unfold Oper.wp execOp
 simp only [ho, hs, hx, Sem.run_bind, hr, Result.andThen_ok, Sem.run_pure]
 exact h
def zw5 : List UInt32 := [0, 0, 0, 0, 0]
def Sta0 : Sta := ⟨0, 0, 0, 0, 0⟩
theorem Hw.lay_0 {w w' : World} {c : Cns} {xs : List UInt32} {z : Sta} {v : List UInt32} (h : Hw w c xs z v) (k : Keeps (· = c.g) w w') (hm : Mm w' c.b c.g (lay xs (c.d.st + 0) zw5)) : Hw w' c (lay xs (c.d.st + 0) zw5) Sta0 v :=
 h.laid k hm (lay_length _ _ _ (by have := h.hi; simp [zw5]; omega)) (win_in xs c.d.st zw5 (by have := h.hi; simp [zw5]; omega) 5 rfl) (by rw [win_off _ _ _ (by have := h.hi; simp [zw5]; omega) _ _ (.inl (by have := h.lo; omega))]; exact h.sv)
  ⟨show ((0 : UInt32).toNat : Int) ≤ 3 by decide, by have := h.ok.r; show (0 : Int) ≤ _; omega, show ((0 : UInt32).toNat : Int) ≤ 6 by decide, fun _ => rfl, by have := h.ok.o; show (0 : Int) ≤ _; omega, fun e => absurd e (show ¬ ((0 : UInt32).toNat : Int) = 2 by decide)⟩
set_option maxHeartbeats 1000000 in
theorem bgn_any (c : Cns) (xs : List UInt32) (z : Sta) (v : List UInt32) (w : World) (h : Hw w c xs z v) : Calls Tryz.prog 18 #[.pointer (some ⟨c.W, 0, none⟩), .pointer (some ⟨c.b, 0, none⟩), .int .i64 c.p] w fun e w' => Left c w e (.int .i64 0) (lay (lay xs (c.d.st + 0) zw5) c.d.sv (ent c.d.en)) Sta0 (ent c.d.en) w' := by
 have H0 : Hid (Hw w c xs z v) := h
 have HC : Hid (Calls _ _ _ w _) := H0.out.find
 have HL : Hid (c.g < w.heap.size) := h.mm.row.lt
 clear h
 go_enter Tryz.func18, Tryz.ntmps18
 go_wp2_with fail
 refine HC.out.mono ?_
 rintro e w1 ⟨rfl, hKw1⟩
 have HS1 : Hid (w.heap.size ≤ w1.heap.size) := hKw1.size
 have Hw1 : Hid (Hw w1 c xs z v ∧ Keeps (fun _ => False) w w1) := ⟨H0.out.kept hKw1, hKw1⟩
 have HNw1 : Hid _ := one_new w1 c.d.vs rfl
 obtain ⟨W2, hW2⟩ : ∃ W2, W2 = ((w1.alloc (.cells #[.int .i64 0, .int .i64 0, .int .u32 0, .int .u32 0, .int .u32 0, .nilFunc, .nilFunc] 82)).setRow w1.heap.size c.d.vs.toArray) := ⟨_, rfl⟩
 obtain ⟨A, hA⟩ : ∃ A, A = w1.heap.size := ⟨_, rfl⟩
 have HW2 : Hid (Hw W2 c xs z v ∧ Blk W2 A c.d.vs 82 ∧ Keeps (fun _ => False) w W2 ∧ A ≠ c.g) := by
  obtain ⟨_, a, k⟩ := HNw1.out
  rw [← hW2] at a k
  rw [← hA] at a
  exact ⟨Hw1.out.1.kept k, a, Hw1.out.2.trans k fun _ _ h => h, by have := HL.out; have := HS1.out; omega⟩
 clear hKw1
 unfold Wrd.v
 go_wp2_with (refine wpList_store_row rfl 82 (.tmp 7) (.tmp 15) rfl w1.heap.size c.d.vs.toArray rfl rfl 82 #[.int .i64 0, .int .i64 0, .int .u32 0, .int .u32 0, .int .u32 0, .nilFunc, .nilFunc] HNw1.out.1 Tryz.size82 rfl Hw1.out.1.all ?_; refine Hid.out ?_)
 unfold Hid
 rw [← hW2, ← hA]
 clear hW2 hA HNw1 Hw1
 clear HC
 go_upto_region 4 with fail
 obtain ⟨W3, hW3⟩ : ∃ W3, W3 = W2.drew.alloc (.cells (wvs (List.replicate 5 0)).toArray 38) := ⟨_, rfl⟩
 have hKW3 : Keeps (fun _ => False) W2 W3 := by rw [hW3]; exact (Keeps.refl _ _).drew.alloc _
 have hBW3 : Blk W3 W2.heap.size (wvs zw5) 38 := by rw [hW3]; exact Blk.new W2.drew _ 38
 have hmk : (Instr.makeSlice 61 (.int .i64 5) (.int .i64 5)).run Tryz.prog W2.drew = .ok (.slice (some ⟨W2.heap.size, 0, none⟩) 5 5) W3 := by rw [hW3]; exact run_make_words (w := W2.drew) 5 (by omega)
 have HC2 : Hid (Calls Tryz.prog 24 #[c.d.v, .pointer (some ⟨c.b, 0, none⟩), .int .i64 0, .slice (some ⟨W2.heap.size, 0, none⟩) 5 5] W3 _) := write_any c.d c.b c.g xs 0 0 rfl (some ⟨W2.heap.size, 0, none⟩) 5 zw5 W3 (HW2.out.1.mm.kept hKW3 (fun h => h) fun h => h) (segW_of_blk hBW3) (by have := HW2.out.1.hi; simp [zw5]; omega)
 have H3 : Hid (Hw W3 c xs z v ∧ Keeps (fun _ => False) w W3 ∧ Blk W3 A c.d.vs 82) := ⟨HW2.out.1.kept hKW3, HW2.out.2.2.1.trans hKW3 fun _ _ h => h, HW2.out.2.1.kept hKW3 fun h => h⟩
 clear hKW3 hBW3 hW3
 have HM : Hid (_ = _) := hmk
 clear hmk
 refine wp_region_held_drew (S := fun w' => Blk w' A c.d.vs 82) Tryz.mixh HW2.out.2.1.drew (fun hHeld => ?_)
 simp only [t1, t2, List.length_nil, Nat.reduceAdd, t4, Array.replicate_zero, t6, List.nil_append, t8]
 refine hk 0 (.agg c.d.vs.toArray) hHeld ?_ (hr := fun w hS => exec_load_row 82 (.tmp 7) rfl A rfl 82 _ (0, 0) _ hS Tryz.underlying82 rfl Tryz.size82)
 refine hk 1 (.pointer (some ⟨c.b, 0, none⟩)) hHeld ?_
 simp only [Act.put, s1, s2, s3]
 refine rd 2 fun Kq hK => ?_
 refine wp_make_run (.const (.int .i64 5)) (.const (.int .i64 5)) 61 rfl (.int .i64 5) (.int .i64 5) (.slice (some ⟨W2.heap.size, 0, none⟩) 5 5) W3 rfl rfl HM.out ?_
 refine hK _ _ H3.out.2.2 (fun hHeld => ?_)
 simp only [Act.put, s1, s2, s3]
 refine rd 3 fun Kq hK => ?_
 go_simp
 refine HC2.out.mono ?_
 rintro e w4 ⟨rfl, hM, hKw⟩
 have H4 : Hid (Hw w4 c (lay xs (c.d.st + 0) zw5) Sta0 v ∧ Keeps (· = c.g) w w4 ∧ Blk w4 A c.d.vs 82) := ⟨H3.out.1.lay_0 hKw hM, (H3.out.2.1.mono fun _ _ h => h.elim).trans hKw fun _ _ h => h, H3.out.2.2.kept hKw HW2.out.2.2.2⟩
 clear hM hKw HC2
 refine hK _ _ H4.out.2.2 (fun hHeld => ?_)
 simp only [Act.put, s1, s2, s3]
 refine hk 4 (.int .i64 0) hHeld ?_
 simp only [Act.put, s1, s2, s3]
 refine wpAnyH_done (by kernel_rfl) ?_ _
 clear hHeld hK
 have c2 := H4.out.2.2.cell (i := 2) rfl
 have HC5 : Hid (Calls Tryz.prog 28 #[c.d.v, .pointer (some ⟨c.b, 0, none⟩), cxv (ent c.d.en)] w4 _) := save_any c.d c.b c.g _ (ent c.d.en) w4 H4.out.1.mm rfl (by have := H4.out.1.lo; have := H4.out.1.hi; omega)
 go_upto_region 7 with fail
 go_wp2_with (refine wpList_load_row rfl 82 (.tmp 7) rfl A rfl 82 c.d.vs.toArray (0, 0) _ H4.out.2.2 Tryz.underlying82 rfl Tryz.size82 ?_; refine Hid.out ?_)
 unfold Hid
 go_wp2_with fail
 refine HC5.out.mono ?_
 rintro e w6 ⟨rfl, hM, hKw⟩
 have H6 : Hid (Hw w6 c (lay (lay xs (c.d.st + 0) zw5) c.d.sv (ent c.d.en)) Sta0 (ent c.d.en) ∧ Keeps (· = c.g) w w6) := ⟨H4.out.1.lay_v (ent c.d.en) rfl hKw hM, H4.out.2.1.trans hKw fun _ _ h => h⟩
 clear hM hKw HC5
 go_wp2
 go_ret
 exact ⟨rfl, H6.out.1, H6.out.2⟩
theorem bgn_no (fr : Int) (E n W b g : Nat) (p : Int) (xs : List UInt32) (w : World) (hd : Blk w W [.int .i64 fr, .slice (some ⟨E, 0, none⟩) n n] 120) (hm : Mm w b g xs) (hx : ((xs.length / 16 : Nat) : Int) = fr) (hp : p < 0 ∨ (n : Int) ≤ p) :
  Calls Tryz.prog 18 #[.pointer (some ⟨W, 0, none⟩), .pointer (some ⟨b, 0, none⟩), .int .i64 p] w fun e w' => e = .returned (.int .i64 230) ∧ Keeps (fun _ => False) w w' := by
 have HC : Hid (Calls _ _ _ w _) := find_no fr E n W b g p xs w hd hm hx hp
 clear hd hm hx hp
 go_enter Tryz.func18, Tryz.ntmps18
 go_wp2_with fail
 refine HC.out.mono ?_
 rintro e w1 ⟨rfl, hK1⟩
 have HK : Hid (Keeps (fun _ => False) w w1) := hK1
 clear hK1
 have HN : Hid _ := one_new w1 [.int .i64 0, .int .i64 0, .int .u32 0, .int .u32 0, .int .u32 0, .nilFunc, .nilFunc] rfl
 go_wp2_with (refine wpList_store_row rfl 82 (.tmp 7) (.tmp 15) rfl w1.heap.size #[.int .i64 0, .int .i64 0, .int .u32 0, .int .u32 0, .int .u32 0, .nilFunc, .nilFunc] rfl rfl 82 #[.int .i64 0, .int .i64 0, .int .u32 0, .int .u32 0, .int .u32 0, .nilFunc, .nilFunc] HN.out.1 Tryz.size82 rfl z7_one ?_; refine Hid.out ?_)
 unfold Hid
 go_wp2
 go_ret
 exact ⟨rfl, HK.out.trans HN.out.2.2 fun _ _ h => h⟩
end Go.Proofs.YtofjbkoojimmhaaGreat
