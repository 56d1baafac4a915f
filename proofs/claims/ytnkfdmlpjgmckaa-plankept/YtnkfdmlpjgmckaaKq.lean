import Derived.Test.YtnkfdmlpjgmckaaKp
import Derived.Test.YtnkfdmlpjgmckaaAb
import Derived.Deep.RegionHeld2
import Derived.Deep.RegionHeld3
namespace Go.Proofs.Ytnkfdmlpjgmckaa
open Go.RowKit
set_option linter.unusedVariables false
set_option maxRecDepth 6000

/-- Pai configurations, each in a block of its own. -/
structure Pai (w : World) (x y : Cfg) (C D N M : Nat) (w' : World) : Prop where
  a : One w x C N w'
  b : One w y D M w'
theorem Pai.mk' {w : World} {x y : Cfg} {N M : Nat} (hx : x.In w N) (hN : N ≤ w.heap.size) (hy : y.In w M) (hM : M ≤ w.heap.size) :
    Pai w x y w.heap.size (w.heap.size + 1) N M (y.laid (x.laid w)) := by
  have h1 := One.mk' hx hN
  have hK : Keeps (fun _ => False) (x.laid w) (y.laid (x.laid w)) := (Keeps.refl _ _).alloc _
  have hs : (x.laid w).heap.size = w.heap.size + 1 := by simp [Cfg.laid]
  refine ⟨h1.kept hK, ?_, h1.keeps.trans hK fun _ _ h => h, hy.keeps hM (h1.keeps.trans hK fun _ _ h => h), by omega, hM⟩
  rw [← hs]
  exact Blk.new _ _ _
theorem Pai.kept {w : World} {x y : Cfg} {C D N M : Nat} {w' w'' : World} (h : Pai w x y C D N M w') (hK : Keeps (fun _ => False) w' w'') : Pai w x y C D N M w'' := ⟨h.a.kept hK, h.b.kept hK⟩

set_option maxHeartbeats 8000000 in
theorem asked_any (x y : Cfg) (k p : Int) (w : World) (N M : Nat) (hx : x.In w N) (hN : N ≤ w.heap.size) (hy : y.In w M) (hM : M ≤ w.heap.size) (hp : x.pure = y.pure) (ht : tot x.cs x.cs.length ≤ 2147483647) :
    Calls Try.prog 24 #[x.v, y.v, .int .i64 k, .int .i64 p] w fun e w' => e = .returned (.bool true) ∧ Keeps (fun _ => False) w w' := by
  obtain ⟨W, hW⟩ : ∃ W, W = y.laid (x.laid w) := ⟨_, rfl⟩
  obtain ⟨C, hC⟩ : ∃ C, C = w.heap.size := ⟨_, rfl⟩
  obtain ⟨D, hD⟩ : ∃ D, D = w.heap.size + 1 := ⟨_, rfl⟩
  have HO : Hid (Pai w x y C D N M W) := by rw [hW, hC, hD]; exact Pai.mk' hx hN hy hM
  have HE : Hid (Eqv x y ∧ tot x.cs x.cs.length ≤ 2147483647 ∧ tot y.cs y.cs.length ≤ 2147483647) := ⟨Eqv.of hp, ht, (Eqv.of hp).tot ht⟩
  clear hx hN hy hM hp ht
  unfold Cfg.laid at hW
  go_enter Try.func24, Try.ntmps24
  go_upto_region 1 with fail
  rw [← hW, ← hD, ← hC]
  clear hW hC hD
  obtain ⟨c0, c1, c2, c3, c4, c5, c6⟩ := HO.out.a.cells
  go_wp2_with fail
  refine (at_any x k 100 W N HO.out.a.cin HO.out.a.nn).mono ?_
  rintro e w2 ⟨pl, er, rfl, hR, hK⟩
  have HO2 : Hid (Pai w x y C D N M w2 ∧ AtR x k 100 pl er) := ⟨HO.out.kept hK, hR⟩
  clear hK hR c0 c1 c2 c3 c4 c5 c6 HO
  obtain ⟨B, hB⟩ : ∃ D, D = w2.heap.size := ⟨_, rfl⟩
  obtain ⟨W2, hW2⟩ : ∃ W2, W2 = w2.alloc (.cells #[.int .i64 pl.win, .int .i64 pl.part, .int .i64 pl.off, .int .i64 pl.fin] 30) := ⟨_, rfl⟩
  have HW2 : Hid (Pai w x y C D N M W2 ∧ Blk W2 B pl.vs 30) := by rw [hW2, hB]; exact ⟨HO2.out.1.kept ((Keeps.refl _ _).alloc _), Blk.new _ _ _⟩
  go_upto_region 2 with fail
  rw [← hW2, ← hB]
  clear hW2 hB
  obtain ⟨c0, c1, c2, c3, c4, c5, c6⟩ := HW2.out.1.b.cells
  go_wp2_with fail
  refine (rat_any y k 100 W2 M HW2.out.1.b.cin HW2.out.1.b.nn).mono ?_
  rintro e w3 ⟨pl', er', rfl, hR, hK⟩
  obtain ⟨rfl, rfl⟩ := (HE.out.1.at HO2.out.2).unique hR
  have HO3 : Hid (Pai w x y C D N M w3 ∧ Blk w3 B pl.vs 30) := ⟨HW2.out.1.kept hK, HW2.out.2.kept hK fun h => h⟩
  clear hK hR c0 c1 c2 c3 c4 c5 c6 HW2 HO2
  obtain ⟨D', hD'⟩ : ∃ D, D = w3.heap.size := ⟨_, rfl⟩
  obtain ⟨W3, hW3⟩ : ∃ W3, W3 = w3.alloc (.cells #[.int .i64 pl.win, .int .i64 pl.part, .int .i64 pl.off, .int .i64 pl.fin] 30) := ⟨_, rfl⟩
  have HW3 : Hid (Pai w x y C D N M W3 ∧ Blk W3 B pl.vs 30 ∧ Blk W3 D' pl.vs 30) := by rw [hW3, hD']; exact ⟨HO3.out.1.kept ((Keeps.refl _ _).alloc _), HO3.out.2.alloc _, Blk.new _ _ _⟩
  go_upto_region 3 with fail
  rw [← hW3, ← hD']
  clear hW3 hD' HO3
  have d0 := HW3.out.2.1.cell (i := 0) rfl
  have d1 := HW3.out.2.1.cell (i := 1) rfl
  have d2 := HW3.out.2.1.cell (i := 2) rfl
  have d3 := HW3.out.2.1.cell (i := 3) rfl
  have f0 := HW3.out.2.2.cell (i := 0) rfl
  have f1 := HW3.out.2.2.cell (i := 1) rfl
  have f2 := HW3.out.2.2.cell (i := 2) rfl
  have f3 := HW3.out.2.2.cell (i := 3) rfl
  go_upto_region 5 with fail
  have HO : Hid (Pai w x y C D N M W3) := HW3.out.1
  clear d0 d1 d2 d3 f0 f1 f2 f3 HW3
  obtain ⟨c0, c1, c2, c3, c4, c5, c6⟩ := HO.out.a.cells
  obtain ⟨l, e0, hst, hl16⟩ := StK.of x k
  have HS : Hid (StK x k l e0) := hst
  obtain ⟨L, hL⟩ : ∃ L, l.length = L := ⟨_, rfl⟩
  have HL : Hid (l.length = L) := hL
  clear hst hL hl16
  go_wp2_with fail
  refine (starts_k HS.out HO.out.a.cin HO.out.a.nn).mono ?_
  rintro e w4 ⟨a1, cp1, rfl, hs1, hl1, hK⟩
  have HO4 : Hid (Pai w x y C D N M w4 ∧ SegA ivs 1 w4 a1 l ∧ (l.length ≤ cp1 ∧ cp1 ≤ maxLen)) := ⟨HO.out.kept hK, hs1, hl1⟩
  clear hK hs1 hl1 c0 c1 c2 c3 c4 c5 c6 HO
  rw [HL.out]
  obtain ⟨c0, c1, c2, c3, c4, c5, c6⟩ := HO4.out.1.b.cells
  go_wp2_with fail
  refine (rstarts_k (HE.out.1.st HS.out) HO4.out.1.b.cin HO4.out.1.b.nn).mono ?_
  rintro e w5 ⟨a2, cp2, rfl, hs2, hl2, hK⟩
  have HO5 : Hid (Pai w x y C D N M w5) := HO4.out.1.kept hK
  have HC := sameInts_eq a1 a2 cp1 cp2 l w5 (HO4.out.2.1.kept hK fun _ _ _ e => e) hs2 HO4.out.2.2 hl2
  rw [HL.out] at HC ⊢
  have HC : Hid (Calls _ _ _ _ _) := HC
  clear hK hs2 hl2 c0 c1 c2 c3 c4 c5 c6 HO4 HS
  go_wp2_with fail
  refine HC.out.mono ?_
  rintro e w6 ⟨rfl, hK⟩
  have HO6 : Hid (Pai w x y C D N M w6) := HO5.out.kept hK
  clear hK HC HO5 HL
  go_upto_region 9 with fail
  obtain ⟨c0, c1, c2, c3, c4, c5, c6⟩ := HO6.out.a.cells
  obtain ⟨l2, e2, hst, hl2⟩ := SpK.of x p HE.out.2.1
  have HS : Hid (SpK x p l2 e2) := hst
  obtain ⟨L2, hL⟩ : ∃ L, l2.length = L := ⟨_, rfl⟩
  have HL : Hid (l2.length = L2) := hL
  clear hst hL hl2
  go_wp2_with fail
  refine (spans_k HS.out HO6.out.a.cin HO6.out.a.nn HE.out.2.1).mono ?_
  rintro e w7 ⟨a3, cp3, rfl, hs1, hl1, hK⟩
  have HO7 : Hid (Pai w x y C D N M w7 ∧ SegA Spn.vs 4 w7 a3 l2 ∧ (l2.length ≤ cp3 ∧ cp3 ≤ maxLen)) := ⟨HO6.out.kept hK, hs1, hl1⟩
  clear hK hs1 hl1 c0 c1 c2 c3 c4 c5 c6 HO6
  rw [HL.out]
  obtain ⟨c0, c1, c2, c3, c4, c5, c6⟩ := HO7.out.1.b.cells
  go_wp2_with fail
  refine (rspans_k (HE.out.1.sp HS.out) HO7.out.1.b.cin HO7.out.1.b.nn HE.out.2.2).mono ?_
  rintro e w8 ⟨a4, cp4, rfl, hs2, hl2, hK⟩
  have HO8 : Hid (Pai w x y C D N M w8) := HO7.out.1.kept hK
  have HC := sameSpans_eq a3 a4 cp3 cp4 l2 w8 (HO7.out.2.1.kept hK fun _ _ _ e => e) hs2 HO7.out.2.2 hl2
  rw [HL.out] at HC ⊢
  have HC : Hid (Calls _ _ _ _ _) := HC
  clear hK hs2 hl2 c0 c1 c2 c3 c4 c5 c6 HO7 HS
  go_wp2_with fail
  refine HC.out.mono ?_
  rintro e w9 ⟨rfl, hK⟩
  have HO9 : Hid (Pai w x y C D N M w9) := HO8.out.kept hK
  clear hK HC HO8 HL
  go_upto_region 13 with fail
  obtain ⟨c0, c1, c2, c3, c4, c5, c6⟩ := HO9.out.a.cells
  go_wp2_with fail
  refine (share_any x p w9 N HO9.out.a.cin HO9.out.a.nn HE.out.2.1).mono ?_
  rintro e w10 ⟨r, er5, rfl, hR, hK⟩
  have HO10 : Hid (Pai w x y C D N M w10 ∧ ShR x p r er5) := ⟨HO9.out.kept hK, hR⟩
  clear hK hR c0 c1 c2 c3 c4 c5 c6 HO9
  obtain ⟨c0, c1, c2, c3, c4, c5, c6⟩ := HO10.out.1.b.cells
  go_wp2_with fail
  refine (rshare_any y p w10 M HO10.out.1.b.cin HO10.out.1.b.nn HE.out.2.2).mono ?_
  rintro e w11 ⟨r', er', rfl, hR, hK⟩
  obtain ⟨rfl, rfl⟩ := (HE.out.1.sh HO10.out.2).unique hR
  have HO11 : Hid (Pai w x y C D N M w11) := HO10.out.1.kept hK
  have hq := order_self hR.num
  clear hK hR c0 c1 c2 c3 c4 c5 c6 HO10
  go_upto_region 17 with fail
  clear hq
  obtain ⟨c0, c1, c2, c3, c4, c5, c6⟩ := HO11.out.a.cells
  go_wp2_with fail
  refine (gap_any x p w11 N HO11.out.a.cin HO11.out.a.nn HE.out.2.1).mono ?_
  rintro e w12 ⟨r6, er6, rfl, hR, hK⟩
  have HO12 : Hid (Pai w x y C D N M w12 ∧ GpR x p r6 er6) := ⟨HO11.out.kept hK, hR⟩
  clear hK hR c0 c1 c2 c3 c4 c5 c6 HO11
  obtain ⟨c0, c1, c2, c3, c4, c5, c6⟩ := HO12.out.1.b.cells
  go_wp2_with fail
  refine (rgap_any y p w12 M HO12.out.1.b.cin HO12.out.1.b.nn HE.out.2.2).mono ?_
  rintro e w13 ⟨r', er', rfl, hR, hK⟩
  obtain ⟨rfl, rfl⟩ := (HE.out.1.gp HO12.out.2).unique hR
  have HO13 : Hid (Pai w x y C D N M w13) := HO12.out.1.kept hK
  clear hK hR c0 c1 c2 c3 c4 c5 c6 HO12
  go_upto_region 21 with fail
  obtain ⟨c0, c1, c2, c3, c4, c5, c6⟩ := HO13.out.a.cells
  go_wp2_with fail
  refine (core_any x p w13 N HO13.out.a.cin HO13.out.a.nn).mono ?_
  rintro e w14 ⟨r7, er7, rfl, hR, hK⟩
  have HO14 : Hid (Pai w x y C D N M w14 ∧ CoR x p r7 er7) := ⟨HO13.out.kept hK, hR⟩
  clear hK hR c0 c1 c2 c3 c4 c5 c6 HO13
  obtain ⟨c0, c1, c2, c3, c4, c5, c6⟩ := HO14.out.1.b.cells
  go_wp2_with fail
  refine (rcore_any y p w14 M HO14.out.1.b.cin HO14.out.1.b.nn).mono ?_
  rintro e w15 ⟨r', er', rfl, hR, hK⟩
  obtain ⟨rfl, rfl⟩ := (HE.out.1.co HO14.out.2).unique hR
  have HO15 : Hid (Pai w x y C D N M w15) := HO14.out.1.kept hK
  clear hK hR c0 c1 c2 c3 c4 c5 c6 HO14
  have HSS : Hid (∀ w', Keeps (fun _ => False) w15 w' → w'.cell? ⟨C, 0, none⟩ = some (.int .i64 x.frames) ∧ w'.cell? ⟨C, 1, none⟩ = some (.int .i64 x.major) ∧ w'.cell? ⟨C, 2, none⟩ = some (.int .i64 x.kernel) ∧ w'.cell? ⟨C, 3, none⟩ = some (.int .i64 x.room) ∧ w'.cell? ⟨C, 4, none⟩ = some (.slice x.ca x.cs.length x.cc) ∧ w'.cell? ⟨C, 5, none⟩ = some (.slice x.pa x.ps.length x.pc) ∧ w'.cell? ⟨C, 6, none⟩ = some (.slice x.ha x.hs.length x.hc) ∧ w'.cell? ⟨D, 0, none⟩ = some (.int .i64 y.frames) ∧ w'.cell? ⟨D, 1, none⟩ = some (.int .i64 y.major) ∧ w'.cell? ⟨D, 2, none⟩ = some (.int .i64 y.kernel) ∧ w'.cell? ⟨D, 3, none⟩ = some (.int .i64 y.room) ∧ w'.cell? ⟨D, 4, none⟩ = some (.slice y.ca y.cs.length y.cc) ∧ w'.cell? ⟨D, 5, none⟩ = some (.slice y.pa y.ps.length y.pc) ∧ w'.cell? ⟨D, 6, none⟩ = some (.slice y.ha y.hs.length y.hc)) := by
    intro w' hK
    have h := HO15.out.kept hK
    obtain ⟨c0, c1, c2, c3, c4, c5, c6⟩ := h.a.cells
    exact ⟨c0, c1, c2, c3, c4, c5, c6, h.b.cells⟩
  have HR1 : Hid (∀ w', Keeps (fun _ => False) w15 w' → Calls Try.prog 31 #[x.v] w' fun e w'' => e = .returned (.int .i64 (rounds x.cs)) ∧ Keeps (fun _ => False) w15 w'') := fun w' hK =>
    (rounds_any x w' N (HO15.out.kept hK).a.cin (HO15.out.kept hK).a.nn).mono fun _ _ h => ⟨h.1, hK.trans h.2 fun _ _ h => h⟩
  have HR2 : Hid (∀ w', Keeps (fun _ => False) w15 w' → Calls Try.prog 44 #[y.v] w' fun e w'' => e = .returned (.int .i64 (rounds x.cs)) ∧ Keeps (fun _ => False) w15 w'') := fun w' hK => by
    rw [HE.out.1.rounds]
    exact (rrounds_any y w' M (HO15.out.kept hK).b.cin (HO15.out.kept hK).b.nn).mono fun _ _ h => ⟨h.1, hK.trans h.2 fun _ _ h => h⟩
  obtain ⟨R, hR⟩ : ∃ R : Int, rounds x.cs = R := ⟨_, rfl⟩
  rw [hR] at HR1 HR2
  clear hR
  have hS := HSS.out w15 (Keeps.refl _ _)
  go_upto_region 23 with fail
  go_region_held3 (fun w' => w'.cell? ⟨C, 0, none⟩ = some (.int .i64 x.frames) ∧ w'.cell? ⟨C, 1, none⟩ = some (.int .i64 x.major) ∧ w'.cell? ⟨C, 2, none⟩ = some (.int .i64 x.kernel) ∧ w'.cell? ⟨C, 3, none⟩ = some (.int .i64 x.room) ∧ w'.cell? ⟨C, 4, none⟩ = some (.slice x.ca x.cs.length x.cc) ∧ w'.cell? ⟨C, 5, none⟩ = some (.slice x.pa x.ps.length x.pc) ∧ w'.cell? ⟨C, 6, none⟩ = some (.slice x.ha x.hs.length x.hc) ∧ w'.cell? ⟨D, 0, none⟩ = some (.int .i64 y.frames) ∧ w'.cell? ⟨D, 1, none⟩ = some (.int .i64 y.major) ∧ w'.cell? ⟨D, 2, none⟩ = some (.int .i64 y.kernel) ∧ w'.cell? ⟨D, 3, none⟩ = some (.int .i64 y.room) ∧ w'.cell? ⟨D, 4, none⟩ = some (.slice y.ca y.cs.length y.cc) ∧ w'.cell? ⟨D, 5, none⟩ = some (.slice y.pa y.ps.length y.pc) ∧ w'.cell? ⟨D, 6, none⟩ = some (.slice y.ha y.hs.length y.hc)) (first | exact hS2 | exact hS1 | exact hS | go_keep)
    (first | (go_at_call 31; refine (HR1.out _ ((Keeps.refl _ w15).drewN _)).mono ?_; rintro e w1 ⟨rfl, hK1⟩; have hS1 := HSS.out w1 hK1) | (go_at_call 44; refine (HR2.out w1 hK1).mono ?_; rintro e w2 ⟨rfl, hK2⟩; have hS2 := HSS.out w2 hK2))
  go_wp2
  go_ret
  exact ⟨rfl, HO15.out.a.keeps.trans hK2 fun _ _ h => h⟩
end Go.Proofs.Ytnkfdmlpjgmckaa
