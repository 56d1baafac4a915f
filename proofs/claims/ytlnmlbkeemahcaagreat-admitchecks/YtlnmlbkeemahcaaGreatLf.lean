import Derived.Test.YtlnmlbkeemahcaaGreatLd
import Derived.Test.YtlnmlbkeemahcaaGreatJSb
namespace Go.Proofs.YtlnmlbkeemahcaaGreat
open Go.RowKit
set_option linter.unusedVariables false
set_option linter.unusedSimpArgs false
set_option maxRecDepth 6000
def RowM {α : Type} (E : Elem α) (Mk : Nat → List Value) (ls : List α) (G : Nat) (w : World) : Prop := (∀ k y, ls[k]? = some y → ∀ c v, (E.vs y)[c]? = some v → w.cell? ⟨G, k * E.k + c, none⟩ = some v) ∧ (∀ k, ls.length ≤ k → k < ls.length + 24 → ∀ c v, (Mk k)[c]? = some v → w.cell? ⟨G, k * E.k + c, none⟩ = some v)
theorem RowM.kept {α : Type} {E : Elem α} {Mk : Nat → List Value} {ls : List α} {G : Nat} {w w' : World} (h : RowM E Mk ls G w) (hK : KF w w') : RowM E Mk ls G w' :=
 ⟨fun k y hy c v hv => cell_kept (h.1 k y hy c v hv) hK fun h => h, fun k h1 h2 c v hv => cell_kept (h.2 k h1 h2 c v hv) hK fun h => h⟩
set_option maxHeartbeats 16000000 in
theorem inner_any (P : Par) (i : Nat) (f0 f1 f2 f3 : Int) (a4 a5 a6 a7 a8 a9 a10 : Option Addr) (n4 n5 n6 n7 n8 n9 n10 c4 c5 c6 c7 c8 c9 c10 gR nR cR gQ nQ cQ G M1 k1 G2 M2 k2 : Nat) (w : World) (hP : P.Ok w)
  (hi1 : i < nR ∧ nR ≤ cR) (hi2 : i < nQ ∧ nQ ≤ cQ) (hM1 : P.rs.length + 24 = M1) (hM2 : P.ps.length + 24 = M2) (hk1 : M1 ≤ k1 ∧ k1 ≤ maxLen) (hk2 : M2 ≤ k2 ∧ k2 ≤ maxLen) (hb1 : P.rs.length ≤ 140737488351232) (hb2 : P.ps.length ≤ 140737488351232)
  (r1 : w.cell? ⟨gR, i, none⟩ = some (.slice (some ⟨G, 0, none⟩) M1 k1)) (r2 : w.cell? ⟨gQ, i, none⟩ = some (.slice (some ⟨G2, 0, none⟩) M2 k2))
  (m1 : RowM eRgn rM P.rs G w) (m2 : RowM ePrt pM P.ps G2 w) (hin : i ≤ 281474976710656) :
  Calls Tryz.prog 25 #[.agg #[.int .i64 f0, .int .i64 f1, .int .i64 f2, .int .i64 f3, .slice a4 n4 c4, .slice a5 n5 c5, .slice a6 n6 c6, .slice a7 n7 c7, .slice a8 n8 c8, .slice a9 n9 c9, .slice a10 n10 c10, .slice (some ⟨gR, 0, none⟩) nR cR, .slice (some ⟨gQ, 0, none⟩) nQ cQ], .int .i64 i, P.v] w (RetK (.bool true) w) := by
 obtain ⟨s, e1, e2, e3, e4, e5, ra, rc, rs, pa, pc, ps⟩ := P
 simp only at hM1 hM2 hb1 hb2 m1 m2
 obtain ⟨RL, hRL⟩ : ∃ L, rs.length = L := ⟨_, rfl⟩
 obtain ⟨QL, hQL⟩ : ∃ L, ps.length = L := ⟨_, rfl⟩
 rw [hRL] at hM1 hb1
 rw [hQL] at hM2 hb2
 obtain ⟨B, hB⟩ : ∃ B, B = w.heap.size := ⟨_, rfl⟩
 obtain ⟨W, hW⟩ : ∃ W, W = (w.alloc (.cells #[.int .i64 f0, .int .i64 f1, .int .i64 f2, .int .i64 f3, .slice a4 n4 c4, .slice a5 n5 c5, .slice a6 n6 c6, .slice a7 n7 c7, .slice a8 n8 c8, .slice a9 n9 c9, .slice a10 n10 c10, .slice (some ⟨gR, 0, none⟩) nR cR, .slice (some ⟨gQ, 0, none⟩) nQ cQ] 30)).alloc (.cells #[.string s, .int .i64 e1, .int .i64 e2, .int .i64 e3, .int .i64 e4, .int .i64 e5, .slice ra RL rc, .slice pa QL pc] 41) := ⟨_, rfl⟩
 have kW : KF w W := by rw [hW]; exact ((Keeps.refl _ _).alloc _).alloc _
 have hB1 : Blk W B [.int .i64 f0, .int .i64 f1, .int .i64 f2, .int .i64 f3, .slice a4 n4 c4, .slice a5 n5 c5, .slice a6 n6 c6, .slice a7 n7 c7, .slice a8 n8 c8, .slice a9 n9 c9, .slice a10 n10 c10, .slice (some ⟨gR, 0, none⟩) nR cR, .slice (some ⟨gQ, 0, none⟩) nQ cQ] 30 := by rw [hW, hB]; exact (Blk.new w _ _).alloc _
 have hB2 : Blk W (B + 1) [.string s, .int .i64 e1, .int .i64 e2, .int .i64 e3, .int .i64 e4, .int .i64 e5, .slice ra RL rc, .slice pa QL pc] 41 := by
  have := Blk.new (w.alloc (.cells #[.int .i64 f0, .int .i64 f1, .int .i64 f2, .int .i64 f3, .slice a4 n4 c4, .slice a5 n5 c5, .slice a6 n6 c6, .slice a7 n7 c7, .slice a8 n8 c8, .slice a9 n9 c9, .slice a10 n10 c10, .slice (some ⟨gR, 0, none⟩) nR cR, .slice (some ⟨gQ, 0, none⟩) nQ cQ] 30)) #[.string s, .int .i64 e1, .int .i64 e2, .int .i64 e3, .int .i64 e4, .int .i64 e5, .slice ra RL rc, .slice pa QL pc] 41
  rw [hW, hB]; simpa using this
 have HW : Hid (Blk W B [.int .i64 f0, .int .i64 f1, .int .i64 f2, .int .i64 f3, .slice a4 n4 c4, .slice a5 n5 c5, .slice a6 n6 c6, .slice a7 n7 c7, .slice a8 n8 c8, .slice a9 n9 c9, .slice a10 n10 c10, .slice (some ⟨gR, 0, none⟩) nR cR, .slice (some ⟨gQ, 0, none⟩) nQ cQ] 30 ∧ Blk W (B + 1) [.string s, .int .i64 e1, .int .i64 e2, .int .i64 e3, .int .i64 e4, .int .i64 e5, .slice ra RL rc, .slice pa QL pc] 41 ∧ KF w W) := ⟨hB1, hB2, kW⟩
 have HR : Hid (W.cell? ⟨gR, i, none⟩ = some (.slice (some ⟨G, 0, none⟩) M1 k1) ∧ W.cell? ⟨gQ, i, none⟩ = some (.slice (some ⟨G2, 0, none⟩) M2 k2)) := ⟨cell_kept r1 kW fun h => h, cell_kept r2 kW fun h => h⟩
 have hmk1 : (∀ k y, rs[k]? = some y → ∀ c v, (eRgn.vs y)[c]? = some v → W.cell? ⟨G, k * 4 + c, none⟩ = some v) ∧ (∀ k, RL ≤ k → k < M1 → ∀ c v, (rM k)[c]? = some v → W.cell? ⟨G, k * 4 + c, none⟩ = some v) := ⟨(m1.kept kW).1, fun k h1 h2 => (m1.kept kW).2 k (by rw [hRL]; exact h1) (by rw [hRL, hM1]; exact h2)⟩
 have hmk2 : (∀ k y, ps[k]? = some y → ∀ c v, (ePrt.vs y)[c]? = some v → W.cell? ⟨G2, k * 2 + c, none⟩ = some v) ∧ (∀ k, QL ≤ k → k < M2 → ∀ c v, (pM k)[c]? = some v → W.cell? ⟨G2, k * 2 + c, none⟩ = some v) := ⟨(m2.kept kW).1, fun k h1 h2 => (m2.kept kW).2 k (by rw [hQL]; exact h1) (by rw [hQL, hM2]; exact h2)⟩
 have HM1 : Hid ((∀ k y, rs[k]? = some y → ∀ c v, (eRgn.vs y)[c]? = some v → W.cell? ⟨G, k * 4 + c, none⟩ = some v) ∧ (∀ k, RL ≤ k → k < M1 → ∀ c v, (rM k)[c]? = some v → W.cell? ⟨G, k * 4 + c, none⟩ = some v)) := hmk1
 have HM2 : Hid ((∀ k y, ps[k]? = some y → ∀ c v, (ePrt.vs y)[c]? = some v → W.cell? ⟨G2, k * 2 + c, none⟩ = some v) ∧ (∀ k, QL ≤ k → k < M2 → ∀ c v, (pM k)[c]? = some v → W.cell? ⟨G2, k * 2 + c, none⟩ = some v)) := hmk2
 have HS : Hid (SegA Rgn.vs 4 W ra rs ∧ SegA Prt.vs 2 W pa ps ∧ rs.length = RL ∧ ps.length = QL) := ⟨hP.rseg.kept kW fun _ _ _ h => h, hP.pseg.kept kW fun _ _ _ h => h, hRL, hQL⟩
 have z1 : (RL : Int) ≤ rc := by have := hP.rlen; simp only [hRL] at this; omega
 have z2 : (QL : Int) ≤ pc := by have := hP.plen; simp only [hQL] at this; omega
 have z3 : (M1 : Int) ≤ 140737488351256 := by omega
 have z4 : (M2 : Int) ≤ 140737488351256 := by omega
 have z5 : (M1 : Int) ≤ k1 := by omega
 have z6 : (M2 : Int) ≤ k2 := by omega
 have z7 : (i : Int) < nR := by omega
 have z8 : (i : Int) < nQ := by omega
 have z9 : (RL : Int) ≤ 140737488351232 := by omega
 have z10 : (QL : Int) ≤ 140737488351232 := by omega
 unfold Par.v
 rw [hRL, hQL]
 clear hP hM1 hM2 hk1 hk2 hb1 hb2 r1 r2 m1 m2 hRL hQL kW hB1 hB2 hmk1 hmk2 hi1 hi2
 go_enter Tryz.func25, Tryz.ntmps25
 go_upto_region 1 with fail
 rw [← hW, ← hB]
 clear hW hB
 go_wp2
 go_loopw [7] (fun i wr => ∃ k : Nat, k ≤ M1 ∧ i = .int .i64 k ∧ KF W wr) (fun i _ => M1 - (intOf i).toNat)
 case atStart => exact ⟨0, by omega, rfl, Keeps.refl _ _⟩
 case round =>
  obtain ⟨k, hk, rfl, hK⟩ := hrel
  have b1 := (HW.out.1.kept hK fun e => e).cell (i := 11) rfl
  have b6 := (HW.out.2.1.kept hK fun e => e).cell (i := 6) rfl
  have r0 := cell_kept HR.out.1 hK fun e => e
  have HK : Hid (KF W wr) := hK
  have HJ : Hid (k ≤ 281474976710656) := by unfold Hid; omega
  by_cases hlt : k < M1
  ·
   have hjz : (k : Int) < M1 := by omega
   by_cases hl : k < RL
   ·
    have hjl : (k : Int) < RL := by omega
    obtain ⟨y, hy⟩ : ∃ y, rs[k]? = some y := ⟨_, List.getElem?_eq_getElem (by have := HS.out.2.2.1; omega)⟩
    have hg1 := HM1.out.1 k y hy
    obtain ⟨g2, o2, ha2, hg2⟩ := (HS.out.1.kept hK fun _ _ _ e => e).at hy
    rw [ha2] at b6
    obtain ⟨p, u, q, t⟩ := y
    have HY : Hid (∀ c v, (eRgn.vs ⟨p, u, q, t⟩)[c]? = some v → W.cell? ⟨G, k * 4 + c, none⟩ = some v) := hg1
    have HY2 : Hid (∀ c v, (eRgn.vs ⟨p, u, q, t⟩)[c]? = some v → wr.cell? ⟨g2, o2 + k * 4 + c, none⟩ = some v) := hg2
    have HC6 : Hid (wr.cell? ⟨B + 1, 6, none⟩ = some (.slice (some ⟨g2, o2, none⟩) RL rc)) := b6
    clear hy hg1 hg2 hK ha2 hlt hl hk
    go_wp2_with fail
    refine (rgM_any k HJ.out _).mono ?_
    rintro e w1 ⟨rfl, hK1⟩
    clear b1 r0 b6
    have hK0 : KF W w1 := HK.out.trans hK1 fun _ _ h => h
    obtain ⟨D, hD⟩ : ∃ D, D = w1.heap.size := ⟨_, rfl⟩
    obtain ⟨V1, hV1⟩ : ∃ V1, V1 = w1.alloc (.cells #[.int .i64 (-(k : Int)), .int .i64 (k : Int), .int .i64 (-(k : Int)), .int .i64 (k : Int)] 54) := ⟨_, rfl⟩
    have kV1 : KF w1 V1 := by rw [hV1]; exact (Keeps.refl _ _).alloc _
    have kW1 : KF wr V1 := hK1.trans kV1 fun _ _ h => h
    have hBD : Blk V1 D [.int .i64 (-(k : Int)), .int .i64 (k : Int), .int .i64 (-(k : Int)), .int .i64 (k : Int)] 54 := by rw [hV1, hD]; exact Blk.new _ _ _
    have b6 := cell_kept HC6.out kW1 fun h => h
    have x0 := cell_kept (HY2.out 0 _ rfl) kW1 fun h => h
    have d0' := hBD.cell (i := 0) rfl
    have f0' := hBD.frozen 0
    have x1 := cell_kept (HY2.out 1 _ rfl) kW1 fun h => h
    have d1' := hBD.cell (i := 1) rfl
    have f1' := hBD.frozen 1
    have x2 := cell_kept (HY2.out 2 _ rfl) kW1 fun h => h
    have d2' := hBD.cell (i := 2) rfl
    have f2' := hBD.frozen 2
    have x3 := cell_kept (HY2.out 3 _ rfl) kW1 fun h => h
    have d3' := hBD.cell (i := 3) rfl
    have f3' := hBD.frozen 3
    rw [Nat.add_zero] at x0
    obtain ⟨V2, hV2⟩ : ∃ V2, V2 = ((((V1.setCell ⟨D, 0, none⟩ (.int .i64 p)).setCell ⟨D, 1, none⟩ (.int .i64 u)).setCell ⟨D, 2, none⟩ (.int .i64 q)).setCell ⟨D, 3, none⟩ (.int .i64 t)) := ⟨_, rfl⟩
    have kk0 := Keeps.refl (fun k => k = D) V1
    have bb0 := hBD
    have kk1 := kk0.setCell ⟨D, 0, none⟩ (.int .i64 p) fun _ => rfl
    have bb1 := bb0.setCell 0 (.int .i64 p)
    have kk2 := kk1.setCell ⟨D, 1, none⟩ (.int .i64 u) fun _ => rfl
    have bb2 := bb1.setCell 1 (.int .i64 u)
    have kk3 := kk2.setCell ⟨D, 2, none⟩ (.int .i64 q) fun _ => rfl
    have bb3 := bb2.setCell 2 (.int .i64 q)
    have kk4 := kk3.setCell ⟨D, 3, none⟩ (.int .i64 t) fun _ => rfl
    have bb4 := bb3.setCell 3 (.int .i64 t)
    rw [← hV2] at kk4 bb4
    have kV2 : Keeps (fun k => k = D) W V2 := ((hK0.trans kV1 fun _ _ h => h).mono fun _ _ h => h.elim).trans kk4 fun _ _ h => h
    have kF : KF W V2 := kV2.mono fun b hb e => by have := hK0.size; omega
    have b1 := (HW.out.1.kept kF fun e => e).cell (i := 11) rfl
    have r0 := cell_kept HR.out.1 kF fun e => e
    have y0 := cell_kept (HY.out 0 _ rfl) kF fun h => h
    have z0 := bb4.cell (i := 0) rfl
    have y1 := cell_kept (HY.out 1 _ rfl) kF fun h => h
    have z1 := bb4.cell (i := 1) rfl
    have y2 := cell_kept (HY.out 2 _ rfl) kF fun h => h
    have z2 := bb4.cell (i := 2) rfl
    have y3 := cell_kept (HY.out 3 _ rfl) kF fun h => h
    have z3 := bb4.cell (i := 3) rfl
    rw [Nat.add_zero] at y0
    have HN : Hid (KF W V2) := kF
    clear hK1 hK0 kV1 kW1 hBD kV2 kF kk0 bb0 kk1 bb1 kk2 bb2 kk3 bb3 kk4 bb4
    go_upto_region 5 with fail
    rw [← hV1, ← hD]
    clear hV1 hD
    go_upto_region 7 with fail
    rw [← hV2]
    clear hV2 b6 x0 d0' f0' x1 d1' f1' x2 d2' f2' x3 d3' f3'
    go_quiet (fail)
    go_wp2
    clear b1 r0 y0 z0 y1 z1 y2 z2 y3 z3
    go_roundw
    case rel => exact ⟨k + 1, by omega, by go_num, HN.out.drewN _⟩
    case measure => simp [intOf]; omega
   ·
    have hjl : ¬ (k : Int) < RL := by omega
    have hg1 := HM1.out.2 k (by omega) hlt
    have HY : Hid (∀ c v, (rM k)[c]? = some v → W.cell? ⟨G, k * 4 + c, none⟩ = some v) := hg1
    clear hg1 hK hlt hl hk
    have HC6 : Hid (wr.cell? ⟨B + 1, 6, none⟩ = some (.slice ra RL rc)) := b6
    go_wp2_with fail
    refine (rgM_any k HJ.out _).mono ?_
    rintro e w1 ⟨rfl, hK1⟩
    clear b1 r0 b6
    have hK0 : KF W w1 := HK.out.trans hK1 fun _ _ h => h
    obtain ⟨D, hD⟩ : ∃ D, D = w1.heap.size := ⟨_, rfl⟩
    obtain ⟨V1, hV1⟩ : ∃ V1, V1 = w1.alloc (.cells #[.int .i64 (-(k : Int)), .int .i64 (k : Int), .int .i64 (-(k : Int)), .int .i64 (k : Int)] 54) := ⟨_, rfl⟩
    have kF : KF W V1 := by rw [hV1]; exact hK0.alloc _
    have kW1 : KF wr V1 := by rw [hV1]; exact hK1.alloc _
    have hBD : Blk V1 D [.int .i64 (-(k : Int)), .int .i64 (k : Int), .int .i64 (-(k : Int)), .int .i64 (k : Int)] 54 := by rw [hV1, hD]; exact Blk.new _ _ _
    have b6 := cell_kept HC6.out kW1 fun h => h
    have b1 := (HW.out.1.kept kF fun e => e).cell (i := 11) rfl
    have r0 := cell_kept HR.out.1 kF fun e => e
    have y0 := cell_kept (HY.out 0 _ rfl) kF fun h => h
    have z0 := hBD.cell (i := 0) rfl
    have y1 := cell_kept (HY.out 1 _ rfl) kF fun h => h
    have z1 := hBD.cell (i := 1) rfl
    have y2 := cell_kept (HY.out 2 _ rfl) kF fun h => h
    have z2 := hBD.cell (i := 2) rfl
    have y3 := cell_kept (HY.out 3 _ rfl) kF fun h => h
    have z3 := hBD.cell (i := 3) rfl
    rw [Nat.add_zero] at y0
    have HN : Hid (KF W V1) := kF
    clear hK1 hK0 kW1 hBD kF
    go_upto_region 5 with fail
    rw [← hV1, ← hD]
    clear hV1 hD
    go_upto_region 7 with fail
    clear b6
    go_quiet (fail)
    go_wp2
    clear b1 r0 y0 z0 y1 z1 y2 z2 y3 z3
    go_roundw
    case rel => exact ⟨k + 1, by omega, by go_num, HN.out.drewN _⟩
    case measure => simp [intOf]; omega
  ·
   have hkM : M1 = k := by omega
   subst hkM
   have hjz : ¬ (M1 : Int) < M1 := by omega
   have HK2 : Hid (KF W wr) := HK.out
   clear hK HK HJ hlt b6
   go_wp2
   clear b1 r0 hjz
   go_loopw [9] (fun i wr => ∃ k : Nat, k ≤ M2 ∧ i = .int .i64 k ∧ KF W wr) (fun i _ => M2 - (intOf i).toNat)
   case atStart => exact ⟨0, by omega, rfl, HK2.out⟩
   case round =>
    obtain ⟨k, hk, rfl, hK⟩ := hrel
    have b1 := (HW.out.1.kept hK fun e => e).cell (i := 12) rfl
    have b6 := (HW.out.2.1.kept hK fun e => e).cell (i := 7) rfl
    have r0 := cell_kept HR.out.2 hK fun e => e
    have HK : Hid (KF W wr) := hK
    have HJ : Hid (k ≤ 281474976710656) := by unfold Hid; omega
    by_cases hlt : k < M2
    ·
     have hjz : (k : Int) < M2 := by omega
     by_cases hl : k < QL
     ·
      have hjl : (k : Int) < QL := by omega
      obtain ⟨y, hy⟩ : ∃ y, ps[k]? = some y := ⟨_, List.getElem?_eq_getElem (by have := HS.out.2.2.2; omega)⟩
      have hg1 := HM2.out.1 k y hy
      obtain ⟨g2, o2, ha2, hg2⟩ := (HS.out.2.1.kept hK fun _ _ _ e => e).at hy
      rw [ha2] at b6
      obtain ⟨p, q⟩ := y
      have HY : Hid (∀ c v, (ePrt.vs ⟨p, q⟩)[c]? = some v → W.cell? ⟨G2, k * 2 + c, none⟩ = some v) := hg1
      have HY2 : Hid (∀ c v, (ePrt.vs ⟨p, q⟩)[c]? = some v → wr.cell? ⟨g2, o2 + k * 2 + c, none⟩ = some v) := hg2
      have HC6 : Hid (wr.cell? ⟨B + 1, 7, none⟩ = some (.slice (some ⟨g2, o2, none⟩) QL pc)) := b6
      clear hy hg1 hg2 hK ha2 hlt hl hk
      go_wp2_with fail
      refine (poM_any k HJ.out _).mono ?_
      rintro e w1 ⟨rfl, hK1⟩
      clear b1 r0 b6
      have hK0 : KF W w1 := HK.out.trans hK1 fun _ _ h => h
      obtain ⟨D, hD⟩ : ∃ D, D = w1.heap.size := ⟨_, rfl⟩
      obtain ⟨V1, hV1⟩ : ∃ V1, V1 = w1.alloc (.cells #[.int .i64 (-(k : Int)), .bool false] 57) := ⟨_, rfl⟩
      have kV1 : KF w1 V1 := by rw [hV1]; exact (Keeps.refl _ _).alloc _
      have kW1 : KF wr V1 := hK1.trans kV1 fun _ _ h => h
      have hBD : Blk V1 D [.int .i64 (-(k : Int)), .bool false] 57 := by rw [hV1, hD]; exact Blk.new _ _ _
      have b6 := cell_kept HC6.out kW1 fun h => h
      have x0 := cell_kept (HY2.out 0 _ rfl) kW1 fun h => h
      have d0' := hBD.cell (i := 0) rfl
      have f0' := hBD.frozen 0
      have x1 := cell_kept (HY2.out 1 _ rfl) kW1 fun h => h
      have d1' := hBD.cell (i := 1) rfl
      have f1' := hBD.frozen 1
      rw [Nat.add_zero] at x0
      obtain ⟨V2, hV2⟩ : ∃ V2, V2 = ((V1.setCell ⟨D, 0, none⟩ (.int .i64 p)).setCell ⟨D, 1, none⟩ (.bool q)) := ⟨_, rfl⟩
      have kk0 := Keeps.refl (fun k => k = D) V1
      have bb0 := hBD
      have kk1 := kk0.setCell ⟨D, 0, none⟩ (.int .i64 p) fun _ => rfl
      have bb1 := bb0.setCell 0 (.int .i64 p)
      have kk2 := kk1.setCell ⟨D, 1, none⟩ (.bool q) fun _ => rfl
      have bb2 := bb1.setCell 1 (.bool q)
      rw [← hV2] at kk2 bb2
      have kV2 : Keeps (fun k => k = D) W V2 := ((hK0.trans kV1 fun _ _ h => h).mono fun _ _ h => h.elim).trans kk2 fun _ _ h => h
      have kF : KF W V2 := kV2.mono fun b hb e => by have := hK0.size; omega
      have b1 := (HW.out.1.kept kF fun e => e).cell (i := 12) rfl
      have r0 := cell_kept HR.out.2 kF fun e => e
      have y0 := cell_kept (HY.out 0 _ rfl) kF fun h => h
      have z0 := bb2.cell (i := 0) rfl
      have y1 := cell_kept (HY.out 1 _ rfl) kF fun h => h
      have z1 := bb2.cell (i := 1) rfl
      rw [Nat.add_zero] at y0
      have HN : Hid (KF W V2) := kF
      clear hK1 hK0 kV1 kW1 hBD kV2 kF kk0 bb0 kk1 bb1 kk2 bb2
      go_upto_region 13 with fail
      rw [← hV1, ← hD]
      clear hV1 hD
      go_upto_region 15 with fail
      rw [← hV2]
      clear hV2 b6 x0 d0' f0' x1 d1' f1'
      go_quiet (fail)
      go_wp2
      clear b1 r0 y0 z0 y1 z1
      go_roundw
      case rel => exact ⟨k + 1, by omega, by go_num, HN.out.drewN _⟩
      case measure => simp [intOf]; omega
     ·
      have hjl : ¬ (k : Int) < QL := by omega
      have hg1 := HM2.out.2 k (by omega) hlt
      have HY : Hid (∀ c v, (pM k)[c]? = some v → W.cell? ⟨G2, k * 2 + c, none⟩ = some v) := hg1
      clear hg1 hK hlt hl hk
      have HC6 : Hid (wr.cell? ⟨B + 1, 7, none⟩ = some (.slice pa QL pc)) := b6
      go_wp2_with fail
      refine (poM_any k HJ.out _).mono ?_
      rintro e w1 ⟨rfl, hK1⟩
      clear b1 r0 b6
      have hK0 : KF W w1 := HK.out.trans hK1 fun _ _ h => h
      obtain ⟨D, hD⟩ : ∃ D, D = w1.heap.size := ⟨_, rfl⟩
      obtain ⟨V1, hV1⟩ : ∃ V1, V1 = w1.alloc (.cells #[.int .i64 (-(k : Int)), .bool false] 57) := ⟨_, rfl⟩
      have kF : KF W V1 := by rw [hV1]; exact hK0.alloc _
      have kW1 : KF wr V1 := by rw [hV1]; exact hK1.alloc _
      have hBD : Blk V1 D [.int .i64 (-(k : Int)), .bool false] 57 := by rw [hV1, hD]; exact Blk.new _ _ _
      have b6 := cell_kept HC6.out kW1 fun h => h
      have b1 := (HW.out.1.kept kF fun e => e).cell (i := 12) rfl
      have r0 := cell_kept HR.out.2 kF fun e => e
      have y0 := cell_kept (HY.out 0 _ rfl) kF fun h => h
      have z0 := hBD.cell (i := 0) rfl
      have y1 := cell_kept (HY.out 1 _ rfl) kF fun h => h
      have z1 := hBD.cell (i := 1) rfl
      rw [Nat.add_zero] at y0
      have HN : Hid (KF W V1) := kF
      clear hK1 hK0 kW1 hBD kF
      go_upto_region 13 with fail
      rw [← hV1, ← hD]
      clear hV1 hD
      go_upto_region 15 with fail
      clear b6
      go_quiet (fail)
      go_wp2
      clear b1 r0 y0 z0 y1 z1
      go_roundw
      case rel => exact ⟨k + 1, by omega, by go_num, HN.out.drewN _⟩
      case measure => simp [intOf]; omega
    ·
     have hkM : M2 = k := by omega
     subst hkM
     have hjz : ¬ (M2 : Int) < M2 := by omega
     clear hK HJ hlt b6
     go_wp2
     go_ret
     exact ⟨rfl, HW.out.2.2.trans HK.out fun _ _ h => h⟩
end Go.Proofs.YtlnmlbkeemahcaaGreat
