import Derived.Test.YtjadpbkhfclldaaGreatKt
import Derived.Test.YtjadpbkhfclldaaGreatCn
namespace Go.Proofs.YtjadpbkhfclldaaGreat
open Go.RowKit
set_option linter.unusedVariables false
set_option linter.unusedSimpArgs false
set_option maxRecDepth 6000

/-- The marks as elements. -/
def wmL : List Win := (List.range 12).map fun k => ⟨mk7 k, 0, 0⟩
def rmL : List Rgn := (List.range 12).map fun k => ⟨mk7 k, 0, 0, 0⟩
def pmL : List Prt := (List.range 12).map fun k => ⟨mk7 k, false⟩
theorem wmL_len : wmL.length = 12 := rfl
theorem rmL_len : rmL.length = 12 := rfl
theorem pmL_len : pmL.length = 12 := rfl
theorem mk_at {α : Type} (f : Nat → α) (xs : List α) {j n : Nat} (hn : xs.length = n) (h1 : n ≤ j) (h2 : j < n + 12) : (xs ++ (List.range 12).map f)[j]? = some (f (j - n)) := by
  rw [List.getElem?_append_right (by omega), hn, List.getElem?_map, List.getElem?_range (by omega)]
  rfl

set_option maxHeartbeats 4000000 in
theorem keptPar_any (P : Par) (a1 a2 : Option Addr) (c1 c2 : Nat) (w : World) (hP : P.Ok w) (hb1 : P.rs.length ≤ 2147483647) (hb2 : P.ps.length ≤ 2147483647)
    (h1 : SegA Rgn.vs 4 w a1 (P.rs ++ rmL)) (h2 : SegA Prt.vs 2 w a2 (P.ps ++ pmL)) (l1 : P.rs.length + 12 ≤ c1 ∧ c1 ≤ maxLen) (l2 : P.ps.length + 12 ≤ c2 ∧ c2 ≤ maxLen) :
    Calls Tryz.prog 23 #[.slice a1 (P.rs.length + 12) c1, .slice a2 (P.ps.length + 12) c2, P.v] w fun e w' => e = .returned (.bool true) ∧ Keeps (fun _ => False) w w' := by
  obtain ⟨s, n1, n2, n3, n4, n5, ra, rc, rs, pa, pc, ps⟩ := P
  simp only at h1 h2 l1 l2 hb1 hb2
  obtain ⟨L1, hL1⟩ : ∃ L, rs.length = L := ⟨_, rfl⟩
  obtain ⟨L2, hL2⟩ : ∃ L, ps.length = L := ⟨_, rfl⟩
  obtain ⟨M1, hM1⟩ : ∃ M, L1 + 12 = M := ⟨_, rfl⟩
  obtain ⟨M2, hM2⟩ : ∃ M, L2 + 12 = M := ⟨_, rfl⟩
  have HS : Hid (SegA Rgn.vs 4 w a1 (rs ++ rmL) ∧ SegA Rgn.vs 4 w ra rs ∧ SegA Prt.vs 2 w a2 (ps ++ pmL) ∧ SegA Prt.vs 2 w pa ps ∧ rs.length = L1 ∧ ps.length = L2 ∧ L1 + 12 = M1 ∧ L2 + 12 = M2) := ⟨h1, hP.rseg, h2, hP.pseg, hL1, hL2, hM1, hM2⟩
  have hr1 := hP.rlen
  have hp1 := hP.plen
  simp only [hL1, hL2] at hr1 hp1 l1 l2 hb1 hb2
  simp only [Par.v, hL1, hL2, hM1, hM2] at l1 l2 ⊢
  have d1 : (L1 : Int) ≤ rc := by omega
  have d2 : (L2 : Int) ≤ pc := by omega
  have d3 : (M1 : Int) ≤ c1 := by omega
  have d4 : (M2 : Int) ≤ c2 := by omega
  have d5 : (L1 : Int) ≤ 2147483647 := by omega
  have d6 : (L2 : Int) ≤ 2147483647 := by omega
  have d7 : (M1 : Int) ≤ 2147483659 := by omega
  have d8 : (M2 : Int) ≤ 2147483659 := by omega
  obtain ⟨C, hC⟩ : ∃ C, C = w.heap.size := ⟨_, rfl⟩
  obtain ⟨W, hWd⟩ : ∃ W, W = w.alloc (.cells #[.string s, .int .i64 n1, .int .i64 n2, .int .i64 n3, .int .i64 n4, .int .i64 n5, .slice ra L1 rc, .slice pa L2 pc] 47) := ⟨_, rfl⟩
  have HW : Hid (Blk W C [.string s, .int .i64 n1, .int .i64 n2, .int .i64 n3, .int .i64 n4, .int .i64 n5, .slice ra L1 rc, .slice pa L2 pc] 47 ∧ Keeps (fun _ => False) w W) := by
    rw [hWd, hC]
    exact ⟨Blk.new w _ _, (Keeps.refl _ w).alloc _⟩
  have HK0 : Hid (Keeps (fun _ => False) W W) := Keeps.refl _ W
  clear hP h1 h2 hL1 hL2 hr1 hp1 l1 l2 hM1 hM2 hb1 hb2
  go_enter Tryz.func23, Tryz.ntmps23
  go_wp2
  rw [← hWd, ← hC]
  clear hWd hC
  go_loopw [13] (fun i wr => ∃ j : Nat, j ≤ M1 ∧ i = .int .i64 j ∧ Keeps (fun _ => False) W wr) (fun i _ => M1 - (intOf i).toNat)
  case atStart => exact ⟨0, by omega, rfl, HK0.out⟩
  case round =>
    obtain ⟨j, hj, rfl, hK⟩ := hrel
    have b1 := (HW.out.1.kept hK fun e => e).cell (i := 6) rfl
    have HK : Hid (Keeps (fun _ => False) W wr) := hK
    by_cases hlt : j < M1
    · by_cases hl1 : j < L1
      · obtain ⟨y, hy⟩ : ∃ y, rs[j]? = some y := ⟨_, List.getElem?_eq_getElem (by have := HS.out; omega)⟩
        have hy' : (rs ++ rmL)[j]? = some y := by rw [List.getElem?_append_left (by have := HS.out; omega)]; exact hy
        obtain ⟨g1, o1, ha1, hg1⟩ := ((HS.out.1.kept HW.out.2 fun _ _ _ e => e).kept hK fun _ _ _ e => e).at hy'
        obtain ⟨g2, o2, ha2, hg2⟩ := ((HS.out.2.1.kept HW.out.2 fun _ _ _ e => e).kept hK fun _ _ _ e => e).at hy
        subst ha1
        rw [ha2] at b1
        obtain ⟨p, u, q, t⟩ := y
        obtain ⟨D, hD⟩ : ∃ D, D = wr.heap.size := ⟨_, rfl⟩
        obtain ⟨V1, hV1⟩ : ∃ V1, V1 = wr.alloc (.cells #[.int .i64 (-70 - (j : Int) + L1), .int .i64 0, .int .i64 0, .int .i64 0] 53) := ⟨_, rfl⟩
        have kV1 : Keeps (fun _ => False) wr V1 := by rw [hV1]; exact (Keeps.refl _ _).alloc _
        have hBD : Blk V1 D [.int .i64 (-70 - (j : Int) + L1), .int .i64 0, .int .i64 0, .int .i64 0] 53 := by rw [hV1, hD]; exact Blk.new _ _ _
        have c1 := cell_kept b1 kV1 fun h => h
        have x0 := cell_kept (hg2 0 _ rfl) kV1 fun h => h
        have d0' := hBD.cell (i := 0) rfl
        have f0' := hBD.frozen 0
        have x1 := cell_kept (hg2 1 _ rfl) kV1 fun h => h
        have d1' := hBD.cell (i := 1) rfl
        have f1' := hBD.frozen 1
        have x2 := cell_kept (hg2 2 _ rfl) kV1 fun h => h
        have d2' := hBD.cell (i := 2) rfl
        have f2' := hBD.frozen 2
        have x3 := cell_kept (hg2 3 _ rfl) kV1 fun h => h
        have d3' := hBD.cell (i := 3) rfl
        have f3' := hBD.frozen 3
        rw [Nat.add_zero] at x0
        obtain ⟨V2, hV2⟩ : ∃ V2, V2 = ((((V1.setCell ⟨D, 0, none⟩ (.int .i64 p)).setCell ⟨D, 1, none⟩ (.int .i64 u)).setCell ⟨D, 2, none⟩ (.int .i64 q)).setCell ⟨D, 3, none⟩ (.int .i64 t)) := ⟨_, rfl⟩
        have kk0 := Keeps.refl (fun k => k = D) V1
        have bb0 := hBD
        have kk1 := kk0.setCell ⟨D, 0, none⟩ (.int .i64 p) fun _ => rfl
        have bb1 := bb0.setCell 0 (.int .i64 p)
        have kk2 := kk1.setCell ⟨D, 1, none⟩ (.int .i64 u) fun _ => rfl
        have bb2 := bb1.setCell 1 (.int .i64 u)
        have kk3 := kk2.setCell ⟨D, 2, none⟩ (.int .i64 q) fun _ => rfl
        have bb3 := bb2.setCell 2 (.int .i64 q)
        have kk4 := kk3.setCell ⟨D, 3, none⟩ (.int .i64 t) fun _ => rfl
        have bb4 := bb3.setCell 3 (.int .i64 t)
        rw [← hV2] at kk4 bb4
        have kV2 : Keeps (fun k => k = D) wr V2 := (kV1.mono fun _ _ h => h.elim).trans kk4 fun _ _ h => h
        have hgD : g1 ≠ D := fun e => by have := World.block_lt_of_cell? wr _ (hg1 0 _ rfl); simp only at this; omega
        have y0 := cell_kept (hg1 0 _ rfl) kV2 hgD
        have z0 := bb4.cell (i := 0) rfl
        have y1 := cell_kept (hg1 1 _ rfl) kV2 hgD
        have z1 := bb4.cell (i := 1) rfl
        have y2 := cell_kept (hg1 2 _ rfl) kV2 hgD
        have z2 := bb4.cell (i := 2) rfl
        have y3 := cell_kept (hg1 3 _ rfl) kV2 hgD
        have z3 := bb4.cell (i := 3) rfl
        rw [Nat.add_zero] at y0
        have HN : Hid (Keeps (fun _ => False) W V2) := hK.trans kV2 fun b hb e => by have := hK.size; omega
        have hjz : (j : Int) < M1 := by omega
        have hjl : (j : Int) < L1 := by omega
        clear hy hy' hg1 hg2 hK ha2 hlt hl1 hj kV1 kV2 hBD hgD kk0 bb0 kk1 bb1 kk2 bb2 kk3 bb3 kk4 bb4
        go_upto_region 5 with fail
        rw [← hV1, ← hD]
        clear hV1 hD b1
        go_upto_region 7 with fail
        rw [← hV2]
        clear hV2 c1 x0 d0' f0' x1 d1' f1' x2 d2' f2' x3 d3' f3'
        go_quiet (fail)
        clear y0 z0 y1 z1 y2 z2 y3 z3
        go_wp2
        go_roundw
        case rel => exact ⟨j + 1, by omega, by go_num, HN.out.drewN _⟩
        case measure => simp [intOf]; omega
      · have hy' := mk_at (fun k => (⟨mk7 k, 0, 0, 0⟩ : Rgn)) rs (n := L1) (by have := HS.out; omega) (by omega) (by have := HS.out; omega : j < L1 + 12)
        obtain ⟨g1, o1, ha1, hg1⟩ := ((HS.out.1.kept HW.out.2 fun _ _ _ e => e).kept hK fun _ _ _ e => e).at hy'
        subst ha1
        obtain ⟨D, hD⟩ : ∃ D, D = wr.heap.size := ⟨_, rfl⟩
        obtain ⟨V1, hV1⟩ : ∃ V1, V1 = wr.alloc (.cells #[.int .i64 (-70 - (j : Int) + L1), .int .i64 0, .int .i64 0, .int .i64 0] 53) := ⟨_, rfl⟩
        have kV1 : Keeps (fun _ => False) wr V1 := by rw [hV1]; exact (Keeps.refl _ _).alloc _
        have hBD : Blk V1 D [.int .i64 (-70 - (j : Int) + L1), .int .i64 0, .int .i64 0, .int .i64 0] 53 := by rw [hV1, hD]; exact Blk.new _ _ _
        have c1 := cell_kept b1 kV1 fun h => h
        have y0 := cell_kept (hg1 0 _ rfl) kV1 fun h => h
        have z0 := hBD.cell (i := 0) rfl
        have y1 := cell_kept (hg1 1 _ rfl) kV1 fun h => h
        have z1 := hBD.cell (i := 1) rfl
        have y2 := cell_kept (hg1 2 _ rfl) kV1 fun h => h
        have z2 := hBD.cell (i := 2) rfl
        have y3 := cell_kept (hg1 3 _ rfl) kV1 fun h => h
        have z3 := hBD.cell (i := 3) rfl
        rw [Nat.add_zero] at y0
        dsimp only at y0 y1 y2 y3
        have e7 : mk7 (j - L1) = -70 - (j : Int) + L1 := by unfold mk7; omega
        rw [e7] at y0
        have HN : Hid (Keeps (fun _ => False) W V1) := hK.trans kV1 fun _ _ h => h
        have hjz : (j : Int) < M1 := by omega
        have hjl : ¬ (j : Int) < L1 := by omega
        clear hy' hg1 hK hlt hl1 hj e7 kV1 hBD
        go_upto_region 5 with fail
        rw [← hV1, ← hD]
        clear hV1 hD b1
        go_upto_region 7 with fail
        clear c1
        go_quiet (fail)
        clear y0 z0 y1 z1 y2 z2 y3 z3
        go_wp2
        go_roundw
        case rel => exact ⟨j + 1, by omega, by go_num, HN.out.drewN _⟩
        case measure => simp [intOf]; omega
    · obtain rfl : j = M1 := by omega
      clear hK b1 HK0
      go_wp2
      have HK0 : Hid (Keeps (fun _ => False) W wr) := HK.out
      clear HK
      go_loopw [42] (fun i wr => ∃ j : Nat, j ≤ M2 ∧ i = .int .i64 j ∧ Keeps (fun _ => False) W wr) (fun i _ => M2 - (intOf i).toNat)
      case atStart => exact ⟨0, by omega, rfl, HK0.out⟩
      case round =>
        obtain ⟨j, hj, rfl, hK⟩ := hrel
        have b1 := (HW.out.1.kept hK fun e => e).cell (i := 7) rfl
        have HK : Hid (Keeps (fun _ => False) W wr) := hK
        by_cases hlt : j < M2
        · by_cases hl1 : j < L2
          · obtain ⟨y, hy⟩ : ∃ y, ps[j]? = some y := ⟨_, List.getElem?_eq_getElem (by have := HS.out; omega)⟩
            have hy' : (ps ++ pmL)[j]? = some y := by rw [List.getElem?_append_left (by have := HS.out; omega)]; exact hy
            obtain ⟨g1, o1, ha1, hg1⟩ := ((HS.out.2.2.1.kept HW.out.2 fun _ _ _ e => e).kept hK fun _ _ _ e => e).at hy'
            obtain ⟨g2, o2, ha2, hg2⟩ := ((HS.out.2.2.2.1.kept HW.out.2 fun _ _ _ e => e).kept hK fun _ _ _ e => e).at hy
            subst ha1
            rw [ha2] at b1
            obtain ⟨p, t⟩ := y
            obtain ⟨D, hD⟩ : ∃ D, D = wr.heap.size := ⟨_, rfl⟩
            obtain ⟨V1, hV1⟩ : ∃ V1, V1 = wr.alloc (.cells #[.int .i64 (-70 - (j : Int) + L2), .bool false] 55) := ⟨_, rfl⟩
            have kV1 : Keeps (fun _ => False) wr V1 := by rw [hV1]; exact (Keeps.refl _ _).alloc _
            have hBD : Blk V1 D [.int .i64 (-70 - (j : Int) + L2), .bool false] 55 := by rw [hV1, hD]; exact Blk.new _ _ _
            have c1 := cell_kept b1 kV1 fun h => h
            have x0 := cell_kept (hg2 0 _ rfl) kV1 fun h => h
            have d0' := hBD.cell (i := 0) rfl
            have f0' := hBD.frozen 0
            have x1 := cell_kept (hg2 1 _ rfl) kV1 fun h => h
            have d1' := hBD.cell (i := 1) rfl
            have f1' := hBD.frozen 1
            rw [Nat.add_zero] at x0
            obtain ⟨V2, hV2⟩ : ∃ V2, V2 = ((V1.setCell ⟨D, 0, none⟩ (.int .i64 p)).setCell ⟨D, 1, none⟩ (.bool t)) := ⟨_, rfl⟩
            have kk0 := Keeps.refl (fun k => k = D) V1
            have bb0 := hBD
            have kk1 := kk0.setCell ⟨D, 0, none⟩ (.int .i64 p) fun _ => rfl
            have bb1 := bb0.setCell 0 (.int .i64 p)
            have kk2 := kk1.setCell ⟨D, 1, none⟩ (.bool t) fun _ => rfl
            have bb2 := bb1.setCell 1 (.bool t)
            rw [← hV2] at kk2 bb2
            have kV2 : Keeps (fun k => k = D) wr V2 := (kV1.mono fun _ _ h => h.elim).trans kk2 fun _ _ h => h
            have hgD : g1 ≠ D := fun e => by have := World.block_lt_of_cell? wr _ (hg1 0 _ rfl); simp only at this; omega
            have y0 := cell_kept (hg1 0 _ rfl) kV2 hgD
            have z0 := bb2.cell (i := 0) rfl
            have y1 := cell_kept (hg1 1 _ rfl) kV2 hgD
            have z1 := bb2.cell (i := 1) rfl
            rw [Nat.add_zero] at y0
            have HN : Hid (Keeps (fun _ => False) W V2) := hK.trans kV2 fun b hb e => by have := hK.size; omega
            have hjz : (j : Int) < M2 := by omega
            have hjl : (j : Int) < L2 := by omega
            have ft : (t != t) = false := by simp
            clear hy hy' hg1 hg2 hK ha2 hlt hl1 hj kV1 kV2 hBD hgD kk0 bb0 kk1 bb1 kk2 bb2
            go_upto_region 14 with fail
            rw [← hV1, ← hD]
            clear hV1 hD b1
            go_upto_region 16 with fail
            rw [← hV2]
            clear hV2 c1 x0 d0' f0' x1 d1' f1'
            go_quiet (fail)
            clear y0 z0 y1 z1
            go_wp2
            go_roundw
            case rel => exact ⟨j + 1, by omega, by go_num, HN.out.drewN _⟩
            case measure => simp [intOf]; omega
          · have hy' := mk_at (fun k => (⟨mk7 k, false⟩ : Prt)) ps (n := L2) (by have := HS.out; omega) (by omega) (by have := HS.out; omega : j < L2 + 12)
            obtain ⟨g1, o1, ha1, hg1⟩ := ((HS.out.2.2.1.kept HW.out.2 fun _ _ _ e => e).kept hK fun _ _ _ e => e).at hy'
            subst ha1
            obtain ⟨D, hD⟩ : ∃ D, D = wr.heap.size := ⟨_, rfl⟩
            obtain ⟨V1, hV1⟩ : ∃ V1, V1 = wr.alloc (.cells #[.int .i64 (-70 - (j : Int) + L2), .bool false] 55) := ⟨_, rfl⟩
            have kV1 : Keeps (fun _ => False) wr V1 := by rw [hV1]; exact (Keeps.refl _ _).alloc _
            have hBD : Blk V1 D [.int .i64 (-70 - (j : Int) + L2), .bool false] 55 := by rw [hV1, hD]; exact Blk.new _ _ _
            have c1 := cell_kept b1 kV1 fun h => h
            have y0 := cell_kept (hg1 0 _ rfl) kV1 fun h => h
            have z0 := hBD.cell (i := 0) rfl
            have y1 := cell_kept (hg1 1 _ rfl) kV1 fun h => h
            have z1 := hBD.cell (i := 1) rfl
            rw [Nat.add_zero] at y0
            dsimp only at y0 y1
            have e7 : mk7 (j - L2) = -70 - (j : Int) + L2 := by unfold mk7; omega
            rw [e7] at y0
            have HN : Hid (Keeps (fun _ => False) W V1) := hK.trans kV1 fun _ _ h => h
            have hjz : (j : Int) < M2 := by omega
            have hjl : ¬ (j : Int) < L2 := by omega
            clear hy' hg1 hK hlt hl1 hj e7 kV1 hBD
            go_upto_region 14 with fail
            rw [← hV1, ← hD]
            clear hV1 hD b1
            go_upto_region 16 with fail
            clear c1
            go_quiet (fail)
            clear y0 z0 y1 z1
            go_wp2
            go_roundw
            case rel => exact ⟨j + 1, by omega, by go_num, HN.out.drewN _⟩
            case measure => simp [intOf]; omega
        · obtain rfl : j = M2 := by omega
          clear hK b1 HK0
          go_wp2
          go_ret
          exact ⟨rfl, HW.out.2.trans HK.out fun _ _ e => e⟩
end Go.Proofs.YtjadpbkhfclldaaGreat
