import Derived.Test.YtmkeccibminnhaaOa
namespace Go.Proofs.Ytmkeccibminnhaa
open Go.RowKit
set_option linter.unusedVariables false
set_option maxRecDepth 6000

set_option maxHeartbeats 1000000 in
theorem sameWindows_eq (a1 a2 : Option Addr) (c1 c2 : Nat) (l : List Win) (w : World) (h1 : SegA Win.vs 3 w a1 l) (h2 : SegA Win.vs 3 w a2 l) (hl1 : l.length ≤ c1 ∧ c1 ≤ maxLen) (hl2 : l.length ≤ c2 ∧ c2 ≤ maxLen) :
    Calls Try.prog 29 #[.slice a1 l.length c1, .slice a2 l.length c2] w fun e w' => e = .returned (.bool true) ∧ Keeps (fun _ => False) w w' := by
  obtain ⟨L, hL⟩ : ∃ L, l.length = L := ⟨_, rfl⟩
  have HS : Hid (SegA Win.vs 3 w a1 l ∧ SegA Win.vs 3 w a2 l ∧ l.length = L) := ⟨h1, h2, hL⟩
  rw [hL] at hl1 hl2 ⊢
  have hc1 : (L : Int) ≤ c1 := by omega
  have hc2 : (L : Int) ≤ c2 := by omega
  have hc3 : (c1 : Int) ≤ 9223372036854775807 := by unfold maxLen at hl1; omega
  clear h1 h2 hL hl1 hl2
  go_enter Try.func29, Try.ntmps29
  go_wp2
  go_loopw [13] (fun i wr => ∃ j : Nat, j ≤ L ∧ i = .int .i64 j ∧ Keeps (fun _ => False) w wr) (fun i _ => L - (intOf i).toNat)
  case atStart => exact ⟨0, by omega, rfl, Keeps.refl _ _⟩
  case round =>
    obtain ⟨j, hj, rfl, hK⟩ := hrel
    by_cases hlt : j < L
    · obtain ⟨y, hy⟩ : ∃ y, l[j]? = some y := ⟨_, List.getElem?_eq_getElem (by have := HS.out.2.2; omega)⟩
      obtain ⟨g1, o1, rfl, hg1⟩ := (HS.out.1.kept hK fun _ _ _ e => e).at hy
      obtain ⟨g2, o2, rfl, hg2⟩ := (HS.out.2.1.kept hK fun _ _ _ e => e).at hy
      have y0 := hg1 0 _ rfl
      rw [Nat.add_zero] at y0
      have y1 := hg1 1 _ rfl
      have y2 := hg1 2 _ rfl
      have x0 := hg2 0 _ rfl
      rw [Nat.add_zero] at x0
      have x1 := hg2 1 _ rfl
      have x2 := hg2 2 _ rfl
      have HK : Hid (Keeps (fun _ => False) w wr) := hK
      clear hy hg1 hg2 hK
      obtain ⟨p, u, s⟩ := y
      go_wp2
      go_quiet (fail)
      clear y0 y1 y2 x0 x1 x2
      go_wp2
      go_roundw
      case rel => exact ⟨j + 1, by omega, by go_num, HK.out.drewN _⟩
      case measure => simp [intOf]; omega
    · obtain rfl : j = L := by omega
      have HK : Hid (Keeps (fun _ => False) w wr) := hK
      clear hK
      go_wp2
      go_ret
      exact ⟨rfl, HK.out⟩

set_option maxHeartbeats 4000000 in
theorem samePartition_eq (x y : Par) (w : World) (hp : x.pure = y.pure) (h1 : x.Ok w) (h2 : y.Ok w) :
    Calls Try.prog 30 #[x.v, y.v] w fun e w' => e = .returned (.bool true) ∧ Keeps (fun _ => False) w w' := by
  obtain ⟨s, n1, n2, n3, n4, n5, ra1, rc1, rs, pa1, pc1, ps⟩ := x
  obtain ⟨s', n1', n2', n3', n4', n5', ra2, rc2, rs', pa2, pc2, ps'⟩ := y
  simp only [Par.pure, PPar.mk.injEq] at hp
  obtain ⟨rfl, rfl, rfl, rfl, rfl, rfl, rfl, rfl⟩ := hp
  obtain ⟨L1, hL1⟩ : ∃ L, rs.length = L := ⟨_, rfl⟩
  obtain ⟨L2, hL2⟩ : ∃ L, ps.length = L := ⟨_, rfl⟩
  have HS : Hid (SegA Rgn.vs 4 w ra1 rs ∧ SegA Rgn.vs 4 w ra2 rs ∧ SegA Prt.vs 2 w pa1 ps ∧ SegA Prt.vs 2 w pa2 ps ∧ rs.length = L1 ∧ ps.length = L2) := ⟨h1.rseg, h2.rseg, h1.pseg, h2.pseg, hL1, hL2⟩
  have hr1 := h1.rlen
  have hr2 := h2.rlen
  have hp1 := h1.plen
  have hp2 := h2.plen
  simp only [hL1, hL2] at hr1 hr2 hp1 hp2
  simp only [Par.v, hL1, hL2]
  have d1 : (L1 : Int) ≤ rc1 := by omega
  have d2 : (L1 : Int) ≤ rc2 := by omega
  have d3 : (L2 : Int) ≤ pc1 := by omega
  have d4 : (L2 : Int) ≤ pc2 := by omega
  have d5 : (rc1 : Int) ≤ 9223372036854775807 := by unfold maxLen at hr1; omega
  have d6 : (pc1 : Int) ≤ 9223372036854775807 := by unfold maxLen at hp1; omega
  clear h1 h2 hL1 hL2 hr1 hr2 hp1 hp2
  obtain ⟨C, hC⟩ : ∃ C, C = w.heap.size := ⟨_, rfl⟩
  obtain ⟨W, hWd⟩ : ∃ W, W = (w.alloc (.cells #[.string s, .int .i64 n1, .int .i64 n2, .int .i64 n3, .int .i64 n4, .int .i64 n5, .slice ra1 L1 rc1, .slice pa1 L2 pc1] 69)).alloc (.cells #[.string s, .int .i64 n1, .int .i64 n2, .int .i64 n3, .int .i64 n4, .int .i64 n5, .slice ra2 L1 rc2, .slice pa2 L2 pc2] 69) := ⟨_, rfl⟩
  have HW : Hid (Blk W C [.string s, .int .i64 n1, .int .i64 n2, .int .i64 n3, .int .i64 n4, .int .i64 n5, .slice ra1 L1 rc1, .slice pa1 L2 pc1] 69 ∧ Blk W (C + 1) [.string s, .int .i64 n1, .int .i64 n2, .int .i64 n3, .int .i64 n4, .int .i64 n5, .slice ra2 L1 rc2, .slice pa2 L2 pc2] 69 ∧ Keeps (fun _ => False) w W) := by
    rw [hWd, hC]
    refine ⟨(Blk.new w _ _).alloc _, ?_, ((Keeps.refl _ w).alloc _).alloc _⟩
    have := Blk.new (w.alloc (.cells #[.string s, .int .i64 n1, .int .i64 n2, .int .i64 n3, .int .i64 n4, .int .i64 n5, .slice ra1 L1 rc1, .slice pa1 L2 pc1] 69)) #[.string s, .int .i64 n1, .int .i64 n2, .int .i64 n3, .int .i64 n4, .int .i64 n5, .slice ra2 L1 rc2, .slice pa2 L2 pc2] 69
    simpa using this
  have HK0 : Hid (Keeps (fun _ => False) W W) := Keeps.refl _ W
  go_enter Try.func30, Try.ntmps30
  go_wp2
  rw [← hWd, ← hC]
  clear hWd hC
  go_loopw [71] (fun i wr => ∃ j : Nat, j ≤ L1 ∧ i = .int .i64 j ∧ Keeps (fun _ => False) W wr) (fun i _ => L1 - (intOf i).toNat)
  case atStart => exact ⟨0, by omega, rfl, HK0.out⟩
  case round =>
    obtain ⟨j, hj, rfl, hK⟩ := hrel
    have b1 := (HW.out.1.kept hK fun e => e).cell (i := 6) rfl
    have b2 := (HW.out.2.1.kept hK fun e => e).cell (i := 6) rfl
    by_cases hlt : j < L1
    · obtain ⟨y, hy⟩ : ∃ y, rs[j]? = some y := ⟨_, List.getElem?_eq_getElem (by have := HS.out; omega)⟩
      have hg1 := ((HS.out.1.kept HW.out.2.2 fun _ _ _ e => e).kept hK fun _ _ _ e => e).at hy
      have hg2 := ((HS.out.2.1.kept HW.out.2.2 fun _ _ _ e => e).kept hK fun _ _ _ e => e).at hy
      obtain ⟨g1, o1, ha1, hg1⟩ := hg1
      obtain ⟨g2, o2, ha2, hg2⟩ := hg2
      rw [ha1] at b1
      rw [ha2] at b2
      have y0 := hg1 0 _ rfl
      rw [Nat.add_zero] at y0
      have y1 := hg1 1 _ rfl
      have y2 := hg1 2 _ rfl
      have y3 := hg1 3 _ rfl
      have x0 := hg2 0 _ rfl
      rw [Nat.add_zero] at x0
      have x1 := hg2 1 _ rfl
      have x2 := hg2 2 _ rfl
      have x3 := hg2 3 _ rfl
      have HK : Hid (Keeps (fun _ => False) W wr) := hK
      clear hy hg1 hg2 hK ha1 ha2
      obtain ⟨p, u, s, t⟩ := y
      go_wp2
      go_quiet (fail)
      clear y0 x0 y1 x1 y2 x2 y3 x3 b1 b2
      go_wp2
      go_roundw
      case rel => exact ⟨j + 1, by omega, by go_num, HK.out.drewN _⟩
      case measure => simp [intOf]; omega
    · obtain rfl : j = L1 := by omega
      have HK1 : Hid (Keeps (fun _ => False) W wr) := hK
      have e1 := (HW.out.1.kept hK fun e => e).cell (i := 7) rfl
      clear hK b1 b2 HK0
      go_wp2
      have HK0 : Hid (Keeps (fun _ => False) W wr) := HK1.out
      clear HK1 e1
      go_loopw [89] (fun i wr => ∃ j : Nat, j ≤ L2 ∧ i = .int .i64 j ∧ Keeps (fun _ => False) W wr) (fun i _ => L2 - (intOf i).toNat)
      case atStart => exact ⟨0, by omega, rfl, HK0.out⟩
      case round =>
        obtain ⟨j, hj, rfl, hK⟩ := hrel
        have b1 := (HW.out.1.kept hK fun e => e).cell (i := 7) rfl
        have b2 := (HW.out.2.1.kept hK fun e => e).cell (i := 7) rfl
        by_cases hlt : j < L2
        · obtain ⟨y, hy⟩ : ∃ y, ps[j]? = some y := ⟨_, List.getElem?_eq_getElem (by have := HS.out; omega)⟩
          have hg1 := ((HS.out.2.2.1.kept HW.out.2.2 fun _ _ _ e => e).kept hK fun _ _ _ e => e).at hy
          have hg2 := ((HS.out.2.2.2.1.kept HW.out.2.2 fun _ _ _ e => e).kept hK fun _ _ _ e => e).at hy
          obtain ⟨g1, o1, ha1, hg1⟩ := hg1
          obtain ⟨g2, o2, ha2, hg2⟩ := hg2
          rw [ha1] at b1
          rw [ha2] at b2
          have y0 := hg1 0 _ rfl
          rw [Nat.add_zero] at y0
          have y1 := hg1 1 _ rfl
          have x0 := hg2 0 _ rfl
          rw [Nat.add_zero] at x0
          have x1 := hg2 1 _ rfl
          have HK : Hid (Keeps (fun _ => False) W wr) := hK
          clear hy hg1 hg2 hK ha1 ha2
          obtain ⟨p, s⟩ := y
          go_wp2
          go_quiet (fail)
          clear y0 x0 y1 x1 b1 b2
          go_wp2
          go_roundw
          case rel => exact ⟨j + 1, by omega, by go_num, HK.out.drewN _⟩
          case measure => simp [intOf]; omega
        · obtain rfl : j = L2 := by omega
          have HK1 : Hid (Keeps (fun _ => False) W wr) := hK
          clear hK b1 b2 HK0
          go_wp2
          go_ret
          exact ⟨rfl, HW.out.2.2.trans HK1.out fun _ _ e => e⟩

end Go.Proofs.Ytmkeccibminnhaa
