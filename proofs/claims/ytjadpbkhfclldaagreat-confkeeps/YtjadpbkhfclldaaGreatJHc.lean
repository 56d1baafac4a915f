import Derived.Test.YtjadpbkhfclldaaGreatJHb
import Derived.Test.YtjadpbkhfclldaaGreatKt
namespace Go.Proofs.YtjadpbkhfclldaaGreat
open Go.RowKit
set_option linter.unusedVariables false
set_option maxRecDepth 6000

def Core.d2 (c : Core) : Bool := listW Win.d2 c.ws
def Par.d2 (p : Par) : Bool := p.pure.d
set_option maxHeartbeats 4000000 in
theorem holds_any (x : Cfg) (w : World) (h : x.Ok w) :
    Calls Tryz.prog 13 #[x.v] w fun e w' => e = .returned (.bool (!x.pure.d)) ∧ Keeps (fun _ => False) w w' := by
  obtain ⟨n1, n2, n3, n4, ca, cc, cs, pa, pc, ps, ha, hc, hs⟩ := x
  obtain ⟨L1, hL1⟩ : ∃ L, cs.length = L := ⟨_, rfl⟩
  obtain ⟨L2, hL2⟩ : ∃ L, ps.length = L := ⟨_, rfl⟩
  obtain ⟨L3, hL3⟩ : ∃ L, hs.length = L := ⟨_, rfl⟩
  have HS : Hid (cs.length = L1 ∧ ps.length = L2 ∧ hs.length = L3) := ⟨hL1, hL2, hL3⟩
  have hr1 := h.clen
  have hr2 := h.plen
  have hr3 := h.hlen
  simp only [hL1, hL2, hL3] at hr1 hr2 hr3
  simp only [Cfg.v, hL1, hL2, hL3]
  have d1 : (L1 : Int) ≤ cc := by omega
  have d2 : (L2 : Int) ≤ pc := by omega
  have d3 : (L3 : Int) ≤ hc := by omega
  have d4 : (cc : Int) ≤ 9223372036854775807 := by unfold maxLen at hr1; omega
  have d5 : (pc : Int) ≤ 9223372036854775807 := by unfold maxLen at hr2; omega
  have d6 : (hc : Int) ≤ 9223372036854775807 := by unfold maxLen at hr3; omega
  obtain ⟨DD, hDD⟩ : ∃ DD, (Cfg.pure ⟨n1, n2, n3, n4, ca, cc, cs, pa, pc, ps, ha, hc, hs⟩).d = DD := ⟨_, rfl⟩
  rw [hDD]
  have HDD : Hid (DD = (wNs [n1, n2, n3, n4] || (listW (listW Win.d2) (cs.map Core.ws) || (listW PPar.d (ps.map Par.pure) || listW Chn.d hs)))) := by rw [← hDD]; rfl
  obtain ⟨C, hC⟩ : ∃ C, C = w.heap.size := ⟨_, rfl⟩
  obtain ⟨W, hWd⟩ : ∃ W, W = w.alloc (.cells #[.int .i64 n1, .int .i64 n2, .int .i64 n3, .int .i64 n4, .slice ca L1 cc, .slice pa L2 pc, .slice ha L3 hc] 26) := ⟨_, rfl⟩
  have HW : Hid (Blk W C [.int .i64 n1, .int .i64 n2, .int .i64 n3, .int .i64 n4, .slice ca L1 cc, .slice pa L2 pc, .slice ha L3 hc] 26 ∧ Keeps (fun _ => False) w W) := by
    rw [hWd, hC]; exact ⟨Blk.new w _ _, (Keeps.refl _ w).alloc _⟩
  have HO : Hid (Cfg.Ok ⟨n1, n2, n3, n4, ca, cc, cs, pa, pc, ps, ha, hc, hs⟩ W) := h.grown HW.out.2
  clear hDD h hL1 hL2 hL3 hr1 hr2 hr3
  by_cases h1 : 255 < L1
  · have HQ : Hid (DD = true) := by show DD = true; rw [HDD.out]; unfold listW; simp only [List.length_map, HS.out.1, HS.out.2.1, HS.out.2.2]; rw [decide_eq_true h1]; simp
    have h1' : (255 : Int) < L1 := by omega
    go_enter Tryz.func13, Tryz.ntmps13
    go_wp2
    go_ret
    exact ⟨ret_b (by rw [HQ.out]; rfl), (Keeps.refl _ w).alloc _⟩
  by_cases h2 : 255 < L2
  · have HQ : Hid (DD = true) := by show DD = true; rw [HDD.out]; unfold listW; simp only [List.length_map, HS.out.1, HS.out.2.1, HS.out.2.2]; rw [decide_eq_true h2]; simp
    have h1' : ¬ (255 : Int) < L1 := by omega
    have h2' : (255 : Int) < L2 := by omega
    go_enter Tryz.func13, Tryz.ntmps13
    go_wp2
    go_ret
    exact ⟨ret_b (by rw [HQ.out]; rfl), (Keeps.refl _ w).alloc _⟩
  by_cases h3 : 255 < L3
  · have HQ : Hid (DD = true) := by show DD = true; rw [HDD.out]; unfold listW; simp only [List.length_map, HS.out.1, HS.out.2.1, HS.out.2.2]; rw [decide_eq_true h3]; simp
    have h1' : ¬ (255 : Int) < L1 := by omega
    have h2' : ¬ (255 : Int) < L2 := by omega
    have h3' : (255 : Int) < L3 := by omega
    go_enter Tryz.func13, Tryz.ntmps13
    go_wp2
    go_ret
    exact ⟨ret_b (by rw [HQ.out]; rfl), (Keeps.refl _ w).alloc _⟩
  have h1' : ¬ (255 : Int) < L1 := by omega
  have h2' : ¬ (255 : Int) < L2 := by omega
  have h3' : ¬ (255 : Int) < L3 := by omega
  have HDE : Hid (DD = (wNs [n1, n2, n3, n4] || (cs.any Core.d2 || (ps.any Par.d2 || hs.any Chn.d)))) := by
    show DD = _
    rw [HDD.out]
    have e1 : listW (listW Win.d2) (cs.map Core.ws) = cs.any Core.d2 := by rw [listW_map]; unfold listW; rw [HS.out.1, decide_eq_false h1]; rfl
    have e2 : listW PPar.d (ps.map Par.pure) = ps.any Par.d2 := by rw [listW_map]; unfold listW; rw [HS.out.2.1, decide_eq_false h2]; rfl
    have e3 : listW Chn.d hs = hs.any Chn.d := by unfold listW; rw [HS.out.2.2, decide_eq_false h3]; rfl
    rw [e1, e2, e3]
  clear h1 h2 h3
  go_enter Tryz.func13, Tryz.ntmps13
  go_wp2_with fail
  rw [← hC]
  have hsz : C + 1 = W.heap.size := by rw [hWd, hC]; simp
  rw [← hWd]
  clear hWd hC
  refine (may_at (w := w) (w1 := W) (C + 1) [n1, n2, n3, n4] hsz (by simp)).mono ?_
  rintro e w2 ⟨rfl, hw2⟩
  have HK2 : Hid (Keeps (fun _ => False) W w2) := by rw [hw2]; exact (Keeps.refl _ _).alloc _
  clear hw2 hsz
  cases hm : wNs [n1, n2, n3, n4]
  rotate_left
  · have HQ : Hid (DD = true) := by rw [HDE.out, hm]; rfl
    clear hm
    go_wp2
    go_ret
    exact ⟨ret_b (by rw [HQ.out]; rfl), HW.out.2.trans HK2.out fun _ _ e => e⟩
  have HDC : Hid (DD = (cs.any Core.d2 || (ps.any Par.d2 || hs.any Chn.d))) := by rw [HDE.out, hm]; rfl
  have cN := (HW.out.1.kept HK2.out fun e => e).cell (i := 4) rfl
  clear hm HDE HDD
  go_wp2
  go_loopw [39] (fun i wr => ∃ j : Nat, j ≤ L1 ∧ i = .int .i64 j ∧ (cs.take j).any Core.d2 = false ∧ Keeps (fun _ => False) W wr) (fun i _ => L1 - (intOf i).toNat)
  case atStart => exact ⟨0, by omega, rfl, by simp, HK2.out⟩
  case round =>
    clear cN
    obtain ⟨j, hj, rfl, hn, hK⟩ := hrel
    have b1 := (HW.out.1.kept hK fun e => e).cell (i := 4) rfl
    by_cases hlt : j < L1
    · obtain ⟨y, hy⟩ : ∃ y, cs[j]? = some y := ⟨_, List.getElem?_eq_getElem (by have := HS.out; omega)⟩
      obtain ⟨g, o, ha', hg⟩ := (HO.out.cseg.kept hK fun _ _ _ e => e).at hy
      simp only at ha'
      rw [ha'] at b1
      have y0 := hg 0 _ rfl
      rw [Nat.add_zero, Nat.mul_one] at y0
      have HB : Hid (Core.d2 y = true → DD = true) := fun h => by rw [HDC.out, List.any_eq_true.2 ⟨y, List.mem_of_getElem? hy, h⟩]; rfl
      have HF : Hid (Core.d2 y = false → (cs.take (j + 1)).any Core.d2 = false) := fun h => by rw [take_any Core.d2 cs j y hy, hn, h]; rfl
      have HK : Hid (Keeps (fun _ => False) W wr) := hK
      have HCC : Hid (Calls Tryz.prog 32 #[y.v] wr fun e w' => e = .returned (.bool (!Core.d2 y)) ∧ Keeps (fun _ => False) wr w') := holdsWindows_any y.a y.c y.ws wr ((HO.out.cok y (List.mem_of_getElem? hy)).grown hK).seg (HO.out.cok y (List.mem_of_getElem? hy)).len
      clear hy hn hg hK ha'
      go_wp2_with fail
      refine HCC.out.mono ?_
      rintro e w3 ⟨rfl, hK3⟩
      have HK3 : Hid (Keeps (fun _ => False) W w3) := HK.out.trans hK3 fun _ _ e => e
      clear hK3 y0 b1 HCC
      cases hm : Core.d2 y
      · have HQ : Hid ((cs.take (j + 1)).any Core.d2 = false) := HF.out hm
        clear hm
        go_wp2
        go_roundw
        case rel => exact ⟨j + 1, by omega, by go_num, HQ.out, HK3.out⟩
        case measure => simp [intOf]; omega
      · have HQ : Hid (DD = true) := HB.out hm
        clear hm
        go_wp2
        go_ret
        exact ⟨ret_b (by rw [HQ.out]; rfl), HW.out.2.trans HK3.out fun _ _ e => e⟩
    · obtain rfl : j = L1 := by omega
      have HK2 : Hid (Keeps (fun _ => False) W wr) := hK
      have HDN : Hid (DD = (ps.any Par.d2 || hs.any Chn.d)) := by
        show DD = (ps.any Par.d2 || hs.any Chn.d)
        rw [List.take_of_length_le (by have := HS.out; omega)] at hn
        rw [HDC.out, hn]; rfl
      clear hn b1
      have cN := (HW.out.1.kept hK fun e => e).cell (i := 5) rfl
      clear hK
      have HDC := HDN
      clear HDN
      go_wp2
      go_loopw [53] (fun i wr => ∃ j : Nat, j ≤ L2 ∧ i = .int .i64 j ∧ (ps.take j).any Par.d2 = false ∧ Keeps (fun _ => False) W wr) (fun i _ => L2 - (intOf i).toNat)
      case atStart => exact ⟨0, by omega, rfl, by simp, HK2.out⟩
      case round =>
        clear cN
        obtain ⟨j, hj, rfl, hn, hK⟩ := hrel
        have b1 := (HW.out.1.kept hK fun e => e).cell (i := 5) rfl
        by_cases hlt : j < L2
        · obtain ⟨y, hy⟩ : ∃ y, ps[j]? = some y := ⟨_, List.getElem?_eq_getElem (by have := HS.out; omega)⟩
          obtain ⟨g, o, ha', hg⟩ := (HO.out.pseg.kept hK fun _ _ _ e => e).at hy
          simp only at ha'
          rw [ha'] at b1
          have y0 := hg 0 _ rfl
          rw [Nat.add_zero] at y0
          have y1 := hg 1 _ rfl
          have y2 := hg 2 _ rfl
          have y3 := hg 3 _ rfl
          have y4 := hg 4 _ rfl
          have y5 := hg 5 _ rfl
          have y6 := hg 6 _ rfl
          have y7 := hg 7 _ rfl
          have HB : Hid (Par.d2 y = true → DD = true) := fun h => by rw [HDC.out, List.any_eq_true.2 ⟨y, List.mem_of_getElem? hy, h⟩]; rfl
          have HF : Hid (Par.d2 y = false → (ps.take (j + 1)).any Par.d2 = false) := fun h => by rw [take_any Par.d2 ps j y hy, hn, h]; rfl
          have HK : Hid (Keeps (fun _ => False) W wr) := hK
          have HCC : Hid (Calls Tryz.prog 33 #[y.v] wr fun e w' => e = .returned (.bool (!Par.d2 y)) ∧ Keeps (fun _ => False) wr w') := holdsPartition_any y wr ((HO.out.pok y (List.mem_of_getElem? hy)).grown hK)
          clear hy hn hg hK ha'
          go_wp2_with fail
          refine HCC.out.mono ?_
          rintro e w3 ⟨rfl, hK3⟩
          have HK3 : Hid (Keeps (fun _ => False) W w3) := HK.out.trans hK3 fun _ _ e => e
          clear hK3 y0 y1 y2 y3 y4 y5 y6 y7 b1 HCC
          cases hm : Par.d2 y
          · have HQ : Hid ((ps.take (j + 1)).any Par.d2 = false) := HF.out hm
            clear hm
            go_wp2
            go_roundw
            case rel => exact ⟨j + 1, by omega, by go_num, HQ.out, HK3.out⟩
            case measure => simp [intOf]; omega
          · have HQ : Hid (DD = true) := HB.out hm
            clear hm
            go_wp2
            go_ret
            exact ⟨ret_b (by rw [HQ.out]; rfl), HW.out.2.trans HK3.out fun _ _ e => e⟩
        · obtain rfl : j = L2 := by omega
          have HK2 : Hid (Keeps (fun _ => False) W wr) := hK
          have HDN : Hid (DD = hs.any Chn.d) := by
            show DD = hs.any Chn.d
            rw [List.take_of_length_le (by have := HS.out; omega)] at hn
            rw [HDC.out, hn]; rfl
          clear hn b1
          have cN := (HW.out.1.kept hK fun e => e).cell (i := 6) rfl
          clear hK
          have HDC := HDN
          clear HDN
          go_wp2
          go_loopw [67] (fun i wr => ∃ j : Nat, j ≤ L3 ∧ i = .int .i64 j ∧ (hs.take j).any Chn.d = false ∧ Keeps (fun _ => False) W wr) (fun i _ => L3 - (intOf i).toNat)
          case atStart => exact ⟨0, by omega, rfl, by simp, HK2.out⟩
          case round =>
            clear cN
            obtain ⟨j, hj, rfl, hn, hK⟩ := hrel
            have b1 := (HW.out.1.kept hK fun e => e).cell (i := 6) rfl
            by_cases hlt : j < L3
            · obtain ⟨y, hy⟩ : ∃ y, hs[j]? = some y := ⟨_, List.getElem?_eq_getElem (by have := HS.out; omega)⟩
              obtain ⟨g, o, ha', hg⟩ := (HO.out.hseg.kept hK fun _ _ _ e => e).at hy
              simp only at ha'
              rw [ha'] at b1
              have y0 := hg 0 _ rfl
              rw [Nat.add_zero] at y0
              have y1 := hg 1 _ rfl
              have y2 := hg 2 _ rfl
              have HB : Hid (y.d = true → DD = true) := fun h => by rw [HDC.out, List.any_eq_true.2 ⟨y, List.mem_of_getElem? hy, h⟩]
              have HF : Hid (y.d = false → (hs.take (j + 1)).any Chn.d = false) := fun h => by rw [take_any Chn.d hs j y hy, hn, h]; rfl
              have HK : Hid (Keeps (fun _ => False) W wr) := hK
              clear hy hn hg hK ha'
              obtain ⟨q1, q2, q3⟩ := y
              go_wp2_with fail
              refine (may_at (w := w) (w1 := wr.alloc _) (wr.heap.size + 1) [q1, q2, q3] (by simp) (by simp)).mono ?_
              rintro e w3 ⟨rfl, hw3⟩
              have HK3 : Hid (Keeps (fun _ => False) W w3) := by rw [hw3]; exact (HK.out.alloc _).alloc _
              clear hw3 y0 y1 y2 b1
              cases hm : wNs [q1, q2, q3]
              · have HQ : Hid ((hs.take (j + 1)).any Chn.d = false) := HF.out hm
                clear hm
                go_wp2
                go_roundw
                case rel => exact ⟨j + 1, by omega, by go_num, HQ.out, HK3.out⟩
                case measure => simp [intOf]; omega
              · have HQ : Hid (DD = true) := HB.out hm
                clear hm
                go_wp2
                go_ret
                exact ⟨ret_b (by rw [HQ.out]; rfl), HW.out.2.trans HK3.out fun _ _ e => e⟩
            · obtain rfl : j = L3 := by omega
              have HK2 : Hid (Keeps (fun _ => False) W wr) := hK
              have HDN : Hid (DD = false) := by
                show DD = false
                rw [List.take_of_length_le (by have := HS.out; omega)] at hn
                rw [HDC.out, hn]
              clear hn b1
              clear hK
              go_wp2
              go_ret
              exact ⟨ret_b (by rw [HDN.out]; rfl), HW.out.2.trans HK2.out fun _ _ e => e⟩
end Go.Proofs.YtjadpbkhfclldaaGreat
