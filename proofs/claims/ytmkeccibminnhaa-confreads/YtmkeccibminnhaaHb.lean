import Derived.Test.YtmkeccibminnhaaHa
namespace Go.Proofs.Ytmkeccibminnhaa
open Go.RowKit
set_option linter.unusedVariables false
set_option maxRecDepth 6000

theorem kd_false {a b : Bool} (h : a = true) : (!(a || b)) = false := by rw [h]; rfl

set_option maxHeartbeats 4000000 in
theorem holdsPartition_any (x : Par) (w : World) (h : x.Ok w) :
    Calls Try.prog 44 #[x.v] w fun e w' => e = .returned (.bool (!x.pure.d)) ∧ Keeps (fun _ => False) w w' := by
  obtain ⟨s, n1, n2, n3, n4, n5, ra, rc, rs, pa, pc, ps⟩ := x
  obtain ⟨L1, hL1⟩ : ∃ L, rs.length = L := ⟨_, rfl⟩
  obtain ⟨L2, hL2⟩ : ∃ L, ps.length = L := ⟨_, rfl⟩
  have HS : Hid (SegA Rgn.vs 4 w ra rs ∧ SegA Prt.vs 2 w pa ps ∧ rs.length = L1 ∧ ps.length = L2) := ⟨h.rseg, h.pseg, hL1, hL2⟩
  have hr := h.rlen
  have hp := h.plen
  have hnm := h.name
  simp only [hL1, hL2] at hr hp
  simp only at hnm
  simp only [Par.v, hL1, hL2]
  have d1 : (L1 : Int) ≤ rc := by omega
  have d2 : (L2 : Int) ≤ pc := by omega
  have d3 : (rc : Int) ≤ 9223372036854775807 := by unfold maxLen at hr; omega
  have d4 : (pc : Int) ≤ 9223372036854775807 := by unfold maxLen at hp; omega
  have HD : Hid (Par.pure ⟨s, n1, n2, n3, n4, n5, ra, rc, rs, pa, pc, ps⟩ = ⟨s, n1, n2, n3, n4, n5, rs, ps⟩) := rfl
  rw [HD.out]
  have HE : Hid (PPar.d ⟨s, n1, n2, n3, n4, n5, rs, ps⟩ = (nameW s || (wNs [n1, n2, n3, n4, n5] || (listW Rgn.d rs || listW Prt.d ps)))) := rfl
  obtain ⟨DD, hDD⟩ : ∃ DD, PPar.d ⟨s, n1, n2, n3, n4, n5, rs, ps⟩ = DD := ⟨_, rfl⟩
  rw [hDD]
  have HDD : Hid (DD = (nameW s || (wNs [n1, n2, n3, n4, n5] || (listW Rgn.d rs || listW Prt.d ps)))) := by rw [← hDD]; exact HE.out
  clear hDD HE HD h hL1 hL2 hr hp
  obtain ⟨S, hSz⟩ : ∃ S, s.size = S := ⟨_, rfl⟩
  have HSz : Hid (s.size = S) := hSz
  obtain ⟨C, hC⟩ : ∃ C, C = w.heap.size := ⟨_, rfl⟩
  obtain ⟨W, hWd⟩ : ∃ W, W = w.alloc (.cells #[.string s, .int .i64 n1, .int .i64 n2, .int .i64 n3, .int .i64 n4, .int .i64 n5, .slice ra L1 rc, .slice pa L2 pc] 69) := ⟨_, rfl⟩
  have HW : Hid (Blk W C [.string s, .int .i64 n1, .int .i64 n2, .int .i64 n3, .int .i64 n4, .int .i64 n5, .slice ra L1 rc, .slice pa L2 pc] 69 ∧ Keeps (fun _ => False) w W) := by
    rw [hWd, hC]; exact ⟨Blk.new w _ _, (Keeps.refl _ w).alloc _⟩
  by_cases h1 : 255 < s.size
  · have h1' : (255 : Int) < s.size := by omega
    have HQ : Hid (DD = true) := by rw [HDD.out]; unfold nameW; rw [decide_eq_true h1]; rfl
    clear hSz
    go_enter Try.func44, Try.ntmps44
    go_wp2
    go_ret
    exact ⟨ret_b (by rw [HQ.out]; rfl), (Keeps.refl _ w).alloc _⟩
  by_cases h2 : 255 < L1
  · have h1' : ¬ (255 : Int) < s.size := by omega
    have h2' : (255 : Int) < L1 := by omega
    have HQ : Hid (DD = true) := by show DD = true; rw [HDD.out]; unfold listW; rw [HS.out.2.2.1, decide_eq_true h2]; simp
    clear hSz
    go_enter Try.func44, Try.ntmps44
    go_wp2
    go_ret
    exact ⟨ret_b (by rw [HQ.out]; rfl), (Keeps.refl _ w).alloc _⟩
  by_cases h3 : 255 < L2
  · have h1' : ¬ (255 : Int) < s.size := by omega
    have h2' : ¬ (255 : Int) < L1 := by omega
    have h3' : (255 : Int) < L2 := by omega
    have HQ : Hid (DD = true) := by show DD = true; rw [HDD.out]; unfold listW; rw [HS.out.2.2.2, decide_eq_true h3]; simp
    clear hSz
    go_enter Try.func44, Try.ntmps44
    go_wp2
    go_ret
    exact ⟨ret_b (by rw [HQ.out]; rfl), (Keeps.refl _ w).alloc _⟩
  have h1' : ¬ (255 : Int) < s.size := by omega
  have h2' : ¬ (255 : Int) < L1 := by omega
  have h3' : ¬ (255 : Int) < L2 := by omega
  have HDE : Hid (DD = (wNs [n1, n2, n3, n4, n5] || (rs.any Rgn.d || ps.any Prt.d))) := by
    rw [HDD.out]; unfold listW nameW
    rw [HS.out.2.2.1, HS.out.2.2.2, decide_eq_false h1, decide_eq_false h2, decide_eq_false h3]; rfl
  clear hSz h1 h2 h3
  go_enter Try.func44, Try.ntmps44
  go_wp2_with fail
  rw [← hC]
  have hsz : C + 1 = W.heap.size := by rw [hWd, hC]; simp
  rw [← hWd]
  clear hWd hC
  refine (may_at (w := w) (w1 := W) (C + 1) [n1, n2, n3, n4, n5] hsz (by simp)).mono ?_
  rintro e w2 ⟨rfl, hw2⟩
  have hK2 : Keeps (fun _ => False) W w2 := by rw [hw2]; exact (Keeps.refl _ _).alloc _
  have HK2 : Hid (Keeps (fun _ => False) W w2) := hK2
  clear hw2 hK2 hsz
  cases hm : wNs [n1, n2, n3, n4, n5]
  rotate_left
  · have HQ : Hid (DD = true) := by rw [HDE.out, hm]; rfl
    clear hm
    go_wp2
    go_ret
    exact ⟨ret_b (by rw [HQ.out]; rfl), HW.out.2.trans HK2.out fun _ _ e => e⟩
  have HDF : Hid (DD = (rs.any Rgn.d || ps.any Prt.d)) := by rw [HDE.out, hm]; rfl
  have c6 := (HW.out.1.kept HK2.out fun e => e).cell (i := 6) rfl
  clear hm HDE HDD
  go_wp2
  go_loopw [40] (fun i wr => ∃ j : Nat, j ≤ L1 ∧ i = .int .i64 j ∧ (rs.take j).any Rgn.d = false ∧ Keeps (fun _ => False) W wr) (fun i _ => L1 - (intOf i).toNat)
  case atStart => exact ⟨0, by omega, rfl, by simp, HK2.out⟩
  case round =>
    clear c6
    obtain ⟨j, hj, rfl, hn, hK⟩ := hrel
    have b1 := (HW.out.1.kept hK fun e => e).cell (i := 6) rfl
    by_cases hlt : j < L1
    · obtain ⟨y, hy⟩ : ∃ y, rs[j]? = some y := ⟨_, List.getElem?_eq_getElem (by have := HS.out.2.2.1; omega)⟩
      obtain ⟨g, o, ha, hg⟩ := ((HS.out.1.kept HW.out.2 fun _ _ _ e => e).kept hK fun _ _ _ e => e).at hy
      rw [ha] at b1
      have y0 := hg 0 _ rfl
      rw [Nat.add_zero] at y0
      have y1 := hg 1 _ rfl
      have y2 := hg 2 _ rfl
      have y3 := hg 3 _ rfl
      have HB : Hid (y.d = true → DD = true) := fun h => by rw [HDF.out, List.any_eq_true.2 ⟨y, List.mem_of_getElem? hy, h⟩]; rfl
      have HF : Hid (y.d = false → (rs.take (j + 1)).any Rgn.d = false) := fun h => by rw [take_any Rgn.d rs j y hy, hn, h]; rfl
      have HK : Hid (Keeps (fun _ => False) W wr) := hK
      clear hy hn hg hK ha
      obtain ⟨q1, q2, q3, q4⟩ := y
      go_wp2_with fail
      refine (may_at (w := w) (w1 := wr.alloc _) (wr.heap.size + 1) [q1, q2, q3, q4] (by simp) (by simp)).mono ?_
      rintro e w3 ⟨rfl, hw3⟩
      have HK3 : Hid (Keeps (fun _ => False) W w3) := by rw [hw3]; exact (HK.out.alloc _).alloc _
      clear hw3 y0 y1 y2 y3 b1
      cases hm : wNs [q1, q2, q3, q4]
      · have HQ : Hid ((rs.take (j + 1)).any Rgn.d = false) := HF.out hm
        clear hm
        go_wp2
        go_roundw
        case rel => exact ⟨j + 1, by omega, by go_num, HQ.out, HK3.out⟩
        case measure => simp [intOf]; omega
      · have HQ : Hid (DD = true) := HB.out hm
        clear hm
        go_wp2
        go_ret
        exact ⟨ret_b (by rw [HQ.out]; rfl), HW.out.2.trans HK3.out fun _ _ e => e⟩
    · obtain rfl : j = L1 := by omega
      have HK : Hid (Keeps (fun _ => False) W wr) := hK
      have HDG : Hid (DD = ps.any Prt.d) := by
        rw [List.take_of_length_le (by have := HS.out.2.2.1; omega)] at hn
        rw [HDF.out, hn]; rfl
      have b2 := (HW.out.1.kept hK fun e => e).cell (i := 7) rfl
      clear hn hK b1 HDF HK2
      go_wp2
      go_loopw [63] (fun i wr => ∃ j : Nat, j ≤ L2 ∧ i = .int .i64 j ∧ (ps.take j).any Prt.d = false ∧ Keeps (fun _ => False) W wr) (fun i _ => L2 - (intOf i).toNat)
      case atStart => exact ⟨0, by omega, rfl, by simp, HK.out⟩
      case round =>
        clear b2
        obtain ⟨j, hj, rfl, hn, hK⟩ := hrel
        have b1 := (HW.out.1.kept hK fun e => e).cell (i := 7) rfl
        by_cases hlt : j < L2
        · obtain ⟨y, hy⟩ : ∃ y, ps[j]? = some y := ⟨_, List.getElem?_eq_getElem (by have := HS.out.2.2.2; omega)⟩
          obtain ⟨g, o, ha, hg⟩ := ((HS.out.2.1.kept HW.out.2 fun _ _ _ e => e).kept hK fun _ _ _ e => e).at hy
          rw [ha] at b1
          have y0 := hg 0 _ rfl
          rw [Nat.add_zero] at y0
          have y1 := hg 1 _ rfl
          have HB : Hid (y.d = true → DD = true) := fun h => by rw [HDG.out, List.any_eq_true.2 ⟨y, List.mem_of_getElem? hy, h⟩]
          have HF : Hid (y.d = false → (ps.take (j + 1)).any Prt.d = false) := fun h => by rw [take_any Prt.d ps j y hy, hn, h]; rfl
          have HK : Hid (Keeps (fun _ => False) W wr) := hK
          clear hy hn hg hK ha
          obtain ⟨q1, q2⟩ := y
          go_wp2_with fail
          refine (may_at (w := w) (w1 := wr) wr.heap.size [q1] rfl (by simp)).mono ?_
          rintro e w3 ⟨rfl, hw3⟩
          have HK3 : Hid (Keeps (fun _ => False) W w3) := by rw [hw3]; exact HK.out.alloc _
          clear hw3 y0 y1 b1
          cases hm : wNs [q1]
          · have HQ : Hid ((ps.take (j + 1)).any Prt.d = false) := HF.out hm
            clear hm
            go_wp2
            go_roundw
            case rel => exact ⟨j + 1, by omega, by go_num, HQ.out, HK3.out⟩
            case measure => simp [intOf]; omega
          · have HQ : Hid (DD = true) := HB.out hm
            clear hm
            go_wp2
            go_ret
            exact ⟨ret_b (by rw [HQ.out]; rfl), HW.out.2.trans HK3.out fun _ _ e => e⟩
        · obtain rfl : j = L2 := by omega
          have HK : Hid (Keeps (fun _ => False) W wr) := hK
          have HQ : Hid (DD = false) := by
            show DD = false
            rw [List.take_of_length_le (by have := HS.out.2.2.2; omega)] at hn
            rw [HDG.out, hn]
          clear hn hK b1
          go_wp2
          go_ret
          exact ⟨ret_b (by rw [HQ.out]; rfl), HW.out.2.trans HK.out fun _ _ e => e⟩
end Go.Proofs.Ytmkeccibminnhaa
