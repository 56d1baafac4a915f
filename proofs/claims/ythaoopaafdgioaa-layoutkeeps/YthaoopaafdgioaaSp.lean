import Derived.Test.YthaoopaafdgioaaSo
namespace Go.Proofs.Ythaoopaafdgioaa
open Go.RowKit
set_option linter.unusedVariables false
set_option maxRecDepth 6000

/-- Whose the frame is, as the regions say: the first partition's that has it. -/
def regO (fr : Int) (ps : List Par) : Ow := match ps.findIdx? (fun P => P.rs.any (Rgn.hasF fr)) with | some i => ⟨1, i, 0⟩ | none => ⟨0, 0, 0⟩
theorem regO_hit {fr : Int} {ps : List Par} {k : Nat} {P : Par} {r : Rgn} (hno : (ps.take k).any (fun P => P.rs.any (Rgn.hasF fr)) = false) (hP : ps[k]? = some P) (hr : r ∈ P.rs) (hh : r.hasF fr = true) : regO fr ps = ⟨1, k, 0⟩ := by
  have hk : k < ps.length := (List.getElem?_eq_some_iff.1 hP).1
  have : ps.findIdx? (fun P => P.rs.any (Rgn.hasF fr)) = some k := by
    rw [List.findIdx?_eq_some_iff_getElem]
    refine ⟨hk, ?_, ?_⟩
    · have : ps[k] = P := (List.getElem?_eq_some_iff.1 hP).2
      rw [this]; exact List.any_eq_true.2 ⟨r, hr, hh⟩
    · intro j hj
      rw [List.any_eq_false] at hno
      refine hno _ ?_
      rw [List.mem_take_iff_getElem]
      exact ⟨j, by omega, rfl⟩
  unfold regO; rw [this]
theorem regO_none {fr : Int} {ps : List Par} (hno : ps.any (fun P => P.rs.any (Rgn.hasF fr)) = false) : regO fr ps = ⟨0, 0, 0⟩ := by
  have : ps.findIdx? (fun P => P.rs.any (Rgn.hasF fr)) = none := by
    rw [List.findIdx?_eq_none_iff]
    intro P hP
    rw [List.any_eq_false] at hno
    exact Bool.eq_false_iff.2 (hno P hP)
  unfold regO; rw [this]

theorem set3 {w : World} {C : Nat} {a0 a1 a2 : Value} {t : TypeId} (hB : Blk w C [a0, a1, a2] t) (v0 v1 v2 : Value) :
    Blk (((w.setCell ⟨C, 0, none⟩ v0).setCell ⟨C, 1, none⟩ v1).setCell ⟨C, 2, none⟩ v2) C [v0, v1, v2] t ∧
    Keeps (fun k => k = C) w (((w.setCell ⟨C, 0, none⟩ v0).setCell ⟨C, 1, none⟩ v1).setCell ⟨C, 2, none⟩ v2) :=
  ⟨((hB.setCell 0 v0).setCell 1 v1).setCell 2 v2, (((Keeps.refl (fun k => k = C) w).setCell ⟨C, 0, none⟩ v0 fun _ => rfl).setCell ⟨C, 1, none⟩ v1 fun _ => rfl).setCell ⟨C, 2, none⟩ v2 fun _ => rfl⟩

/-- While the regions are asked: the configuration in C, the answer in E, nobody's yet. -/
structure RoI (w : World) (x : Cfg) (C E N : Nat) (w' : World) : Prop where
  one : One w x C N w'
  ans : Blk w' E [.int .i64 0, .int .i64 0, .int .i64 0] 40
  lo : w.heap.size ≤ E
theorem RoI.kept {w : World} {x : Cfg} {C E N : Nat} {w' w'' : World} (h : RoI w x C E N w') (hK : Keeps (fun _ => False) w' w'') : RoI w x C E N w'' :=
  ⟨h.one.kept hK, h.ans.kept hK fun h => h, h.lo⟩

set_option maxHeartbeats 4000000 in
theorem regionOwner_any (x : Cfg) (fr : Int) (w : World) (N : Nat) (hi : x.In w N) (hN : N ≤ w.heap.size) (hm : x.mayB = true) :
    Calls Try.prog 38 #[x.v, .int .i64 fr] w fun e w' => e = .returned (regO fr x.ps).v ∧ Keeps (fun _ => False) w w' := by
  have hmb := (Cfg.mayB_iff.1 hm).2.2.2.2.1
  obtain ⟨f, mj, kn, rm, ca, cc, cs, pa, pc, ps, qa, qc, qs⟩ := x
  have HO := One.mk' hi hN
  obtain ⟨W0, hW0⟩ : ∃ W0, W0 = Cfg.laid w ⟨f, mj, kn, rm, ca, cc, cs, pa, pc, ps, qa, qc, qs⟩ := ⟨_, rfl⟩
  obtain ⟨C, hC⟩ : ∃ C, C = w.heap.size := ⟨_, rfl⟩
  rw [← hW0, ← hC] at HO
  obtain ⟨W, hW⟩ : ∃ W, W = W0.alloc (.cells #[.int .i64 0, .int .i64 0, .int .i64 0] 40) := ⟨_, rfl⟩
  obtain ⟨E, hE⟩ : ∃ E, E = w.heap.size + 1 := ⟨_, rfl⟩
  have hE0 : E = W0.heap.size := by rw [hE, hW0]; simp [Cfg.laid]
  have HO : Hid (RoI w ⟨f, mj, kn, rm, ca, cc, cs, pa, pc, ps, qa, qc, qs⟩ C E N W) := by
    rw [hW]; exact ⟨HO.kept ((Keeps.refl _ _).alloc _), by rw [hE0]; exact Blk.new _ _ _, by omega⟩
  obtain ⟨L, hL⟩ : ∃ L, ps.length = L := ⟨_, rfl⟩
  dsimp only at hmb
  have HL : Hid (ps.length = L ∧ ∀ P ∈ ps, P.mayB qs.length = true) := ⟨hL, hmb⟩
  have hcc : (L : Int) ≤ pc ∧ (pc : Int) ≤ 9223372036854775807 := by have := hi.plen; unfold maxLen at this; dsimp only at this; omega
  simp only [Cfg.v, Cfg.laid, hL] at hW0 ⊢
  have c5 : W.cell? ⟨C, 5, none⟩ = some (.slice pa L pc) := by have := HO.out.one.cfg.cell (i := 5) rfl; rw [← hL]; exact this
  clear hi hN hL hm hmb hE0
  go_enter Try.func38, Try.ntmps38
  go_upto_region 1 with fail
  rw [← hW0, ← hW, ← hE, ← hC]
  clear hW hC hW0 hE
  go_wp2
  go_loopw [12] (fun i wr => ∃ j : Nat, j ≤ L ∧ i = .int .i64 j ∧ (ps.take j).any (fun P => P.rs.any (Rgn.hasF fr)) = false ∧ RoI w ⟨f, mj, kn, rm, ca, cc, cs, pa, pc, ps, qa, qc, qs⟩ C E N wr) (fun i _ => L - (intOf i).toNat)
  case atStart => exact ⟨0, by omega, rfl, rfl, HO.out⟩
  case round =>
    obtain ⟨k, hk, rfl, hno, hO⟩ := hrel
    clear c5
    by_cases hlt : k < L
    · obtain ⟨X, hX⟩ : ∃ X, ps[k]? = some X := ⟨_, List.getElem?_eq_getElem (by have := HL.out.1; omega)⟩
      obtain ⟨g0, o0, e, hc⟩ := hO.one.cin.par hX
      dsimp only at e
      subst e
      obtain ⟨wz, hwz⟩ : ∃ wz, wz = wr := ⟨_, rfl⟩
      subst hwz
      have hXi := hO.one.cin.pin X (List.mem_of_getElem? hX)
      have p0 := hc 0 _ rfl
      rw [Nat.add_zero] at p0
      have p1 := hc 1 _ rfl
      have p2 := hc 2 _ rfl
      have p3 := hc 3 _ rfl
      have p4 := hc 4 _ rfl
      have p5 := hc 5 _ rfl
      have p6 := hc 6 _ rfl
      have p7 := hc 7 _ rfl
      obtain ⟨XL, hXL⟩ : ∃ XL, X.ps.length = XL := ⟨_, rfl⟩
      obtain ⟨RL, hRL⟩ : ∃ RL, X.rs.length = RL := ⟨_, rfl⟩
      rw [hXL] at p7
      rw [hRL] at p6
      have hxc : (RL : Int) ≤ X.rc ∧ (X.rc : Int) ≤ 9223372036854775807 := by have := hXi.rlen; unfold maxLen at this; omega
      obtain ⟨W1, hW1⟩ : ∃ W1, W1 = wz.alloc (.cells #[.string X.name, .int .i64 X.entry, .int .i64 X.action, .int .i64 X.restarts, .int .i64 X.inputs, .int .i64 X.outputs, .slice X.ra RL X.rc, .slice X.pa XL X.pc] 81) := ⟨_, rfl⟩
      obtain ⟨D, hD⟩ : ∃ D, D = wz.heap.size := ⟨_, rfl⟩
      have HK : Hid (RoI w ⟨f, mj, kn, rm, ca, cc, cs, some ⟨g0, o0, none⟩, pc, ps, qa, qc, qs⟩ C E N W1 ∧ (ps.take k).any (fun P => P.rs.any (Rgn.hasF fr)) = false ∧ ps[k]? = some X ∧ X.rs.length = RL) := by
        rw [hW1]; exact ⟨hO.kept ((Keeps.refl _ _).alloc _), hno, hX, hRL⟩
      have d6 : W1.cell? ⟨D, 6, none⟩ = some (.slice X.ra RL X.rc) := by rw [hW1, hD]; exact (Blk.new wz _ _).cell rfl
      clear hno hO hX hXL hRL hXi hc
      go_upto_region 4 with fail
      rw [← hW1, ← hD]
      clear hW1 hD p0 p1 p2 p3 p4 p5 p6 p7
      go_wp2
      go_loopw [20] (fun i wr => ∃ j : Nat, j ≤ RL ∧ i = .int .i64 j ∧ (X.rs.take j).any (Rgn.hasF fr) = false ∧ RoI w ⟨f, mj, kn, rm, ca, cc, cs, some ⟨g0, o0, none⟩, pc, ps, qa, qc, qs⟩ C E N wr) (fun i _ => RL - (intOf i).toNat)
      case atStart => exact ⟨0, by omega, rfl, rfl, HK.out.1⟩
      case round =>
        obtain ⟨j, hj, rfl, hno, hO⟩ := hrel
        clear d6
        by_cases hlj : j < RL
        · obtain ⟨y, hy⟩ : ∃ y, X.rs[j]? = some y := ⟨_, List.getElem?_eq_getElem (by have := HK.out.2.2.2; omega)⟩
          have hXi := hO.one.cin.pin X (List.mem_of_getElem? HK.out.2.2.1)
          have hyf := hXi.rfine y (List.mem_of_getElem? hy)
          have hyb := (Par.mayB_iff.1 (HL.out.2 X (List.mem_of_getElem? HK.out.2.2.1))).2.2.1 y (List.mem_of_getElem? hy)
          obtain ⟨g1, o1, ha1, hg1⟩ := hXi.rseg.at hy
          have y0 := hg1 0 _ rfl
          rw [Nat.add_zero] at y0
          have y1 := hg1 1 _ rfl
          have y2 := hg1 2 _ rfl
          have y3 := hg1 3 _ rfl
          obtain ⟨W2, hW2⟩ : ∃ W2, W2 = wr.alloc (.cells #[.int .i64 y.page, .int .i64 y.pages, .int .i64 y.frame, .int .i64 y.rights] 83) := ⟨_, rfl⟩
          obtain ⟨G, hG⟩ : ∃ G, G = wr.heap.size := ⟨_, rfl⟩
          have hB1 : Blk W2 G y.vs 83 := by rw [hW2, hG]; exact Blk.new _ _ _
          have d0 := hB1.cell (i := 0) rfl
          have d1 := hB1.cell (i := 1) rfl
          have d2 := hB1.cell (i := 2) rfl
          have d3 := hB1.cell (i := 3) rfl
          have HJ : Hid (RoI w ⟨f, mj, kn, rm, ca, cc, cs, some ⟨g0, o0, none⟩, pc, ps, qa, qc, qs⟩ C E N W2 ∧ (X.rs.take j).any (Rgn.hasF fr) = false ∧ X.rs[j]? = some y ∧ y.Fine ∧ y.inB = true) := by
            rw [hW2]; exact ⟨hO.kept ((Keeps.refl _ _).alloc _), hno, hy, hyf, hyb⟩
          clear hno hO hXi hyf hyb hg1 hB1 hy
          rw [ha1]
          clear ha1
          go_upto_region 7 with fail
          rw [← hW2, ← hG]
          clear hW2 hG y0 y1 y2 y3
          go_wp2_with fail
          refine (isRegionFrame_any y HJ.out.2.2.2.1 HJ.out.2.2.2.2 fr W2).mono ?_
          rintro e w1 ⟨rfl, hK⟩
          have HO1 : Hid (RoI w ⟨f, mj, kn, rm, ca, cc, cs, some ⟨g0, o0, none⟩, pc, ps, qa, qc, qs⟩ C E N w1) := HJ.out.1.kept hK
          clear hK d0 d1 d2 d3
          obtain ⟨b, hb⟩ : ∃ b, y.hasF fr = b := ⟨_, rfl⟩
          rw [hb]
          have HB : Hid (y.hasF fr = b) := hb
          clear hb
          cases b with
          | true =>
            have HR : Hid (regO fr ps = ⟨1, k, 0⟩) := regO_hit HK.out.2.1 HK.out.2.2.1 (List.mem_of_getElem? HJ.out.2.2.1) HB.out
            have a0 := HO1.out.ans.cell (i := 0) rfl
            have a1 := HO1.out.ans.cell (i := 1) rfl
            have a2 := HO1.out.ans.cell (i := 2) rfl
            have f0 := HO1.out.ans.frozen 0
            have f1 := HO1.out.ans.frozen 1
            have f2 := HO1.out.ans.frozen 2
            go_wp2
            obtain ⟨hB, hK3⟩ := set3 HO1.out.ans (.int .i64 1) (.int .i64 k) (.int .i64 0)
            obtain ⟨Wb, hWb⟩ : ∃ Wb, Wb = (((w1.setCell ⟨E, 0, none⟩ (.int .i64 1)).setCell ⟨E, 1, none⟩ (.int .i64 k)).setCell ⟨E, 2, none⟩ (.int .i64 0)) := ⟨_, rfl⟩
            rw [← hWb] at hB hK3 ⊢
            (try simp only [Exit.inBlock, Exit.then])
            refine bodyPost_ret (results_cell_row rfl _ _ E 40 _ (0, 0) _ rfl hB Try.underlying40 rfl (by kernel_rfl)) rfl ?_
            have hlo := HO1.out.lo
            exact ⟨by rw [HR.out], HO1.out.one.keeps.trans hK3 fun k hk e => by omega⟩
          | false =>
            go_wp2
            go_roundw
            case rel =>
              refine ⟨j + 1, by omega, by go_num, ?_, HO1.out⟩
              rw [List.take_add_one, HJ.out.2.2.1]
              simp [List.any_append, HJ.out.2.1, HB.out]
            case measure => simp [intOf]; omega
        · obtain rfl : j = RL := by omega
          have HJ : Hid (RoI w ⟨f, mj, kn, rm, ca, cc, cs, some ⟨g0, o0, none⟩, pc, ps, qa, qc, qs⟩ C E N wr ∧ (ps.take (k + 1)).any (fun P => P.rs.any (Rgn.hasF fr)) = false) := by
            refine ⟨hO, ?_⟩
            rw [List.take_of_length_le (by have := HK.out.2.2.2; omega)] at hno
            rw [List.take_add_one, HK.out.2.2.1]
            simp only [List.any_append, HK.out.2.1, Option.toList, List.any_cons, hno, List.any_nil, Bool.or_false]
          clear hno hO
          go_wp2
          go_roundw
          case rel => exact ⟨k + 1, by omega, by go_num, HJ.out.2, HJ.out.1⟩
          case measure => simp [intOf]; omega
    · obtain rfl : k = L := by omega
      have HR : Hid (regO fr ps = ⟨0, 0, 0⟩) := by
        rw [List.take_of_length_le (by have := HL.out.1; omega)] at hno
        exact regO_none hno
      have HJ : Hid (RoI w ⟨f, mj, kn, rm, ca, cc, cs, pa, pc, ps, qa, qc, qs⟩ C E N wr) := hO
      have a0 := hO.ans.cell (i := 0) rfl
      have a1 := hO.ans.cell (i := 1) rfl
      have a2 := hO.ans.cell (i := 2) rfl
      have f0 := hO.ans.frozen 0
      have f1 := hO.ans.frozen 1
      have f2 := hO.ans.frozen 2
      clear hno hO
      go_wp2
      obtain ⟨hB, hK3⟩ := set3 HJ.out.ans (.int .i64 0) (.int .i64 0) (.int .i64 0)
      obtain ⟨Wb, hWb⟩ : ∃ Wb, Wb = (((wr.setCell ⟨E, 0, none⟩ (.int .i64 0)).setCell ⟨E, 1, none⟩ (.int .i64 0)).setCell ⟨E, 2, none⟩ (.int .i64 0)) := ⟨_, rfl⟩
      rw [← hWb] at hB hK3 ⊢
      (try simp only [Exit.inBlock, Exit.then])
      refine bodyPost_ret (results_cell_row rfl _ _ E 40 _ (0, 0) _ rfl hB Try.underlying40 rfl (by kernel_rfl)) rfl ?_
      have hlo := HJ.out.lo
      exact ⟨by rw [HR.out], HJ.out.one.keeps.trans hK3 fun k hk e => by omega⟩
end Go.Proofs.Ythaoopaafdgioaa
