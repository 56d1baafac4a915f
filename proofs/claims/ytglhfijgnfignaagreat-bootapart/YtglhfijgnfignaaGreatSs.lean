import Derived.Test.YtglhfijgnfignaaGreatP
namespace Go.Proofs.YtglhfijgnfignaaGreat
open Go.RowKit
set_option linter.unusedVariables false
set_option maxRecDepth 6000

/-- A memory of f frames has the word. -/
def isW (f a : Int) : Bool := decide (0 ≤ a) && decide (a / 16 < f) && decide (a / 16 < 1024)

/-- A region has the frame. -/
def Rgn.hasQ (fr : Int) (r : Rgn) : Bool := decide (0 ≤ r.frame) && decide (r.frame ≤ 1024) && decide (r.frame ≤ fr) && decide (fr < r.frame + r.pages)

set_option maxHeartbeats 1000000 in
theorem isRegionFrame_any (r : Rgn) (hr : r.Fine) (hb : r.inB = true) (a : Int) (w : World) : Calls Tryz.prog 58 #[r.v, .int .i64 a] w fun e w' => e = .returned (.bool (r.hasQ a)) ∧ Keeps (fun _ => False) w w' := by
  obtain ⟨p, q, fr, t⟩ := r
  have hf := hr
  unfold Rgn.Fine at hf
  dsimp only at hf
  have hb := Rgn.inB_iff.1 hb
  dsimp only at hb
  go_enter Tryz.func58, Tryz.ntmps58
  by_cases h1 : 0 ≤ fr
  · have e1 : decide (0 ≤ fr) = true := by simp [h1]
    by_cases h2 : fr ≤ 1024
    · have e2 : decide (fr ≤ 1024) = true := by simp [h2]
      by_cases h3 : fr ≤ a
      · have e3 : decide (fr ≤ a) = true := by simp [h3]
        by_cases h4 : a < fr + q
        · have HS : Hid (Rgn.hasQ a ⟨p, q, fr, t⟩ = true) := by show _ = _; unfold Rgn.hasQ; simp; omega
          have q1 : IntKind.i64.wrap (fr + q) = fr + q := by rw [IntKind.wrap_i64]; omega
          have e4 : decide (a < fr + q) = true := by simp [h4]
          go_wp2
          go_ret
          exact ⟨by rw [HS.out]; rfl, (Keeps.refl _ _).alloc _⟩
        · have HS : Hid (Rgn.hasQ a ⟨p, q, fr, t⟩ = false) := by show _ = _; unfold Rgn.hasQ; simp; omega
          have q1 : IntKind.i64.wrap (fr + q) = fr + q := by rw [IntKind.wrap_i64]; omega
          have e4 : decide (a < fr + q) = false := by simp [h4]
          go_wp2
          go_ret
          exact ⟨by rw [HS.out]; rfl, (Keeps.refl _ _).alloc _⟩
      · have e3 : decide (fr ≤ a) = false := by simp [h3]
        have HS : Hid (Rgn.hasQ a ⟨p, q, fr, t⟩ = false) := by show _ = _; unfold Rgn.hasQ; simp; omega
        go_wp2
        go_ret
        exact ⟨by rw [HS.out]; rfl, (Keeps.refl _ _).alloc _⟩
    · have e2 : decide (fr ≤ 1024) = false := by simp [h2]
      have HS : Hid (Rgn.hasQ a ⟨p, q, fr, t⟩ = false) := by show _ = _; unfold Rgn.hasQ; simp; omega
      go_wp2
      go_ret
      exact ⟨by rw [HS.out]; rfl, (Keeps.refl _ _).alloc _⟩
  · have e1 : decide (0 ≤ fr) = false := by simp [h1]
    have HS : Hid (Rgn.hasQ a ⟨p, q, fr, t⟩ = false) := by show _ = _; unfold Rgn.hasQ; simp; omega
    go_wp2
    go_ret
    exact ⟨by rw [HS.out]; rfl, (Keeps.refl _ _).alloc _⟩

set_option maxHeartbeats 1000000 in
theorem isWord_any (x : Cfg) (a : Int) (ha : I64 a) (w : World) (N : Nat) (hi : x.In w N) (hN : N ≤ w.heap.size) :
    Calls Tryz.prog 32 #[x.v, .int .i64 a] w fun e w' => e = .returned (.bool (isW x.frames a)) ∧ Keeps (fun _ => False) w w' := by
  obtain ⟨W, hW⟩ : ∃ W, W = x.laid w := ⟨_, rfl⟩
  obtain ⟨C, hC⟩ : ∃ C, C = w.heap.size := ⟨_, rfl⟩
  have HO : Hid (One w x C N W) := by rw [hW, hC]; exact One.mk' hi hN
  clear hi hN
  have c0 : W.cell? ⟨C, 0, none⟩ = some (.int .i64 x.frames) := HO.out.cfg.cell (i := 0) rfl
  unfold Cfg.laid at hW
  go_enter Tryz.func32, Tryz.ntmps32
  go_upto_region 1 with fail
  rw [← hW, ← hC]
  clear hW hC
  go_upto_region 2 with fail
  obtain ⟨d, hd⟩ : ∃ d, a.tdiv 16 = d := ⟨_, rfl⟩
  have hd0 : 0 ≤ a → d = a / 16 := fun h => by rw [← hd]; exact Int.tdiv_eq_ediv_of_nonneg h
  rw [hd]
  clear hd
  by_cases h1 : 0 ≤ a
  · have e1 : decide (0 ≤ a) = true := by simp [h1]
    have hd1 := hd0 h1
    by_cases h2 : d < x.frames
    · have e2 : decide (d < x.frames) = true := by simp [h2]
      by_cases h3 : d < 1024
      · have e3 : decide (d < 1024) = true := by simp [h3]
        have HS : Hid (isW x.frames a = true) := by show _ = _; unfold isW; simp; omega
        clear hd0 hd1
        go_wp2
        go_ret
        exact ⟨by rw [HS.out]; rfl, HO.out.keeps⟩
      · have e3 : decide (d < 1024) = false := by simp [h3]
        have HS : Hid (isW x.frames a = false) := by show _ = _; unfold isW; simp; omega
        clear hd0 hd1
        go_wp2
        go_ret
        exact ⟨by rw [HS.out]; rfl, HO.out.keeps⟩
    · have e2 : decide (d < x.frames) = false := by simp [h2]
      have HS : Hid (isW x.frames a = false) := by show _ = _; unfold isW; simp; omega
      clear hd0 hd1
      go_wp2
      go_ret
      exact ⟨by rw [HS.out]; rfl, HO.out.keeps⟩
  · have e1 : decide (0 ≤ a) = false := by simp [h1]
    have HS : Hid (isW x.frames a = false) := by show _ = _; unfold isW; simp; omega
    clear hd0
    go_wp2
    go_ret
    exact ⟨by rw [HS.out]; rfl, HO.out.keeps⟩
end Go.Proofs.YtglhfijgnfignaaGreat
namespace Go.Proofs.YtglhfijgnfignaaGreat
open Go.RowKit
set_option linter.unusedVariables false
set_option maxRecDepth 6000

/-- Whose the frame is, as the regions say: the first partition's that has it. -/
def regO (fr : Int) (ps : List Par) : Ow := match ps.findIdx? (fun P => P.rs.any (Rgn.hasQ fr)) with | some i => ⟨1, i, 0⟩ | none => ⟨0, 0, 0⟩
theorem regO_hit {fr : Int} {ps : List Par} {k : Nat} {P : Par} {r : Rgn} (hno : (ps.take k).any (fun P => P.rs.any (Rgn.hasQ fr)) = false) (hP : ps[k]? = some P) (hr : r ∈ P.rs) (hh : r.hasQ fr = true) : regO fr ps = ⟨1, k, 0⟩ := by
  have hk : k < ps.length := (List.getElem?_eq_some_iff.1 hP).1
  have : ps.findIdx? (fun P => P.rs.any (Rgn.hasQ fr)) = some k := by
    rw [List.findIdx?_eq_some_iff_getElem]
    refine ⟨hk, ?_, ?_⟩
    · have : ps[k] = P := (List.getElem?_eq_some_iff.1 hP).2
      rw [this]; exact List.any_eq_true.2 ⟨r, hr, hh⟩
    · intro j hj
      rw [List.any_eq_false] at hno
      refine hno _ ?_
      rw [List.mem_take_iff_getElem]
      exact ⟨j, by omega, rfl⟩
  unfold regO; rw [this]
theorem regO_none {fr : Int} {ps : List Par} (hno : ps.any (fun P => P.rs.any (Rgn.hasQ fr)) = false) : regO fr ps = ⟨0, 0, 0⟩ := by
  have : ps.findIdx? (fun P => P.rs.any (Rgn.hasQ fr)) = none := by
    rw [List.findIdx?_eq_none_iff]
    intro P hP
    rw [List.any_eq_false] at hno
    exact Bool.eq_false_iff.2 (hno P hP)
  unfold regO; rw [this]

theorem set3 {w : World} {C : Nat} {a0 a1 a2 : Value} {t : TypeId} (hB : Blk w C [a0, a1, a2] t) (v0 v1 v2 : Value) :
    Blk (((w.setCell ⟨C, 0, none⟩ v0).setCell ⟨C, 1, none⟩ v1).setCell ⟨C, 2, none⟩ v2) C [v0, v1, v2] t ∧
    Keeps (fun k => k = C) w (((w.setCell ⟨C, 0, none⟩ v0).setCell ⟨C, 1, none⟩ v1).setCell ⟨C, 2, none⟩ v2) :=
  ⟨((hB.setCell 0 v0).setCell 1 v1).setCell 2 v2, (((Keeps.refl (fun k => k = C) w).setCell ⟨C, 0, none⟩ v0 fun _ => rfl).setCell ⟨C, 1, none⟩ v1 fun _ => rfl).setCell ⟨C, 2, none⟩ v2 fun _ => rfl⟩

/-- While the regions are asked: the configuration in C, the answer in E, nobody's yet. -/
structure RoI (w : World) (x : Cfg) (C E N : Nat) (w' : World) : Prop where
  one : One w x C N w'
  ans : Blk w' E [.int .i64 0, .int .i64 0, .int .i64 0] 60
  lo : w.heap.size ≤ E
theorem RoI.kept {w : World} {x : Cfg} {C E N : Nat} {w' w'' : World} (h : RoI w x C E N w') (hK : Keeps (fun _ => False) w' w'') : RoI w x C E N w'' :=
  ⟨h.one.kept hK, h.ans.kept hK fun h => h, h.lo⟩

set_option maxHeartbeats 4000000 in
theorem regionOwner_any (x : Cfg) (fr : Int) (w : World) (N : Nat) (hi : x.In w N) (hN : N ≤ w.heap.size) (hm : x.mayB = true) :
    Calls Tryz.prog 34 #[x.v, .int .i64 fr] w fun e w' => e = .returned (regO fr x.ps).v ∧ Keeps (fun _ => False) w w' := by
  have hmb := (Cfg.mayB_iff.1 hm).2.2.2.2.1
  obtain ⟨f, mj, kn, rm, ca, cc, cs, pa, pc, ps, qa, qc, qs⟩ := x
  have HO := One.mk' hi hN
  obtain ⟨W0, hW0⟩ : ∃ W0, W0 = Cfg.laid w ⟨f, mj, kn, rm, ca, cc, cs, pa, pc, ps, qa, qc, qs⟩ := ⟨_, rfl⟩
  obtain ⟨C, hC⟩ : ∃ C, C = w.heap.size := ⟨_, rfl⟩
  rw [← hW0, ← hC] at HO
  obtain ⟨W, hW⟩ : ∃ W, W = W0.alloc (.cells #[.int .i64 0, .int .i64 0, .int .i64 0] 60) := ⟨_, rfl⟩
  obtain ⟨E, hE⟩ : ∃ E, E = w.heap.size + 1 := ⟨_, rfl⟩
  have hE0 : E = W0.heap.size := by rw [hE, hW0]; simp [Cfg.laid]
  have HO : Hid (RoI w ⟨f, mj, kn, rm, ca, cc, cs, pa, pc, ps, qa, qc, qs⟩ C E N W) := by
    rw [hW]; exact ⟨HO.kept ((Keeps.refl _ _).alloc _), by rw [hE0]; exact Blk.new _ _ _, by omega⟩
  obtain ⟨L, hL⟩ : ∃ L, ps.length = L := ⟨_, rfl⟩
  dsimp only at hmb
  have HL : Hid (ps.length = L ∧ ∀ P ∈ ps, P.mayB qs.length = true) := ⟨hL, hmb⟩
  have hcc : (L : Int) ≤ pc ∧ (pc : Int) ≤ 9223372036854775807 := by have := hi.plen; unfold maxLen at this; dsimp only at this; omega
  simp only [Cfg.v, Cfg.laid, hL] at hW0 ⊢
  have c5 : W.cell? ⟨C, 5, none⟩ = some (.slice pa L pc) := by have := HO.out.one.cfg.cell (i := 5) rfl; rw [← hL]; exact this
  clear hi hN hL hm hmb hE0
  go_enter Tryz.func34, Tryz.ntmps34
  go_upto_region 1 with fail
  rw [← hW0, ← hW, ← hE, ← hC]
  clear hW hC hW0 hE
  go_wp2
  go_loopw [12] (fun i wr => ∃ j : Nat, j ≤ L ∧ i = .int .i64 j ∧ (ps.take j).any (fun P => P.rs.any (Rgn.hasQ fr)) = false ∧ RoI w ⟨f, mj, kn, rm, ca, cc, cs, pa, pc, ps, qa, qc, qs⟩ C E N wr) (fun i _ => L - (intOf i).toNat)
  case atStart => exact ⟨0, by omega, rfl, rfl, HO.out⟩
  case round =>
    obtain ⟨k, hk, rfl, hno, hO⟩ := hrel
    clear c5
    by_cases hlt : k < L
    · obtain ⟨X, hX⟩ : ∃ X, ps[k]? = some X := ⟨_, List.getElem?_eq_getElem (by have := HL.out.1; omega)⟩
      obtain ⟨g0, o0, e, hc⟩ := hO.one.cin.par hX
      dsimp only at e
      subst e
      obtain ⟨wz, hwz⟩ : ∃ wz, wz = wr := ⟨_, rfl⟩
      subst hwz
      have hXi := hO.one.cin.pin X (List.mem_of_getElem? hX)
      have p0 := hc 0 _ rfl
      rw [Nat.add_zero] at p0
      have p1 := hc 1 _ rfl
      have p2 := hc 2 _ rfl
      have p3 := hc 3 _ rfl
      have p4 := hc 4 _ rfl
      have p5 := hc 5 _ rfl
      have p6 := hc 6 _ rfl
      have p7 := hc 7 _ rfl
      obtain ⟨XL, hXL⟩ : ∃ XL, X.ps.length = XL := ⟨_, rfl⟩
      obtain ⟨RL, hRL⟩ : ∃ RL, X.rs.length = RL := ⟨_, rfl⟩
      rw [hXL] at p7
      rw [hRL] at p6
      have hxc : (RL : Int) ≤ X.rc ∧ (X.rc : Int) ≤ 9223372036854775807 := by have := hXi.rlen; unfold maxLen at this; omega
      obtain ⟨W1, hW1⟩ : ∃ W1, W1 = wz.alloc (.cells #[.string X.name, .int .i64 X.entry, .int .i64 X.action, .int .i64 X.restarts, .int .i64 X.inputs, .int .i64 X.outputs, .slice X.ra RL X.rc, .slice X.pa XL X.pc] 53) := ⟨_, rfl⟩
      obtain ⟨D, hD⟩ : ∃ D, D = wz.heap.size := ⟨_, rfl⟩
      have HK : Hid (RoI w ⟨f, mj, kn, rm, ca, cc, cs, some ⟨g0, o0, none⟩, pc, ps, qa, qc, qs⟩ C E N W1 ∧ (ps.take k).any (fun P => P.rs.any (Rgn.hasQ fr)) = false ∧ ps[k]? = some X ∧ X.rs.length = RL) := by
        rw [hW1]; exact ⟨hO.kept ((Keeps.refl _ _).alloc _), hno, hX, hRL⟩
      have d6 : W1.cell? ⟨D, 6, none⟩ = some (.slice X.ra RL X.rc) := by rw [hW1, hD]; exact (Blk.new wz _ _).cell rfl
      clear hno hO hX hXL hRL hXi hc
      go_upto_region 4 with fail
      rw [← hW1, ← hD]
      clear hW1 hD p0 p1 p2 p3 p4 p5 p6 p7
      go_wp2
      go_loopw [20] (fun i wr => ∃ j : Nat, j ≤ RL ∧ i = .int .i64 j ∧ (X.rs.take j).any (Rgn.hasQ fr) = false ∧ RoI w ⟨f, mj, kn, rm, ca, cc, cs, some ⟨g0, o0, none⟩, pc, ps, qa, qc, qs⟩ C E N wr) (fun i _ => RL - (intOf i).toNat)
      case atStart => exact ⟨0, by omega, rfl, rfl, HK.out.1⟩
      case round =>
        obtain ⟨j, hj, rfl, hno, hO⟩ := hrel
        clear d6
        by_cases hlj : j < RL
        · obtain ⟨y, hy⟩ : ∃ y, X.rs[j]? = some y := ⟨_, List.getElem?_eq_getElem (by have := HK.out.2.2.2; omega)⟩
          have hXi := hO.one.cin.pin X (List.mem_of_getElem? HK.out.2.2.1)
          have hyf := hXi.rfine y (List.mem_of_getElem? hy)
          have hyb := (Par.mayB_iff.1 (HL.out.2 X (List.mem_of_getElem? HK.out.2.2.1))).2.2.1 y (List.mem_of_getElem? hy)
          obtain ⟨g1, o1, ha1, hg1⟩ := hXi.rseg.at hy
          have y0 := hg1 0 _ rfl
          rw [Nat.add_zero] at y0
          have y1 := hg1 1 _ rfl
          have y2 := hg1 2 _ rfl
          have y3 := hg1 3 _ rfl
          obtain ⟨W2, hW2⟩ : ∃ W2, W2 = wr.alloc (.cells #[.int .i64 y.page, .int .i64 y.pages, .int .i64 y.frame, .int .i64 y.rights] 81) := ⟨_, rfl⟩
          obtain ⟨G, hG⟩ : ∃ G, G = wr.heap.size := ⟨_, rfl⟩
          have hB1 : Blk W2 G y.vs 81 := by rw [hW2, hG]; exact Blk.new _ _ _
          have d0 := hB1.cell (i := 0) rfl
          have d1 := hB1.cell (i := 1) rfl
          have d2 := hB1.cell (i := 2) rfl
          have d3 := hB1.cell (i := 3) rfl
          have HJ : Hid (RoI w ⟨f, mj, kn, rm, ca, cc, cs, some ⟨g0, o0, none⟩, pc, ps, qa, qc, qs⟩ C E N W2 ∧ (X.rs.take j).any (Rgn.hasQ fr) = false ∧ X.rs[j]? = some y ∧ y.Fine ∧ y.inB = true) := by
            rw [hW2]; exact ⟨hO.kept ((Keeps.refl _ _).alloc _), hno, hy, hyf, hyb⟩
          clear hno hO hXi hyf hyb hg1 hB1 hy
          rw [ha1]
          clear ha1
          go_upto_region 7 with fail
          rw [← hW2, ← hG]
          clear hW2 hG y0 y1 y2 y3
          go_wp2_with fail
          refine (isRegionFrame_any y HJ.out.2.2.2.1 HJ.out.2.2.2.2 fr W2).mono ?_
          rintro e w1 ⟨rfl, hK⟩
          have HO1 : Hid (RoI w ⟨f, mj, kn, rm, ca, cc, cs, some ⟨g0, o0, none⟩, pc, ps, qa, qc, qs⟩ C E N w1) := HJ.out.1.kept hK
          clear hK d0 d1 d2 d3
          obtain ⟨b, hb⟩ : ∃ b, y.hasQ fr = b := ⟨_, rfl⟩
          rw [hb]
          have HB : Hid (y.hasQ fr = b) := hb
          clear hb
          cases b with
          | true =>
            have HR : Hid (regO fr ps = ⟨1, k, 0⟩) := regO_hit HK.out.2.1 HK.out.2.2.1 (List.mem_of_getElem? HJ.out.2.2.1) HB.out
            have a0 := HO1.out.ans.cell (i := 0) rfl
            have a1 := HO1.out.ans.cell (i := 1) rfl
            have a2 := HO1.out.ans.cell (i := 2) rfl
            have f0 := HO1.out.ans.frozen 0
            have f1 := HO1.out.ans.frozen 1
            have f2 := HO1.out.ans.frozen 2
            go_wp2
            obtain ⟨hB, hK3⟩ := set3 HO1.out.ans (.int .i64 1) (.int .i64 k) (.int .i64 0)
            obtain ⟨Wb, hWb⟩ : ∃ Wb, Wb = (((w1.setCell ⟨E, 0, none⟩ (.int .i64 1)).setCell ⟨E, 1, none⟩ (.int .i64 k)).setCell ⟨E, 2, none⟩ (.int .i64 0)) := ⟨_, rfl⟩
            rw [← hWb] at hB hK3 ⊢
            (try simp only [Exit.inBlock, Exit.then])
            refine bodyPost_ret (results_cell_row rfl _ _ E 60 _ (0, 0) _ rfl hB Tryz.underlying60 rfl (by kernel_rfl)) rfl ?_
            have hlo := HO1.out.lo
            exact ⟨by rw [HR.out], HO1.out.one.keeps.trans hK3 fun k hk e => by omega⟩
          | false =>
            go_wp2
            go_roundw
            case rel =>
              refine ⟨j + 1, by omega, by go_num, ?_, HO1.out⟩
              rw [List.take_add_one, HJ.out.2.2.1]
              simp [List.any_append, HJ.out.2.1, HB.out]
            case measure => simp [intOf]; omega
        · obtain rfl : j = RL := by omega
          have HJ : Hid (RoI w ⟨f, mj, kn, rm, ca, cc, cs, some ⟨g0, o0, none⟩, pc, ps, qa, qc, qs⟩ C E N wr ∧ (ps.take (k + 1)).any (fun P => P.rs.any (Rgn.hasQ fr)) = false) := by
            refine ⟨hO, ?_⟩
            rw [List.take_of_length_le (by have := HK.out.2.2.2; omega)] at hno
            rw [List.take_add_one, HK.out.2.2.1]
            simp only [List.any_append, HK.out.2.1, Option.toList, List.any_cons, hno, List.any_nil, Bool.or_false]
          clear hno hO
          go_wp2
          go_roundw
          case rel => exact ⟨k + 1, by omega, by go_num, HJ.out.2, HJ.out.1⟩
          case measure => simp [intOf]; omega
    · obtain rfl : k = L := by omega
      have HR : Hid (regO fr ps = ⟨0, 0, 0⟩) := by
        rw [List.take_of_length_le (by have := HL.out.1; omega)] at hno
        exact regO_none hno
      have HJ : Hid (RoI w ⟨f, mj, kn, rm, ca, cc, cs, pa, pc, ps, qa, qc, qs⟩ C E N wr) := hO
      have a0 := hO.ans.cell (i := 0) rfl
      have a1 := hO.ans.cell (i := 1) rfl
      have a2 := hO.ans.cell (i := 2) rfl
      have f0 := hO.ans.frozen 0
      have f1 := hO.ans.frozen 1
      have f2 := hO.ans.frozen 2
      clear hno hO
      go_wp2
      obtain ⟨hB, hK3⟩ := set3 HJ.out.ans (.int .i64 0) (.int .i64 0) (.int .i64 0)
      obtain ⟨Wb, hWb⟩ : ∃ Wb, Wb = (((wr.setCell ⟨E, 0, none⟩ (.int .i64 0)).setCell ⟨E, 1, none⟩ (.int .i64 0)).setCell ⟨E, 2, none⟩ (.int .i64 0)) := ⟨_, rfl⟩
      rw [← hWb] at hB hK3 ⊢
      (try simp only [Exit.inBlock, Exit.then])
      refine bodyPost_ret (results_cell_row rfl _ _ E 60 _ (0, 0) _ rfl hB Tryz.underlying60 rfl (by kernel_rfl)) rfl ?_
      have hlo := HJ.out.lo
      exact ⟨by rw [HR.out], HJ.out.one.keeps.trans hK3 fun k hk e => by omega⟩
end Go.Proofs.YtglhfijgnfignaaGreat
namespace Go.Proofs.YtglhfijgnfignaaGreat
open Go.RowKit
set_option linter.unusedVariables false
set_option linter.unusedSimpArgs false
set_option maxRecDepth 6000

def sumK (hist : List (Ow × Int)) : Int := (hist.map (·.2)).sum
theorem sumK_app (hist : List (Ow × Int)) (o : Ow) (k : Int) : sumK (hist ++ [(o, k)]) = sumK hist + k := by simp [sumK]
/-- Whose the word t is, of words that were dealt from s on: the last one's that got it. -/
def lastGo (t : Int) : Int → Ow → List (Ow × Int) → Ow
  | _, f, [] => f
  | s, f, (o, k) :: r => lastGo t (s + k) (if s ≤ t ∧ t < s + k then o else f) r
theorem lastGo_app (t : Int) (o : Ow) (k : Int) : ∀ (hist : List (Ow × Int)) (s : Int) (f : Ow), lastGo t s f (hist ++ [(o, k)]) = if s + sumK hist ≤ t ∧ t < s + sumK hist + k then o else lastGo t s f hist
  | [], s, f => by simp [lastGo, sumK]
  | (o', k') :: r, s, f => by
    have := lastGo_app t o k r (s + k') (if s ≤ t ∧ t < s + k' then o' else f)
    simp only [List.cons_append, lastGo]
    rw [this]
    have e : s + k' + sumK r = s + sumK ((o', k') :: r) := by simp [sumK]; omega
    rw [e]

/-- The counter of an owner: it counts, and keeps who got the word t. -/
structure JO (B K A F : Nat) (s t : Int) (w : World) (a : Int) (hist : List (Ow × Int)) : Prop where
  cnt : Blk w B [.int .i64 a] 3
  fn : Blk w K [.func (.func 53) #[] #[.pointer (some ⟨B, 0, none⟩)]] 73
  word : Blk w A [.int .i64 t] 3
  found : Blk w F (lastGo t s ⟨0, 0, 0⟩ hist).vs 60
  sum : a = s + sumK hist
  apart : B ≠ K ∧ B ≠ A ∧ B ≠ F ∧ K ≠ A ∧ K ≠ F ∧ A ≠ F
def SO (B K A F : Nat) : Nat → Prop := fun b => b = B ∨ b = K ∨ b = A ∨ b = F
theorem JO.kept {B K A F : Nat} {s t : Int} {w w' : World} {a : Int} {hist : List (Ow × Int)} {T : Nat → Prop} (h : JO B K A F s t w a hist) (hK : Keeps T w w') (hT : ∀ k, SO B K A F k → ¬ T k) : JO B K A F s t w' a hist :=
  ⟨h.cnt.kept hK (hT _ (.inl rfl)), h.fn.kept hK (hT _ (.inr (.inl rfl))), h.word.kept hK (hT _ (.inr (.inr (.inl rfl)))), h.found.kept hK (hT _ (.inr (.inr (.inr rfl)))), h.sum, h.apart⟩

set_option maxHeartbeats 2000000 in
theorem owner_deals (B K A F : Nat) (s t : Int) (w : World) (a : Int) (hist : List (Ow × Int)) (o : Ow) (k : Int) (hJ : JO B K A F s t w a hist) (h0 : 0 ≤ a) (h1 : a ≤ 1000000) (h2 : 0 ≤ k) (h3 : k ≤ 1000) :
    Calls Tryz.prog 57 #[Ow.v o, .int .i64 k, .pointer (some ⟨K, 0, none⟩), .pointer (some ⟨A, 0, none⟩), .pointer (some ⟨F, 0, none⟩)] w fun e w' => e = .returned (.int .i64 a) ∧ JO B K A F s t w' (a + k) (hist ++ [(o, k)]) ∧ Keeps (SO B K A F) w w' := by
  obtain ⟨W, hW⟩ : ∃ W, W = w.alloc (.cells #[.int .i64 o.kind, .int .i64 o.idx, .int .i64 o.port] 60) := ⟨_, rfl⟩
  obtain ⟨P, hP⟩ : ∃ P, P = w.heap.size := ⟨_, rfl⟩
  have hlt : B < P ∧ F < P := by rw [hP]; exact ⟨hJ.cnt.lt, hJ.found.lt⟩
  have HW : Hid (JO B K A F s t W a hist ∧ Blk W P o.vs 60 ∧ Keeps (SO B K A F) w W) := by
    rw [hW, hP]; exact ⟨hJ.kept ((Keeps.refl (fun _ => False) _).alloc _) (fun _ _ h => h), Blk.new _ _ _, (Keeps.refl _ _).alloc _⟩
  have HL : Hid (B < P ∧ F < P) := hlt
  have hent := (dl_count B).ent
  have c0 := HW.out.1.fn.cell (i := 0) rfl
  have p0 := HW.out.2.1.cell (i := 0) rfl
  have p1 := HW.out.2.1.cell (i := 1) rfl
  have p2 := HW.out.2.1.cell (i := 2) rfl
  clear hJ hlt
  go_enter Tryz.func57, Tryz.ntmps57
  go_upto_region 1 with fail
  rw [← hW, ← hP]
  clear hW hP
  go_wp2_with fail
  refine (count_any B o k a W HW.out.1.cnt h0 h1 h2 h3).mono ?_
  rintro e w1 ⟨rfl, hB1, hK1⟩
  have hap := HW.out.1.apart
  have HX : Hid (Blk w1 B [.int .i64 (a + k)] 3 ∧ Blk w1 K [.func (.func 53) #[] #[.pointer (some ⟨B, 0, none⟩)]] 73 ∧ Blk w1 A [.int .i64 t] 3 ∧ Blk w1 F (lastGo t s ⟨0, 0, 0⟩ hist).vs 60 ∧ Blk w1 P o.vs 60 ∧ Keeps (SO B K A F) w w1) :=
    ⟨hB1, HW.out.1.fn.kept hK1 (by omega), HW.out.1.word.kept hK1 (by omega), HW.out.1.found.kept hK1 (by omega), HW.out.2.1.kept hK1 (by have := HL.out; omega), HW.out.2.2.trans hK1 fun _ _ h => .inl h⟩
  have HA : Hid (a = s + sumK hist ∧ (B ≠ K ∧ B ≠ A ∧ B ≠ F ∧ K ≠ A ∧ K ≠ F ∧ A ≠ F)) := ⟨HW.out.1.sum, hap⟩
  clear hB1 hK1 hap HW c0 p0 p1 p2 hent
  have t0 := HX.out.2.2.1.cell (i := 0) rfl
  have p0 := HX.out.2.2.2.2.1.cell (i := 0) rfl
  have p1 := HX.out.2.2.2.2.1.cell (i := 1) rfl
  have p2 := HX.out.2.2.2.2.1.cell (i := 2) rfl
  have f0 := HX.out.2.2.2.1.frozen 0
  have f1 := HX.out.2.2.2.1.frozen 1
  have f2 := HX.out.2.2.2.1.frozen 2
  have a0 := HX.out.2.2.2.1.cell (i := 0) rfl
  have a1 := HX.out.2.2.2.1.cell (i := 1) rfl
  have a2 := HX.out.2.2.2.1.cell (i := 2) rfl
  have q1 : IntKind.i64.wrap (a + k) = a + k := by rw [IntKind.wrap_i64]; omega
  by_cases g1 : a ≤ t
  · have e1 : decide (a ≤ t) = true := by simp [g1]
    by_cases g2 : t < a + k
    · have e2 : decide (t < a + k) = true := by simp [g2]
      have HE : Hid (lastGo t s ⟨0, 0, 0⟩ (hist ++ [(o, k)]) = o) := by
        show _ = _; rw [lastGo_app, ← HA.out.1, if_pos ⟨g1, g2⟩]
      go_wp2
      go_ret
      obtain ⟨hB, hK3⟩ := set3 HX.out.2.2.2.1 (.int .i64 o.kind) (.int .i64 o.idx) (.int .i64 o.port)
      have hap := HA.out.2
      refine ⟨rfl, ⟨HX.out.1.kept hK3 (by omega), HX.out.2.1.kept hK3 (by omega), HX.out.2.2.1.kept hK3 (by omega), by rw [HE.out]; exact hB, by rw [sumK_app, HA.out.1]; omega, hap⟩, HX.out.2.2.2.2.2.trans hK3 fun _ _ h => .inr (.inr (.inr h))⟩
    · have e2 : decide (t < a + k) = false := by simp [g2]
      have HE : Hid (lastGo t s ⟨0, 0, 0⟩ (hist ++ [(o, k)]) = lastGo t s ⟨0, 0, 0⟩ hist) := by
        show _ = _; rw [lastGo_app, ← HA.out.1, if_neg (fun h => g2 h.2)]
      go_wp2
      go_ret
      have hap := HA.out.2
      refine ⟨rfl, ⟨HX.out.1, HX.out.2.1, HX.out.2.2.1, by rw [HE.out]; exact HX.out.2.2.2.1, by rw [sumK_app, HA.out.1]; omega, hap⟩, HX.out.2.2.2.2.2⟩
  · have e1 : decide (a ≤ t) = false := by simp [g1]
    have HE : Hid (lastGo t s ⟨0, 0, 0⟩ (hist ++ [(o, k)]) = lastGo t s ⟨0, 0, 0⟩ hist) := by
      show _ = _; rw [lastGo_app, ← HA.out.1, if_neg (fun h => g1 h.1)]
    go_wp2
    go_ret
    have hap := HA.out.2
    refine ⟨rfl, ⟨HX.out.1, HX.out.2.1, HX.out.2.2.1, by rw [HE.out]; exact HX.out.2.2.2.1, by rw [sumK_app, HA.out.1]; omega, hap⟩, HX.out.2.2.2.2.2⟩

theorem dl_owner (B K A F : Nat) (s t : Int) : Dl 57 #[.pointer (some ⟨K, 0, none⟩), .pointer (some ⟨A, 0, none⟩), .pointer (some ⟨F, 0, none⟩)] (SO B K A F) (JO B K A F s t) where
  ent := call_enter Tryz.func57 (by kernel_rfl) (by kernel_rfl)
  call := fun w a hist o k hJ h0 h1 h2 h3 => owner_deals B K A F s t w a hist o k hJ h0 h1 h2 h3
  kept := fun hJ hK hT => hJ.kept hK hT
end Go.Proofs.YtglhfijgnfignaaGreat
namespace Go.Proofs.YtglhfijgnfignaaGreat
open Go.RowKit
set_option linter.unusedVariables false
set_option linter.unusedSimpArgs false
set_option maxRecDepth 6000

/-- What whoever asks for a word of the kernel's area holds: the configuration in C, the word, the answer and what was found behind it; K is the counter's own variable, B what it counts with. -/
structure KO (w : World) (x : Cfg) (C N : Nat) (t : Int) (ok ob : Bool) (K B : Nat) (w' : World) : Prop where
  one : One w x C N w'
  word : Blk w' (C + 1) [.int .i64 t] 3
  res : Blk w' (C + 2) [.int .i64 0, .int .i64 0, .int .i64 0] 60
  found : Blk w' (C + 3) [.int .i64 0, .int .i64 0, .int .i64 0] 60
  sz : C + 4 ≤ w'.heap.size
  cw : C = w.heap.size
  kk : ok = true → Blk w' K [.nilFunc] 73 ∧ C + 4 ≤ K
  bb : ob = true → Blk w' B [.int .i64 (16 * x.kernel)] 3 ∧ C + 4 ≤ B
  ne : ok = true → ob = true → K ≠ B
theorem KO.kept {w : World} {x : Cfg} {C N : Nat} {t : Int} {ok ob : Bool} {K B : Nat} {w' w'' : World} (h : KO w x C N t ok ob K B w') (hK : Keeps (fun _ => False) w' w'') : KO w x C N t ok ob K B w'' :=
  ⟨h.one.kept hK, h.word.kept hK fun h => h, h.res.kept hK fun h => h, h.found.kept hK fun h => h, Nat.le_trans h.sz hK.size, h.cw, fun e => ⟨(h.kk e).1.kept hK fun h => h, (h.kk e).2⟩, fun e => ⟨(h.bb e).1.kept hK fun h => h, (h.bb e).2⟩, h.ne⟩
theorem KO.counts {w : World} {x : Cfg} {C N : Nat} {t : Int} {ok : Bool} {K B : Nat} {w' w'' : World} (h : KO w x C N t ok false K B w') (hK : Keeps (fun _ => False) w' w'') (hB : Blk w'' w'.heap.size [.int .i64 (16 * x.kernel)] 3) : KO w x C N t ok true K w'.heap.size w'' :=
  ⟨h.one.kept hK, h.word.kept hK fun h => h, h.res.kept hK fun h => h, h.found.kept hK fun h => h, Nat.le_trans h.sz hK.size, h.cw, fun e => ⟨(h.kk e).1.kept hK fun h => h, (h.kk e).2⟩, fun _ => ⟨hB, h.sz⟩, fun e _ => by have := (h.kk e).1.lt; omega⟩
theorem KO.var {w : World} {x : Cfg} {C N : Nat} {t : Int} {ob : Bool} {K B : Nat} {w' : World} (h : KO w x C N t false ob K B w') : KO w x C N t true ob w'.heap.size B (w'.alloc (.cells #[.nilFunc] 73)) := by
  have hK : Keeps (fun _ => False) w' (w'.alloc (.cells #[.nilFunc] 73)) := (Keeps.refl _ _).alloc _
  exact ⟨h.one.kept hK, h.word.kept hK fun h => h, h.res.kept hK fun h => h, h.found.kept hK fun h => h, Nat.le_trans h.sz hK.size, h.cw, fun _ => ⟨Blk.new _ _ _, h.sz⟩, fun e => ⟨(h.bb e).1.kept hK fun h => h, (h.bb e).2⟩, fun _ e => by have := (h.bb e).1.lt; omega⟩
/-- The same, with the counter in its variable. -/
structure KP (w : World) (x : Cfg) (C N : Nat) (t : Int) (K B : Nat) (w' : World) : Prop where
  one : One w x C N w'
  word : Blk w' (C + 1) [.int .i64 t] 3
  res : Blk w' (C + 2) [.int .i64 0, .int .i64 0, .int .i64 0] 60
  found : Blk w' (C + 3) [.int .i64 0, .int .i64 0, .int .i64 0] 60
  cw : C = w.heap.size
  fn : Blk w' K [.func (.func 53) #[] #[.pointer (some ⟨B, 0, none⟩)]] 73
  cnt : Blk w' B [.int .i64 (16 * x.kernel)] 3
  lo : C + 4 ≤ K ∧ C + 4 ≤ B ∧ K ≠ B
theorem KO.stored {w : World} {x : Cfg} {C N : Nat} {t : Int} {K B : Nat} {w' : World} (h : KO w x C N t true true K B w') : KP w x C N t K B (w'.setCell ⟨K, 0, none⟩ (.func (.func 53) #[] #[.pointer (some ⟨B, 0, none⟩)])) := by
  obtain ⟨hk, hl⟩ := h.kk rfl
  obtain ⟨hb, hm⟩ := h.bb rfl
  have hn := h.ne rfl rfl
  have hcw := h.cw
  have hN := h.one.n
  have hK : Keeps (fun k => k = K) w' (w'.setCell ⟨K, 0, none⟩ (.func (.func 53) #[] #[.pointer (some ⟨B, 0, none⟩)])) := (Keeps.refl _ _).setCell _ _ fun _ => rfl
  exact ⟨h.one.kept' hK (by omega) (fun k e => by omega) (fun k e => by omega), h.word.kept hK (by omega), h.res.kept hK (by omega), h.found.kept hK (by omega), h.cw, hk.setCell 0 _, hb.kept hK (by omega), hl, hm, hn⟩

set_option maxHeartbeats 4000000 in
theorem kernelOwner_any (x : Cfg) (t : Int) (w : World) (N : Nat) (hi : x.In w N) (hN : N ≤ w.heap.size) (hm : x.mayB = true) :
    Calls Tryz.prog 33 #[x.v, .int .i64 t] w fun e w' => e = .returned (lastGo t (16 * x.kernel) ⟨0, 0, 0⟩ (layH x (16 * x.kernel))).v ∧ Keeps (fun _ => False) w w' := by
  obtain ⟨W, hW⟩ : ∃ W, W = (((x.laid w).alloc (.cells #[.int .i64 t] 3)).alloc (.cells #[.int .i64 0, .int .i64 0, .int .i64 0] 60)).alloc (.cells #[.int .i64 0, .int .i64 0, .int .i64 0] 60) := ⟨_, rfl⟩
  obtain ⟨C, hC⟩ : ∃ C, C = w.heap.size := ⟨_, rfl⟩
  obtain ⟨K, hKz⟩ : ∃ K : Nat, K = 0 := ⟨_, rfl⟩
  obtain ⟨B, hBz⟩ : ∃ B : Nat, B = 0 := ⟨_, rfl⟩
  have HO : Hid (KO w x C N t false false K B W) := by
    obtain ⟨V0, hV0⟩ : ∃ V0, V0 = x.laid w := ⟨_, rfl⟩
    have s0 : V0.heap.size = C + 1 := by rw [hV0, hC]; simp [Cfg.laid]
    have o0 : One w x C N V0 := by rw [hV0, hC]; exact One.mk' hi hN
    obtain ⟨V1, hV1⟩ : ∃ V1, V1 = V0.alloc (.cells #[.int .i64 t] 3) := ⟨_, rfl⟩
    have k1 : Keeps (fun _ => False) V0 V1 := by rw [hV1]; exact (Keeps.refl _ _).alloc _
    have b1 : Blk V1 (C + 1) [.int .i64 t] 3 := by rw [hV1, ← s0]; exact Blk.new _ _ _
    have s1 : V1.heap.size = C + 2 := by rw [hV1]; simp [s0]
    obtain ⟨V2, hV2⟩ : ∃ V2, V2 = V1.alloc (.cells #[.int .i64 0, .int .i64 0, .int .i64 0] 60) := ⟨_, rfl⟩
    have k2 : Keeps (fun _ => False) V1 V2 := by rw [hV2]; exact (Keeps.refl _ _).alloc _
    have b2 : Blk V2 (C + 2) [.int .i64 0, .int .i64 0, .int .i64 0] 60 := by rw [hV2, ← s1]; exact Blk.new _ _ _
    have s2 : V2.heap.size = C + 3 := by rw [hV2]; simp [s1]
    have k3 : Keeps (fun _ => False) V2 W := by rw [hW, ← hV0, ← hV1, ← hV2]; exact (Keeps.refl _ _).alloc _
    have b3 : Blk W (C + 3) [.int .i64 0, .int .i64 0, .int .i64 0] 60 := by rw [hW, ← hV0, ← hV1, ← hV2, ← s2]; exact Blk.new _ _ _
    have s3 : W.heap.size = C + 4 := by rw [hW, ← hV0, ← hV1, ← hV2]; simp [s2]
    exact ⟨((o0.kept k1).kept k2).kept k3, (b1.kept k2 fun h => h).kept k3 fun h => h, b2.kept k3 fun h => h, b3, by omega, hC, (fun e => by cases e), (fun e => by cases e), (fun e => by cases e)⟩
  have HM : Hid (x.mayB = true) := hm
  have HB : Hid (0 ≤ x.kernel ∧ x.kernel < 1024) := ⟨(Cfg.mayB_iff.1 hm).1, (Cfg.mayB_iff.1 hm).2.1⟩
  clear hi hN hm hKz hBz
  unfold Cfg.laid at hW
  go_enter Tryz.func33, Tryz.ntmps33
  go_upto_region 2 with fail
  rw [← hW, ← hC]
  clear hW hC
  obtain ⟨q0, q1, q2, q3, q4, q5, q6⟩ := HO.out.one.cells
  go_wp2_with fail
  refine (begin_any x W HB.out).mono ?_
  rintro r w1 ⟨rfl, hKc⟩
  have h1 : Hid (KO w x C N t false false K B w1) := HO.out.kept hKc
  clear hKc HO q0 q1 q2 q3 q4 q5 q6
  go_wp2_with fail
  refine (countFrom_any (16 * x.kernel) w1).mono ?_
  rintro r w2 ⟨rfl, hBc, hKc⟩
  have h2 := h1.out.counts hKc hBc
  clear hKc hBc h1 B
  obtain ⟨B, hb⟩ : ∃ B, B = w1.heap.size := ⟨_, rfl⟩
  rw [← hb] at h2 ⊢
  have h2 : Hid (KO w x C N t false true K B w2) := h2
  clear hb
  have h3 := h2.out.var
  go_upto_region 3 with fail
  obtain ⟨W3, hW3⟩ : ∃ W3, W3 = w2.alloc (.cells #[.nilFunc] 73) := ⟨_, rfl⟩
  rw [← hW3] at h3 ⊢
  clear hW3
  obtain ⟨M, hb⟩ : ∃ M, M = w2.heap.size := ⟨_, rfl⟩
  rw [← hb] at h3 ⊢
  clear hb
  have k0 := (h3.kk rfl).1.cell (i := 0) rfl
  have z0 := (h3.kk rfl).1.frozen 0
  have h4 := h3.stored
  obtain ⟨W4, hW4⟩ : ∃ W4, W4 = W3.setCell ⟨M, 0, none⟩ (.func (.func 53) #[] #[.pointer (some ⟨B, 0, none⟩)]) := ⟨_, rfl⟩
  rw [← hW4] at h4
  have h4 : Hid (KP w x C N t M B W4) := h4
  clear h3
  rw [run_store Tryz.prog W3 _ _ _ rfl]
  go_simp
  rw [← hW4]
  clear hW4 k0 z0
  obtain ⟨q0, q1, q2, q3, q4, q5, q6⟩ := h4.out.one.cells
  have HC : Hid (Calls Tryz.prog 22 #[x.v, .func (.func 57) #[] #[.pointer (some ⟨M, 0, none⟩), .pointer (some ⟨C + 1, 0, none⟩), .pointer (some ⟨C + 1 + 1 + 1, 0, none⟩)]] W4 (LayP (JO B M (C + 1) (C + 1 + 1 + 1) (16 * x.kernel) t) (SO B M (C + 1) (C + 1 + 1 + 1)) x W4 (16 * x.kernel) [])) := by
    have hb := HB.out
    have hlo := h4.out.lo
    have hn := h4.out.one.n
    have hcw := h4.out.cw
    have l1 := h4.out.cnt.lt
    have l2 := h4.out.fn.lt
    have l3 := h4.out.word.lt
    have l4 := h4.out.found.lt
    exact lay_any (dl_owner B M (C + 1) (C + 1 + 1 + 1) (16 * x.kernel) t) x HM.out W4 N h4.out.one.cin h4.out.one.nn (16 * x.kernel) [] ⟨h4.out.cnt, h4.out.fn, h4.out.word, h4.out.found, by simp [sumK], by omega⟩ (fun k hk => by rcases hk with rfl | rfl | rfl | rfl <;> omega) (by omega) (by omega)
  go_wp2_with fail
  refine HC.out.mono ?_
  rintro e w5 ⟨b1, b2, F, G, T, D, rfl, _, _, _, hJ, hK⟩
  clear HC q0 q1 q2 q3 q4 q5 q6
  rw [List.nil_append] at hJ
  have hlo := h4.out.lo
  have hcw := h4.out.cw
  have H5 : Hid (Blk w5 (C + 1 + 1 + 1) (lastGo t (16 * x.kernel) ⟨0, 0, 0⟩ (layH x (16 * x.kernel))).vs 60 ∧ Blk w5 (C + 1 + 1) [.int .i64 0, .int .i64 0, .int .i64 0] 60 ∧ Keeps (fun _ => False) w w5) :=
    ⟨hJ.found, h4.out.res.kept hK (by unfold SO; omega), h4.out.one.keeps.trans hK fun k hk e => by unfold SO at e; omega⟩
  have HCW : Hid (C = w.heap.size) := hcw
  clear hJ hK hlo hcw
  obtain ⟨O, hO⟩ : ∃ O, lastGo t (16 * x.kernel) ⟨0, 0, 0⟩ (layH x (16 * x.kernel)) = O := ⟨_, rfl⟩
  rw [hO] at H5
  have HQ : Hid (lastGo t (16 * x.kernel) ⟨0, 0, 0⟩ (layH x (16 * x.kernel)) = O) := hO
  clear hO h4
  have f0 := H5.out.1.cell (i := 0) rfl
  have f1 := H5.out.1.cell (i := 1) rfl
  have f2 := H5.out.1.cell (i := 2) rfl
  have a0 := H5.out.2.1.cell (i := 0) rfl
  have a1 := H5.out.2.1.cell (i := 1) rfl
  have a2 := H5.out.2.1.cell (i := 2) rfl
  have z0 := H5.out.2.1.frozen 0
  have z1 := H5.out.2.1.frozen 1
  have z2 := H5.out.2.1.frozen 2
  go_wp2
  obtain ⟨hB, hK3⟩ := set3 H5.out.2.1 (.int .i64 O.kind) (.int .i64 O.idx) (.int .i64 O.port)
  obtain ⟨Wb, hWb⟩ : ∃ Wb, Wb = (((w5.setCell ⟨C + 1 + 1, 0, none⟩ (.int .i64 O.kind)).setCell ⟨C + 1 + 1, 1, none⟩ (.int .i64 O.idx)).setCell ⟨C + 1 + 1, 2, none⟩ (.int .i64 O.port)) := ⟨_, rfl⟩
  rw [← hWb] at hB hK3 ⊢
  (try simp only [Exit.inBlock, Exit.then])
  refine bodyPost_ret (results_cell_row rfl _ _ (C + 1 + 1) 60 _ (0, 0) _ rfl hB Tryz.underlying60 rfl (by kernel_rfl)) rfl ?_
  exact ⟨by rw [HQ.out], H5.out.2.2.trans hK3 fun k hk e => by have := HCW.out; omega⟩
end Go.Proofs.YtglhfijgnfignaaGreat
namespace Go.Proofs.YtglhfijgnfignaaGreat
open Go.RowKit
set_option linter.unusedVariables false
set_option linter.unusedSimpArgs false
set_option maxRecDepth 6000

/-- Whose a word of a configuration that can be laid out is. -/
def ownO (x : Cfg) (t : Int) : Ow :=
  if (lastGo t (16 * x.kernel) ⟨0, 0, 0⟩ (layH x (16 * x.kernel))).kind = 0 then regO (t / 16) x.ps else lastGo t (16 * x.kernel) ⟨0, 0, 0⟩ (layH x (16 * x.kernel))
/-- What Owner answers. -/
def ownA (x : Cfg) (t : Int) : Ow × Int :=
  if x.mayB = false then (⟨0, 0, 0⟩, 150) else if isW x.frames t = false then (⟨0, 0, 0⟩, 151) else (ownO x t, 0)

structure OwI (w : World) (x : Cfg) (C N : Nat) (w' : World) : Prop where
  one : One w x C N w'
  res : Blk w' (C + 1) [.int .i64 0, .int .i64 0, .int .i64 0] 60
  cw : C = w.heap.size
theorem OwI.kept {w : World} {x : Cfg} {C N : Nat} {w' w'' : World} (h : OwI w x C N w') (hK : Keeps (fun _ => False) w' w'') : OwI w x C N w'' :=
  ⟨h.one.kept hK, h.res.kept hK fun h => h, h.cw⟩

set_option maxHeartbeats 4000000 in
theorem Owner_any (x : Cfg) (t : Int) (ht : I64 t) (w : World) (N : Nat) (hi : x.In w N) (hN : N ≤ w.heap.size) :
    Calls Tryz.prog 14 #[x.v, .int .i64 t] w fun e w' => e = .returned (.tuple #[(ownA x t).1.v, .int .i64 (ownA x t).2]) ∧ Keeps (fun _ => False) w w' := by
  obtain ⟨W, hW⟩ : ∃ W, W = (x.laid w).alloc (.cells #[.int .i64 0, .int .i64 0, .int .i64 0] 60) := ⟨_, rfl⟩
  obtain ⟨C, hC⟩ : ∃ C, C = w.heap.size := ⟨_, rfl⟩
  have HO : Hid (OwI w x C N W) := by
    have s0 : (x.laid w).heap.size = C + 1 := by rw [hC]; simp [Cfg.laid]
    refine ⟨?_, ?_, hC⟩
    · rw [hW, hC]; exact (One.mk' hi hN).kept ((Keeps.refl _ _).alloc _)
    · rw [hW, ← s0]; exact Blk.new _ _ _
  have HT : Hid (I64 t) := ht
  clear hi hN ht
  unfold Cfg.laid at hW
  go_enter Tryz.func14, Tryz.ntmps14
  go_upto_region 1 with fail
  rw [← hW, ← hC]
  clear hW hC
  obtain ⟨q0, q1, q2, q3, q4, q5, q6⟩ := HO.out.one.cells
  have HC : Hid (Calls Tryz.prog 21 #[x.v] W fun e w' => e = .returned (.bool x.mayB) ∧ Keeps (fun _ => False) W w') := canLie_any x W N HO.out.one.cin HO.out.one.nn
  go_wp2_with fail
  refine HC.out.mono ?_
  rintro e w1 ⟨rfl, hK⟩
  have H1 : Hid (OwI w x C N w1) := HO.out.kept hK
  clear hK HC HO q0 q1 q2 q3 q4 q5 q6
  obtain ⟨b, hb⟩ : ∃ b, x.mayB = b := ⟨_, rfl⟩
  rw [hb]
  have HB : Hid (x.mayB = b) := hb
  clear hb
  cases b with
  | false =>
    have HA : Hid (ownA x t = (⟨0, 0, 0⟩, 150)) := by show _ = _; unfold ownA; rw [HB.out]; rfl
    have a0 := H1.out.res.cell (i := 0) rfl
    have a1 := H1.out.res.cell (i := 1) rfl
    have a2 := H1.out.res.cell (i := 2) rfl
    have z0 := H1.out.res.frozen 0
    have z1 := H1.out.res.frozen 1
    have z2 := H1.out.res.frozen 2
    go_wp2
    obtain ⟨hB, hK3⟩ := set3 H1.out.res (.int .i64 0) (.int .i64 0) (.int .i64 0)
    obtain ⟨Wb, hWb⟩ : ∃ Wb, Wb = (((w1.setCell ⟨C + 1, 0, none⟩ (.int .i64 0)).setCell ⟨C + 1, 1, none⟩ (.int .i64 0)).setCell ⟨C + 1, 2, none⟩ (.int .i64 0)) := ⟨_, rfl⟩
    rw [← hWb] at hB hK3 ⊢
    (try simp only [Exit.inBlock, Exit.then])
    refine bodyPost_ret (results_cell_two rfl _ _ (C + 1) 60 _ (0, 0) _ rfl hB Tryz.underlying60 rfl (by kernel_rfl)) rfl ?_
    have hcw := H1.out.cw
    exact ⟨by rw [HA.out]; rfl, H1.out.one.keeps.trans hK3 fun k hk e => by omega⟩
  | true =>
    obtain ⟨q0, q1, q2, q3, q4, q5, q6⟩ := H1.out.one.cells
    have HC : Hid (Calls Tryz.prog 32 #[x.v, .int .i64 t] w1 fun e w' => e = .returned (.bool (isW x.frames t)) ∧ Keeps (fun _ => False) w1 w') := isWord_any x t HT.out w1 N H1.out.one.cin H1.out.one.nn
    go_wp2_with fail
    refine HC.out.mono ?_
    rintro e w2 ⟨rfl, hK⟩
    have H2 : Hid (OwI w x C N w2) := H1.out.kept hK
    clear hK HC H1 q0 q1 q2 q3 q4 q5 q6
    obtain ⟨b, hb⟩ : ∃ b, isW x.frames t = b := ⟨_, rfl⟩
    rw [hb]
    have HW : Hid (isW x.frames t = b) := hb
    clear hb
    cases b with
    | false =>
      have HA : Hid (ownA x t = (⟨0, 0, 0⟩, 151)) := by show _ = _; unfold ownA; rw [HB.out, HW.out]; rfl
      have a0 := H2.out.res.cell (i := 0) rfl
      have a1 := H2.out.res.cell (i := 1) rfl
      have a2 := H2.out.res.cell (i := 2) rfl
      have z0 := H2.out.res.frozen 0
      have z1 := H2.out.res.frozen 1
      have z2 := H2.out.res.frozen 2
      go_wp2
      obtain ⟨hB, hK3⟩ := set3 H2.out.res (.int .i64 0) (.int .i64 0) (.int .i64 0)
      obtain ⟨Wb, hWb⟩ : ∃ Wb, Wb = (((w2.setCell ⟨C + 1, 0, none⟩ (.int .i64 0)).setCell ⟨C + 1, 1, none⟩ (.int .i64 0)).setCell ⟨C + 1, 2, none⟩ (.int .i64 0)) := ⟨_, rfl⟩
      rw [← hWb] at hB hK3 ⊢
      (try simp only [Exit.inBlock, Exit.then])
      refine bodyPost_ret (results_cell_two rfl _ _ (C + 1) 60 _ (0, 0) _ rfl hB Tryz.underlying60 rfl (by kernel_rfl)) rfl ?_
      have hcw := H2.out.cw
      exact ⟨by rw [HA.out]; rfl, H2.out.one.keeps.trans hK3 fun k hk e => by omega⟩
    | true =>
      have HA : Hid (ownA x t = (ownO x t, 0) ∧ 0 ≤ t) := by
        refine ⟨by unfold ownA; rw [HB.out, HW.out]; rfl, ?_⟩
        have := HW.out; unfold isW at this; simp at this; omega
      obtain ⟨q0, q1, q2, q3, q4, q5, q6⟩ := H2.out.one.cells
      have HC : Hid (Calls Tryz.prog 33 #[x.v, .int .i64 t] w2 fun e w' => e = .returned (lastGo t (16 * x.kernel) ⟨0, 0, 0⟩ (layH x (16 * x.kernel))).v ∧ Keeps (fun _ => False) w2 w') := kernelOwner_any x t w2 N H2.out.one.cin H2.out.one.nn HB.out
      go_wp2_with fail
      refine HC.out.mono ?_
      rintro e w3 ⟨rfl, hK⟩
      have H3 : Hid (OwI w x C N w3) := H2.out.kept hK
      clear hK HC H2 q0 q1 q2 q3 q4 q5 q6
      obtain ⟨O, hO⟩ : ∃ O, lastGo t (16 * x.kernel) ⟨0, 0, 0⟩ (layH x (16 * x.kernel)) = O := ⟨_, rfl⟩
      rw [hO]
      have HQ : Hid (ownO x t = if O.kind = 0 then regO (t / 16) x.ps else O) := by show _ = _; unfold ownO; rw [hO]
      clear hO
      obtain ⟨W4, hW4⟩ : ∃ W4, W4 = w3.alloc (.cells #[.int .i64 O.kind, .int .i64 O.idx, .int .i64 O.port] 60) := ⟨_, rfl⟩
      obtain ⟨M, hM⟩ : ∃ M, M = w3.heap.size := ⟨_, rfl⟩
      have H4 : Hid (OwI w x C N W4 ∧ Blk W4 M O.vs 60) := by
        rw [hW4, hM]; exact ⟨H3.out.kept ((Keeps.refl _ _).alloc _), Blk.new _ _ _⟩
      go_upto_region 6 with fail
      rw [← hW4, ← hM]
      clear hW4 hM H3
      have f0 := H4.out.2.cell (i := 0) rfl
      have f1 := H4.out.2.cell (i := 1) rfl
      have f2 := H4.out.2.cell (i := 2) rfl
      by_cases hz : O.kind = 0
      · have e1 : (O.kind == 0) = true := by simp [hz]
        have HR : Hid (ownO x t = regO (t / 16) x.ps) := by show _ = _; rw [HQ.out, if_pos hz]
        have HC : Hid (Calls Tryz.prog 34 #[x.v, .int .i64 (t / 16)] W4 fun e w' => e = .returned (regO (t / 16) x.ps).v ∧ Keeps (fun _ => False) W4 w') := regionOwner_any x (t / 16) W4 N H4.out.1.one.cin H4.out.1.one.nn HB.out
        obtain ⟨q0, q1, q2, q3, q4, q5, q6⟩ := H4.out.1.one.cells
        have hd : t.tdiv 16 = t / 16 := Int.tdiv_eq_ediv_of_nonneg HA.out.2
        have hq : IntKind.i64.wrap (t / 16) = t / 16 := by have h1 := HT.out; have h2 := HA.out.2; rw [IntKind.wrap_i64]; unfold I64 at h1; omega
        clear hz
        go_wp2_with fail
        clear hd hq
        refine HC.out.mono ?_
        rintro e w5 ⟨rfl, hK⟩
        have H5 : Hid (OwI w x C N w5) := H4.out.1.kept hK
        clear hK HC q0 q1 q2 q3 q4 q5 q6 f0 f1 f2
        obtain ⟨R, hR⟩ : ∃ R, regO (t / 16) x.ps = R := ⟨_, rfl⟩
        have HR2 : Hid (ownO x t = R) := by show _ = _; rw [HR.out, hR]
        rw [hR]
        clear hR
        have a0 := H5.out.res.cell (i := 0) rfl
        have a1 := H5.out.res.cell (i := 1) rfl
        have a2 := H5.out.res.cell (i := 2) rfl
        have z0 := H5.out.res.frozen 0
        have z1 := H5.out.res.frozen 1
        have z2 := H5.out.res.frozen 2
        go_wp2
        obtain ⟨hB, hK3⟩ := set3 H5.out.res (.int .i64 R.kind) (.int .i64 R.idx) (.int .i64 R.port)
        obtain ⟨Wb, hWb⟩ : ∃ Wb, Wb = (((w5.setCell ⟨C + 1, 0, none⟩ (.int .i64 R.kind)).setCell ⟨C + 1, 1, none⟩ (.int .i64 R.idx)).setCell ⟨C + 1, 2, none⟩ (.int .i64 R.port)) := ⟨_, rfl⟩
        rw [← hWb] at hB hK3 ⊢
        (try simp only [Exit.inBlock, Exit.then])
        refine bodyPost_ret (results_cell_two rfl _ _ (C + 1) 60 _ (0, 0) _ rfl hB Tryz.underlying60 rfl (by kernel_rfl)) rfl ?_
        have hcw := H5.out.cw
        exact ⟨by rw [HA.out.1, HR2.out]; rfl, H5.out.one.keeps.trans hK3 fun k hk e => by omega⟩
      · have e1 : (O.kind == 0) = false := by simp [hz]
        have HR : Hid (ownO x t = O) := by show _ = _; rw [HQ.out, if_neg hz]
        have a0 := H4.out.1.res.cell (i := 0) rfl
        have a1 := H4.out.1.res.cell (i := 1) rfl
        have a2 := H4.out.1.res.cell (i := 2) rfl
        have z0 := H4.out.1.res.frozen 0
        have z1 := H4.out.1.res.frozen 1
        have z2 := H4.out.1.res.frozen 2
        clear hz
        go_wp2
        obtain ⟨hB, hK3⟩ := set3 H4.out.1.res (.int .i64 O.kind) (.int .i64 O.idx) (.int .i64 O.port)
        obtain ⟨Wb, hWb⟩ : ∃ Wb, Wb = (((W4.setCell ⟨C + 1, 0, none⟩ (.int .i64 O.kind)).setCell ⟨C + 1, 1, none⟩ (.int .i64 O.idx)).setCell ⟨C + 1, 2, none⟩ (.int .i64 O.port)) := ⟨_, rfl⟩
        rw [← hWb] at hB hK3 ⊢
        (try simp only [Exit.inBlock, Exit.then])
        refine bodyPost_ret (results_cell_two rfl _ _ (C + 1) 60 _ (0, 0) _ rfl hB Tryz.underlying60 rfl (by kernel_rfl)) rfl ?_
        have hcw := H4.out.1.cw
        exact ⟨by rw [HA.out.1, HR.out]; rfl, H4.out.1.one.keeps.trans hK3 fun k hk e => by omega⟩
end Go.Proofs.YtglhfijgnfignaaGreat
