import Derived.Test.YthaoopaafdgioabP
namespace Go.Proofs.Ythaoopaafdgioab
open Go.RowKit
set_option linter.unusedVariables false
set_option maxRecDepth 6000

/-- A memory of f frames has the word. -/
def isW (f a : Int) : Bool := decide (0 ≤ a) && decide (a / 16 < f) && decide (a / 16 < 1024)

/-- A region has the frame. -/
def Rgn.hasF (fr : Int) (r : Rgn) : Bool := decide (0 ≤ r.frame) && decide (r.frame ≤ 1024) && decide (r.frame ≤ fr) && decide (fr < r.frame + r.pages)

set_option maxHeartbeats 1000000 in
theorem isRegionFrame_any (r : Rgn) (hr : r.Fine) (hb : r.inB = true) (a : Int) (w : World) : Calls Try.prog 38 #[r.v, .int .i64 a] w fun e w' => e = .returned (.bool (r.hasF a)) ∧ Keeps (fun _ => False) w w' := by
  obtain ⟨p, q, fr, t⟩ := r
  have hf := hr
  unfold Rgn.Fine at hf
  dsimp only at hf
  have hb := Rgn.inB_iff.1 hb
  dsimp only at hb
  go_enter Try.func38, Try.ntmps38
  by_cases h1 : 0 ≤ fr
  · have e1 : decide (0 ≤ fr) = true := by simp [h1]
    by_cases h2 : fr ≤ 1024
    · have e2 : decide (fr ≤ 1024) = true := by simp [h2]
      by_cases h3 : fr ≤ a
      · have e3 : decide (fr ≤ a) = true := by simp [h3]
        by_cases h4 : a < fr + q
        · have HS : Hid (Rgn.hasF a ⟨p, q, fr, t⟩ = true) := by show _ = _; unfold Rgn.hasF; simp; omega
          have q1 : IntKind.i64.wrap (fr + q) = fr + q := by rw [IntKind.wrap_i64]; omega
          have e4 : decide (a < fr + q) = true := by simp [h4]
          go_wp2
          go_ret
          exact ⟨by rw [HS.out]; rfl, (Keeps.refl _ _).alloc _⟩
        · have HS : Hid (Rgn.hasF a ⟨p, q, fr, t⟩ = false) := by show _ = _; unfold Rgn.hasF; simp; omega
          have q1 : IntKind.i64.wrap (fr + q) = fr + q := by rw [IntKind.wrap_i64]; omega
          have e4 : decide (a < fr + q) = false := by simp [h4]
          go_wp2
          go_ret
          exact ⟨by rw [HS.out]; rfl, (Keeps.refl _ _).alloc _⟩
      · have e3 : decide (fr ≤ a) = false := by simp [h3]
        have HS : Hid (Rgn.hasF a ⟨p, q, fr, t⟩ = false) := by show _ = _; unfold Rgn.hasF; simp; omega
        go_wp2
        go_ret
        exact ⟨by rw [HS.out]; rfl, (Keeps.refl _ _).alloc _⟩
    · have e2 : decide (fr ≤ 1024) = false := by simp [h2]
      have HS : Hid (Rgn.hasF a ⟨p, q, fr, t⟩ = false) := by show _ = _; unfold Rgn.hasF; simp; omega
      go_wp2
      go_ret
      exact ⟨by rw [HS.out]; rfl, (Keeps.refl _ _).alloc _⟩
  · have e1 : decide (0 ≤ fr) = false := by simp [h1]
    have HS : Hid (Rgn.hasF a ⟨p, q, fr, t⟩ = false) := by show _ = _; unfold Rgn.hasF; simp; omega
    go_wp2
    go_ret
    exact ⟨by rw [HS.out]; rfl, (Keeps.refl _ _).alloc _⟩

set_option maxHeartbeats 1000000 in
theorem isWord_any (x : Cfg) (a : Int) (ha : I64 a) (w : World) (N : Nat) (hi : x.In w N) (hN : N ≤ w.heap.size) :
    Calls Try.prog 20 #[x.v, .int .i64 a] w fun e w' => e = .returned (.bool (isW x.frames a)) ∧ Keeps (fun _ => False) w w' := by
  obtain ⟨W, hW⟩ : ∃ W, W = x.laid w := ⟨_, rfl⟩
  obtain ⟨C, hC⟩ : ∃ C, C = w.heap.size := ⟨_, rfl⟩
  have HO : Hid (One w x C N W) := by rw [hW, hC]; exact One.mk' hi hN
  clear hi hN
  have c0 : W.cell? ⟨C, 0, none⟩ = some (.int .i64 x.frames) := HO.out.cfg.cell (i := 0) rfl
  unfold Cfg.laid at hW
  go_enter Try.func20, Try.ntmps20
  go_upto_region 1 with fail
  rw [← hW, ← hC]
  clear hW hC
  go_upto_region 2 with fail
  obtain ⟨d, hd⟩ : ∃ d, a.tdiv 16 = d := ⟨_, rfl⟩
  have hd0 : 0 ≤ a → d = a / 16 := fun h => by rw [← hd]; exact Int.tdiv_eq_ediv_of_nonneg h
  rw [hd]
  clear hd
  by_cases h1 : 0 ≤ a
  · have e1 : decide (0 ≤ a) = true := by simp [h1]
    have hd1 := hd0 h1
    by_cases h2 : d < x.frames
    · have e2 : decide (d < x.frames) = true := by simp [h2]
      by_cases h3 : d < 1024
      · have e3 : decide (d < 1024) = true := by simp [h3]
        have HS : Hid (isW x.frames a = true) := by show _ = _; unfold isW; simp; omega
        clear hd0 hd1
        go_wp2
        go_ret
        exact ⟨by rw [HS.out]; rfl, HO.out.keeps⟩
      · have e3 : decide (d < 1024) = false := by simp [h3]
        have HS : Hid (isW x.frames a = false) := by show _ = _; unfold isW; simp; omega
        clear hd0 hd1
        go_wp2
        go_ret
        exact ⟨by rw [HS.out]; rfl, HO.out.keeps⟩
    · have e2 : decide (d < x.frames) = false := by simp [h2]
      have HS : Hid (isW x.frames a = false) := by show _ = _; unfold isW; simp; omega
      clear hd0 hd1
      go_wp2
      go_ret
      exact ⟨by rw [HS.out]; rfl, HO.out.keeps⟩
  · have e1 : decide (0 ≤ a) = false := by simp [h1]
    have HS : Hid (isW x.frames a = false) := by show _ = _; unfold isW; simp; omega
    clear hd0
    go_wp2
    go_ret
    exact ⟨by rw [HS.out]; rfl, HO.out.keeps⟩
end Go.Proofs.Ythaoopaafdgioab
namespace Go.Proofs.Ythaoopaafdgioab
open Go.RowKit
set_option linter.unusedVariables false
set_option maxRecDepth 6000

/-- Whose the frame is, as the regions say: the first partition's that has it. -/
def regO (fr : Int) (ps : List Par) : Ow := match ps.findIdx? (fun P => P.rs.any (Rgn.hasF fr)) with | some i => ⟨1, i, 0⟩ | none => ⟨0, 0, 0⟩
theorem regO_hit {fr : Int} {ps : List Par} {k : Nat} {P : Par} {r : Rgn} (hno : (ps.take k).any (fun P => P.rs.any (Rgn.hasF fr)) = false) (hP : ps[k]? = some P) (hr : r ∈ P.rs) (hh : r.hasF fr = true) : regO fr ps = ⟨1, k, 0⟩ := by
  have hk : k < ps.length := (List.getElem?_eq_some_iff.1 hP).1
  have : ps.findIdx? (fun P => P.rs.any (Rgn.hasF fr)) = some k := by
    rw [List.findIdx?_eq_some_iff_getElem]
    refine ⟨hk, ?_, ?_⟩
    · have : ps[k] = P := (List.getElem?_eq_some_iff.1 hP).2
      rw [this]; exact List.any_eq_true.2 ⟨r, hr, hh⟩
    · intro j hj
      rw [List.any_eq_false] at hno
      refine hno _ ?_
      rw [List.mem_take_iff_getElem]
      exact ⟨j, by omega, rfl⟩
  unfold regO; rw [this]
theorem regO_none {fr : Int} {ps : List Par} (hno : ps.any (fun P => P.rs.any (Rgn.hasF fr)) = false) : regO fr ps = ⟨0, 0, 0⟩ := by
  have : ps.findIdx? (fun P => P.rs.any (Rgn.hasF fr)) = none := by
    rw [List.findIdx?_eq_none_iff]
    intro P hP
    rw [List.any_eq_false] at hno
    exact Bool.eq_false_iff.2 (hno P hP)
  unfold regO; rw [this]

theorem set3 {w : World} {C : Nat} {a0 a1 a2 : Value} {t : TypeId} (hB : Blk w C [a0, a1, a2] t) (v0 v1 v2 : Value) :
    Blk (((w.setCell ⟨C, 0, none⟩ v0).setCell ⟨C, 1, none⟩ v1).setCell ⟨C, 2, none⟩ v2) C [v0, v1, v2] t ∧
    Keeps (fun k => k = C) w (((w.setCell ⟨C, 0, none⟩ v0).setCell ⟨C, 1, none⟩ v1).setCell ⟨C, 2, none⟩ v2) :=
  ⟨((hB.setCell 0 v0).setCell 1 v1).setCell 2 v2, (((Keeps.refl (fun k => k = C) w).setCell ⟨C, 0, none⟩ v0 fun _ => rfl).setCell ⟨C, 1, none⟩ v1 fun _ => rfl).setCell ⟨C, 2, none⟩ v2 fun _ => rfl⟩

/-- While the regions are asked: the configuration in C, the answer in E, nobody's yet. -/
structure RoI (w : World) (x : Cfg) (C E N : Nat) (w' : World) : Prop where
  one : One w x C N w'
  ans : Blk w' E [.int .i64 0, .int .i64 0, .int .i64 0] 36
  lo : w.heap.size ≤ E
theorem RoI.kept {w : World} {x : Cfg} {C E N : Nat} {w' w'' : World} (h : RoI w x C E N w') (hK : Keeps (fun _ => False) w' w'') : RoI w x C E N w'' :=
  ⟨h.one.kept hK, h.ans.kept hK fun h => h, h.lo⟩

set_option maxHeartbeats 4000000 in
theorem regionOwner_any (x : Cfg) (fr : Int) (w : World) (N : Nat) (hi : x.In w N) (hN : N ≤ w.heap.size) (hm : x.mayB = true) :
    Calls Try.prog 22 #[x.v, .int .i64 fr] w fun e w' => e = .returned (regO fr x.ps).v ∧ Keeps (fun _ => False) w w' := by
  have hmb := (Cfg.mayB_iff.1 hm).2.2.2.2.1
  obtain ⟨f, mj, kn, rm, ca, cc, cs, pa, pc, ps, qa, qc, qs⟩ := x
  have HO := One.mk' hi hN
  obtain ⟨W0, hW0⟩ : ∃ W0, W0 = Cfg.laid w ⟨f, mj, kn, rm, ca, cc, cs, pa, pc, ps, qa, qc, qs⟩ := ⟨_, rfl⟩
  obtain ⟨C, hC⟩ : ∃ C, C = w.heap.size := ⟨_, rfl⟩
  rw [← hW0, ← hC] at HO
  obtain ⟨W, hW⟩ : ∃ W, W = W0.alloc (.cells #[.int .i64 0, .int .i64 0, .int .i64 0] 36) := ⟨_, rfl⟩
  obtain ⟨E, hE⟩ : ∃ E, E = w.heap.size + 1 := ⟨_, rfl⟩
  have hE0 : E = W0.heap.size := by rw [hE, hW0]; simp [Cfg.laid]
  have HO : Hid (RoI w ⟨f, mj, kn, rm, ca, cc, cs, pa, pc, ps, qa, qc, qs⟩ C E N W) := by
    rw [hW]; exact ⟨HO.kept ((Keeps.refl _ _).alloc _), by rw [hE0]; exact Blk.new _ _ _, by omega⟩
  obtain ⟨L, hL⟩ : ∃ L, ps.length = L := ⟨_, rfl⟩
  dsimp only at hmb
  have HL : Hid (ps.length = L ∧ ∀ P ∈ ps, P.mayB qs.length = true) := ⟨hL, hmb⟩
  have hcc : (L : Int) ≤ pc ∧ (pc : Int) ≤ 9223372036854775807 := by have := hi.plen; unfold maxLen at this; dsimp only at this; omega
  simp only [Cfg.v, Cfg.laid, hL] at hW0 ⊢
  have c5 : W.cell? ⟨C, 5, none⟩ = some (.slice pa L pc) := by have := HO.out.one.cfg.cell (i := 5) rfl; rw [← hL]; exact this
  clear hi hN hL hm hmb hE0
  go_enter Try.func22, Try.ntmps22
  go_upto_region 1 with fail
  rw [← hW0, ← hW, ← hE, ← hC]
  clear hW hC hW0 hE
  go_wp2
  go_loopw [12] (fun i wr => ∃ j : Nat, j ≤ L ∧ i = .int .i64 j ∧ (ps.take j).any (fun P => P.rs.any (Rgn.hasF fr)) = false ∧ RoI w ⟨f, mj, kn, rm, ca, cc, cs, pa, pc, ps, qa, qc, qs⟩ C E N wr) (fun i _ => L - (intOf i).toNat)
  case atStart => exact ⟨0, by omega, rfl, rfl, HO.out⟩
  case round =>
    obtain ⟨k, hk, rfl, hno, hO⟩ := hrel
    clear c5
    by_cases hlt : k < L
    · obtain ⟨X, hX⟩ : ∃ X, ps[k]? = some X := ⟨_, List.getElem?_eq_getElem (by have := HL.out.1; omega)⟩
      obtain ⟨g0, o0, e, hc⟩ := hO.one.cin.par hX
      dsimp only at e
      subst e
      obtain ⟨wz, hwz⟩ : ∃ wz, wz = wr := ⟨_, rfl⟩
      subst hwz
      have hXi := hO.one.cin.pin X (List.mem_of_getElem? hX)
      have p0 := hc 0 _ rfl
      rw [Nat.add_zero] at p0
      have p1 := hc 1 _ rfl
      have p2 := hc 2 _ rfl
      have p3 := hc 3 _ rfl
      have p4 := hc 4 _ rfl
      have p5 := hc 5 _ rfl
      have p6 := hc 6 _ rfl
      have p7 := hc 7 _ rfl
      obtain ⟨XL, hXL⟩ : ∃ XL, X.ps.length = XL := ⟨_, rfl⟩
      obtain ⟨RL, hRL⟩ : ∃ RL, X.rs.length = RL := ⟨_, rfl⟩
      rw [hXL] at p7
      rw [hRL] at p6
      have hxc : (RL : Int) ≤ X.rc ∧ (X.rc : Int) ≤ 9223372036854775807 := by have := hXi.rlen; unfold maxLen at this; omega
      obtain ⟨W1, hW1⟩ : ∃ W1, W1 = wz.alloc (.cells #[.string X.name, .int .i64 X.entry, .int .i64 X.action, .int .i64 X.restarts, .int .i64 X.inputs, .int .i64 X.outputs, .slice X.ra RL X.rc, .slice X.pa XL X.pc] 52) := ⟨_, rfl⟩
      obtain ⟨D, hD⟩ : ∃ D, D = wz.heap.size := ⟨_, rfl⟩
      have HK : Hid (RoI w ⟨f, mj, kn, rm, ca, cc, cs, some ⟨g0, o0, none⟩, pc, ps, qa, qc, qs⟩ C E N W1 ∧ (ps.take k).any (fun P => P.rs.any (Rgn.hasF fr)) = false ∧ ps[k]? = some X ∧ X.rs.length = RL) := by
        rw [hW1]; exact ⟨hO.kept ((Keeps.refl _ _).alloc _), hno, hX, hRL⟩
      have d6 : W1.cell? ⟨D, 6, none⟩ = some (.slice X.ra RL X.rc) := by rw [hW1, hD]; exact (Blk.new wz _ _).cell rfl
      clear hno hO hX hXL hRL hXi hc
      go_upto_region 4 with fail
      rw [← hW1, ← hD]
      clear hW1 hD p0 p1 p2 p3 p4 p5 p6 p7
      go_wp2
      go_loopw [20] (fun i wr => ∃ j : Nat, j ≤ RL ∧ i = .int .i64 j ∧ (X.rs.take j).any (Rgn.hasF fr) = false ∧ RoI w ⟨f, mj, kn, rm, ca, cc, cs, some ⟨g0, o0, none⟩, pc, ps, qa, qc, qs⟩ C E N wr) (fun i _ => RL - (intOf i).toNat)
      case atStart => exact ⟨0, by omega, rfl, rfl, HK.out.1⟩
      case round =>
        obtain ⟨j, hj, rfl, hno, hO⟩ := hrel
        clear d6
        by_cases hlj : j < RL
        · obtain ⟨y, hy⟩ : ∃ y, X.rs[j]? = some y := ⟨_, List.getElem?_eq_getElem (by have := HK.out.2.2.2; omega)⟩
          have hXi := hO.one.cin.pin X (List.mem_of_getElem? HK.out.2.2.1)
          have hyf := hXi.rfine y (List.mem_of_getElem? hy)
          have hyb := (Par.mayB_iff.1 (HL.out.2 X (List.mem_of_getElem? HK.out.2.2.1))).2.2.1 y (List.mem_of_getElem? hy)
          obtain ⟨g1, o1, ha1, hg1⟩ := hXi.rseg.at hy
          have y0 := hg1 0 _ rfl
          rw [Nat.add_zero] at y0
          have y1 := hg1 1 _ rfl
          have y2 := hg1 2 _ rfl
          have y3 := hg1 3 _ rfl
          obtain ⟨W2, hW2⟩ : ∃ W2, W2 = wr.alloc (.cells #[.int .i64 y.page, .int .i64 y.pages, .int .i64 y.frame, .int .i64 y.rights] 54) := ⟨_, rfl⟩
          obtain ⟨G, hG⟩ : ∃ G, G = wr.heap.size := ⟨_, rfl⟩
          have hB1 : Blk W2 G y.vs 54 := by rw [hW2, hG]; exact Blk.new _ _ _
          have d0 := hB1.cell (i := 0) rfl
          have d1 := hB1.cell (i := 1) rfl
          have d2 := hB1.cell (i := 2) rfl
          have d3 := hB1.cell (i := 3) rfl
          have HJ : Hid (RoI w ⟨f, mj, kn, rm, ca, cc, cs, some ⟨g0, o0, none⟩, pc, ps, qa, qc, qs⟩ C E N W2 ∧ (X.rs.take j).any (Rgn.hasF fr) = false ∧ X.rs[j]? = some y ∧ y.Fine ∧ y.inB = true) := by
            rw [hW2]; exact ⟨hO.kept ((Keeps.refl _ _).alloc _), hno, hy, hyf, hyb⟩
          clear hno hO hXi hyf hyb hg1 hB1 hy
          rw [ha1]
          clear ha1
          go_upto_region 7 with fail
          rw [← hW2, ← hG]
          clear hW2 hG y0 y1 y2 y3
          go_wp2_with fail
          refine (isRegionFrame_any y HJ.out.2.2.2.1 HJ.out.2.2.2.2 fr W2).mono ?_
          rintro e w1 ⟨rfl, hK⟩
          have HO1 : Hid (RoI w ⟨f, mj, kn, rm, ca, cc, cs, some ⟨g0, o0, none⟩, pc, ps, qa, qc, qs⟩ C E N w1) := HJ.out.1.kept hK
          clear hK d0 d1 d2 d3
          obtain ⟨b, hb⟩ : ∃ b, y.hasF fr = b := ⟨_, rfl⟩
          rw [hb]
          have HB : Hid (y.hasF fr = b) := hb
          clear hb
          cases b with
          | true =>
            have HR : Hid (regO fr ps = ⟨1, k, 0⟩) := regO_hit HK.out.2.1 HK.out.2.2.1 (List.mem_of_getElem? HJ.out.2.2.1) HB.out
            have a0 := HO1.out.ans.cell (i := 0) rfl
            have a1 := HO1.out.ans.cell (i := 1) rfl
            have a2 := HO1.out.ans.cell (i := 2) rfl
            have f0 := HO1.out.ans.frozen 0
            have f1 := HO1.out.ans.frozen 1
            have f2 := HO1.out.ans.frozen 2
            go_wp2
            obtain ⟨hB, hK3⟩ := set3 HO1.out.ans (.int .i64 1) (.int .i64 k) (.int .i64 0)
            obtain ⟨Wb, hWb⟩ : ∃ Wb, Wb = (((w1.setCell ⟨E, 0, none⟩ (.int .i64 1)).setCell ⟨E, 1, none⟩ (.int .i64 k)).setCell ⟨E, 2, none⟩ (.int .i64 0)) := ⟨_, rfl⟩
            rw [← hWb] at hB hK3 ⊢
            (try simp only [Exit.inBlock, Exit.then])
            refine bodyPost_ret (results_cell_row rfl _ _ E 36 _ (0, 0) _ rfl hB Try.underlying36 rfl (by kernel_rfl)) rfl ?_
            have hlo := HO1.out.lo
            exact ⟨by rw [HR.out], HO1.out.one.keeps.trans hK3 fun k hk e => by omega⟩
          | false =>
            go_wp2
            go_roundw
            case rel =>
              refine ⟨j + 1, by omega, by go_num, ?_, HO1.out⟩
              rw [List.take_add_one, HJ.out.2.2.1]
              simp [List.any_append, HJ.out.2.1, HB.out]
            case measure => simp [intOf]; omega
        · obtain rfl : j = RL := by omega
          have HJ : Hid (RoI w ⟨f, mj, kn, rm, ca, cc, cs, some ⟨g0, o0, none⟩, pc, ps, qa, qc, qs⟩ C E N wr ∧ (ps.take (k + 1)).any (fun P => P.rs.any (Rgn.hasF fr)) = false) := by
            refine ⟨hO, ?_⟩
            rw [List.take_of_length_le (by have := HK.out.2.2.2; omega)] at hno
            rw [List.take_add_one, HK.out.2.2.1]
            simp only [List.any_append, HK.out.2.1, Option.toList, List.any_cons, hno, List.any_nil, Bool.or_false]
          clear hno hO
          go_wp2
          go_roundw
          case rel => exact ⟨k + 1, by omega, by go_num, HJ.out.2, HJ.out.1⟩
          case measure => simp [intOf]; omega
    · obtain rfl : k = L := by omega
      have HR : Hid (regO fr ps = ⟨0, 0, 0⟩) := by
        rw [List.take_of_length_le (by have := HL.out.1; omega)] at hno
        exact regO_none hno
      have HJ : Hid (RoI w ⟨f, mj, kn, rm, ca, cc, cs, pa, pc, ps, qa, qc, qs⟩ C E N wr) := hO
      have a0 := hO.ans.cell (i := 0) rfl
      have a1 := hO.ans.cell (i := 1) rfl
      have a2 := hO.ans.cell (i := 2) rfl
      have f0 := hO.ans.frozen 0
      have f1 := hO.ans.frozen 1
      have f2 := hO.ans.frozen 2
      clear hno hO
      go_wp2
      obtain ⟨hB, hK3⟩ := set3 HJ.out.ans (.int .i64 0) (.int .i64 0) (.int .i64 0)
      obtain ⟨Wb, hWb⟩ : ∃ Wb, Wb = (((wr.setCell ⟨E, 0, none⟩ (.int .i64 0)).setCell ⟨E, 1, none⟩ (.int .i64 0)).setCell ⟨E, 2, none⟩ (.int .i64 0)) := ⟨_, rfl⟩
      rw [← hWb] at hB hK3 ⊢
      (try simp only [Exit.inBlock, Exit.then])
      refine bodyPost_ret (results_cell_row rfl _ _ E 36 _ (0, 0) _ rfl hB Try.underlying36 rfl (by kernel_rfl)) rfl ?_
      have hlo := HJ.out.lo
      exact ⟨by rw [HR.out], HJ.out.one.keeps.trans hK3 fun k hk e => by omega⟩
end Go.Proofs.Ythaoopaafdgioab
namespace Go.Proofs.Ythaoopaafdgioab
open Go.RowKit
set_option linter.unusedVariables false
set_option linter.unusedSimpArgs false
set_option maxRecDepth 6000

def sumK (hist : List (Ow × Int)) : Int := (hist.map (·.2)).sum
theorem sumK_app (hist : List (Ow × Int)) (o : Ow) (k : Int) : sumK (hist ++ [(o, k)]) = sumK hist + k := by simp [sumK]
/-- Whose the word t is, of words that were dealt from s on: the last one's that got it. -/
def lastGo (t : Int) : Int → Ow → List (Ow × Int) → Ow
  | _, f, [] => f
  | s, f, (o, k) :: r => lastGo t (s + k) (if s ≤ t ∧ t < s + k then o else f) r
theorem lastGo_app (t : Int) (o : Ow) (k : Int) : ∀ (hist : List (Ow × Int)) (s : Int) (f : Ow), lastGo t s f (hist ++ [(o, k)]) = if s + sumK hist ≤ t ∧ t < s + sumK hist + k then o else lastGo t s f hist
  | [], s, f => by simp [lastGo, sumK]
  | (o', k') :: r, s, f => by
    have := lastGo_app t o k r (s + k') (if s ≤ t ∧ t < s + k' then o' else f)
    simp only [List.cons_append, lastGo]
    rw [this]
    have e : s + k' + sumK r = s + sumK ((o', k') :: r) := by simp [sumK]; omega
    rw [e]

/-- The counter of an owner: it counts, and keeps who got the word t. -/
structure JO (B K A F : Nat) (s t : Int) (w : World) (a : Int) (hist : List (Ow × Int)) : Prop where
  cnt : Blk w B [.int .i64 a] 3
  fn : Blk w K [.func (.func 44) #[] #[.pointer (some ⟨B, 0, none⟩)]] 82
  word : Blk w A [.int .i64 t] 3
  found : Blk w F (lastGo t s ⟨0, 0, 0⟩ hist).vs 36
  sum : a = s + sumK hist
  apart : B ≠ K ∧ B ≠ A ∧ B ≠ F ∧ K ≠ A ∧ K ≠ F ∧ A ≠ F
def SO (B K A F : Nat) : Nat → Prop := fun b => b = B ∨ b = K ∨ b = A ∨ b = F
theorem JO.kept {B K A F : Nat} {s t : Int} {w w' : World} {a : Int} {hist : List (Ow × Int)} {T : Nat → Prop} (h : JO B K A F s t w a hist) (hK : Keeps T w w') (hT : ∀ k, SO B K A F k → ¬ T k) : JO B K A F s t w' a hist :=
  ⟨h.cnt.kept hK (hT _ (.inl rfl)), h.fn.kept hK (hT _ (.inr (.inl rfl))), h.word.kept hK (hT _ (.inr (.inr (.inl rfl)))), h.found.kept hK (hT _ (.inr (.inr (.inr rfl)))), h.sum, h.apart⟩

set_option maxHeartbeats 2000000 in
theorem owner_deals (B K A F : Nat) (s t : Int) (w : World) (a : Int) (hist : List (Ow × Int)) (o : Ow) (k : Int) (hJ : JO B K A F s t w a hist) (h0 : 0 ≤ a) (h1 : a ≤ 1000000) (h2 : 0 ≤ k) (h3 : k ≤ 1000) :
    Calls Try.prog 37 #[Ow.v o, .int .i64 k, .pointer (some ⟨K, 0, none⟩), .pointer (some ⟨A, 0, none⟩), .pointer (some ⟨F, 0, none⟩)] w fun e w' => e = .returned (.int .i64 a) ∧ JO B K A F s t w' (a + k) (hist ++ [(o, k)]) ∧ Keeps (SO B K A F) w w' := by
  obtain ⟨W, hW⟩ : ∃ W, W = w.alloc (.cells #[.int .i64 o.kind, .int .i64 o.idx, .int .i64 o.port] 36) := ⟨_, rfl⟩
  obtain ⟨P, hP⟩ : ∃ P, P = w.heap.size := ⟨_, rfl⟩
  have hlt : B < P ∧ F < P := by rw [hP]; exact ⟨hJ.cnt.lt, hJ.found.lt⟩
  have HW : Hid (JO B K A F s t W a hist ∧ Blk W P o.vs 36 ∧ Keeps (SO B K A F) w W) := by
    rw [hW, hP]; exact ⟨hJ.kept ((Keeps.refl (fun _ => False) _).alloc _) (fun _ _ h => h), Blk.new _ _ _, (Keeps.refl _ _).alloc _⟩
  have HL : Hid (B < P ∧ F < P) := hlt
  have hent := (dl_count B).ent
  have c0 := HW.out.1.fn.cell (i := 0) rfl
  have p0 := HW.out.2.1.cell (i := 0) rfl
  have p1 := HW.out.2.1.cell (i := 1) rfl
  have p2 := HW.out.2.1.cell (i := 2) rfl
  clear hJ hlt
  go_enter Try.func37, Try.ntmps37
  go_upto_region 1 with fail
  rw [← hW, ← hP]
  clear hW hP
  go_wp2_with fail
  refine (count_any B o k a W HW.out.1.cnt h0 h1 h2 h3).mono ?_
  rintro e w1 ⟨rfl, hB1, hK1⟩
  have hap := HW.out.1.apart
  have HX : Hid (Blk w1 B [.int .i64 (a + k)] 3 ∧ Blk w1 K [.func (.func 44) #[] #[.pointer (some ⟨B, 0, none⟩)]] 82 ∧ Blk w1 A [.int .i64 t] 3 ∧ Blk w1 F (lastGo t s ⟨0, 0, 0⟩ hist).vs 36 ∧ Blk w1 P o.vs 36 ∧ Keeps (SO B K A F) w w1) :=
    ⟨hB1, HW.out.1.fn.kept hK1 (by omega), HW.out.1.word.kept hK1 (by omega), HW.out.1.found.kept hK1 (by omega), HW.out.2.1.kept hK1 (by have := HL.out; omega), HW.out.2.2.trans hK1 fun _ _ h => .inl h⟩
  have HA : Hid (a = s + sumK hist ∧ (B ≠ K ∧ B ≠ A ∧ B ≠ F ∧ K ≠ A ∧ K ≠ F ∧ A ≠ F)) := ⟨HW.out.1.sum, hap⟩
  clear hB1 hK1 hap HW c0 p0 p1 p2 hent
  have t0 := HX.out.2.2.1.cell (i := 0) rfl
  have p0 := HX.out.2.2.2.2.1.cell (i := 0) rfl
  have p1 := HX.out.2.2.2.2.1.cell (i := 1) rfl
  have p2 := HX.out.2.2.2.2.1.cell (i := 2) rfl
  have f0 := HX.out.2.2.2.1.frozen 0
  have f1 := HX.out.2.2.2.1.frozen 1
  have f2 := HX.out.2.2.2.1.frozen 2
  have a0 := HX.out.2.2.2.1.cell (i := 0) rfl
  have a1 := HX.out.2.2.2.1.cell (i := 1) rfl
  have a2 := HX.out.2.2.2.1.cell (i := 2) rfl
  have q1 : IntKind.i64.wrap (a + k) = a + k := by rw [IntKind.wrap_i64]; omega
  by_cases g1 : a ≤ t
  · have e1 : decide (a ≤ t) = true := by simp [g1]
    by_cases g2 : t < a + k
    · have e2 : decide (t < a + k) = true := by simp [g2]
      have HE : Hid (lastGo t s ⟨0, 0, 0⟩ (hist ++ [(o, k)]) = o) := by
        show _ = _; rw [lastGo_app, ← HA.out.1, if_pos ⟨g1, g2⟩]
      go_wp2
      go_ret
      obtain ⟨hB, hK3⟩ := set3 HX.out.2.2.2.1 (.int .i64 o.kind) (.int .i64 o.idx) (.int .i64 o.port)
      have hap := HA.out.2
      refine ⟨rfl, ⟨HX.out.1.kept hK3 (by omega), HX.out.2.1.kept hK3 (by omega), HX.out.2.2.1.kept hK3 (by omega), by rw [HE.out]; exact hB, by rw [sumK_app, HA.out.1]; omega, hap⟩, HX.out.2.2.2.2.2.trans hK3 fun _ _ h => .inr (.inr (.inr h))⟩
    · have e2 : decide (t < a + k) = false := by simp [g2]
      have HE : Hid (lastGo t s ⟨0, 0, 0⟩ (hist ++ [(o, k)]) = lastGo t s ⟨0, 0, 0⟩ hist) := by
        show _ = _; rw [lastGo_app, ← HA.out.1, if_neg (fun h => g2 h.2)]
      go_wp2
      go_ret
      have hap := HA.out.2
      refine ⟨rfl, ⟨HX.out.1, HX.out.2.1, HX.out.2.2.1, by rw [HE.out]; exact HX.out.2.2.2.1, by rw [sumK_app, HA.out.1]; omega, hap⟩, HX.out.2.2.2.2.2⟩
  · have e1 : decide (a ≤ t) = false := by simp [g1]
    have HE : Hid (lastGo t s ⟨0, 0, 0⟩ (hist ++ [(o, k)]) = lastGo t s ⟨0, 0, 0⟩ hist) := by
      show _ = _; rw [lastGo_app, ← HA.out.1, if_neg (fun h => g1 h.1)]
    go_wp2
    go_ret
    have hap := HA.out.2
    refine ⟨rfl, ⟨HX.out.1, HX.out.2.1, HX.out.2.2.1, by rw [HE.out]; exact HX.out.2.2.2.1, by rw [sumK_app, HA.out.1]; omega, hap⟩, HX.out.2.2.2.2.2⟩

theorem dl_owner (B K A F : Nat) (s t : Int) : Dl 37 #[.pointer (some ⟨K, 0, none⟩), .pointer (some ⟨A, 0, none⟩), .pointer (some ⟨F, 0, none⟩)] (SO B K A F) (JO B K A F s t) where
  ent := call_enter Try.func37 (by kernel_rfl) (by kernel_rfl)
  call := fun w a hist o k hJ h0 h1 h2 h3 => owner_deals B K A F s t w a hist o k hJ h0 h1 h2 h3
  kept := fun hJ hK hT => hJ.kept hK hT
end Go.Proofs.Ythaoopaafdgioab
