import Derived.Test.YtlnmlbkeemahcaaGreatRb
import Derived.Test.YtlnmlbkeemahcaaGreatM
namespace Go.Proofs.YtlnmlbkeemahcaaGreat
open Go.RowKit
set_option linter.unusedVariables false
set_option linter.unusedSimpArgs false
set_option maxRecDepth 6000
theorem endsL_len_succ {b : Bool} {n : Int} {ps : List Par} {i : Nat} {P : Par} (hP : ps[i]? = some P) : (endsL b n ps (i + 1)).length = (endsL b n ps i).length + (portsOf b n i P.ps P.ps.length).length := by
 rw [endsL_succ hP, List.length_append]
theorem whole_eq (h : Chn) : h.whole = (!(h.prtO == 0) && !(h.kind == 1 && !(h.depth == 0))) := by
 obtain ⟨k, n, d⟩ := h
 cases hs : Chn.sized ⟨k, n, d⟩ with
 | false => rw [Chn.prtO_no hs]; unfold Chn.whole; rw [hs]; rfl
 | true =>
  have h1 := Chn.sized_iff.1 hs
  have h2 := Chn.plc_bd hs
  have h3 : (Chn.prtO ⟨k, n, d⟩ == 0) = false := by rw [Chn.prtO_yes hs]; unfold Chn.prt; split <;> simp <;> omega
  rw [h3]
  unfold Chn.whole
  rw [hs]
  dsimp only at h1 ⊢
  by_cases hk : k = 2
  ·
   subst hk; simp
  ·
   obtain rfl : k = 1 := by omega
   simp
set_option maxHeartbeats 8000000 in
theorem rmay_any (x : Cfg) (w : World) (N : Nat) (hi : x.In w N) (hN : N ≤ w.heap.size) :
  Calls Tryz.prog 87 #[x.v] w fun e w' => e = .returned (.bool x.mayB) ∧ KF w w' := by
 obtain ⟨f, mj, kn, rm, ca, cc, cs, pa, pc, ps, qa, qc, qs⟩ := x
 have HO := One.mk' hi hN
 obtain ⟨W, hW⟩ : ∃ W, W = Cfg.laid w ⟨f, mj, kn, rm, ca, cc, cs, pa, pc, ps, qa, qc, qs⟩ := ⟨_, rfl⟩
 obtain ⟨C, hC⟩ : ∃ C, C = w.heap.size := ⟨_, rfl⟩
 rw [← hW, ← hC] at HO
 have HO : Hid (One w ⟨f, mj, kn, rm, ca, cc, cs, pa, pc, ps, qa, qc, qs⟩ C N W) := HO
 obtain ⟨L, hL⟩ : ∃ L, ps.length = L := ⟨_, rfl⟩
 obtain ⟨H, hH⟩ : ∃ H, qs.length = H := ⟨_, rfl⟩
 have HL : Hid (ps.length = L ∧ qs.length = H) := ⟨hL, hH⟩
 have hcc : (L : Int) ≤ pc ∧ (pc : Int) ≤ 9223372036854775807 := by have := hi.plen; unfold maxLen at this; dsimp only at this; omega
 have hqc : (H : Int) ≤ qc ∧ (qc : Int) ≤ 9223372036854775807 := by have := hi.hlen; unfold maxLen at this; dsimp only at this; omega
 simp only [Cfg.v, Cfg.laid, hL, hH] at hW ⊢
 have c2 : W.cell? ⟨C, 2, none⟩ = some (.int .i64 kn) := HO.out.cfg.cell (i := 2) rfl
 have c5 : W.cell? ⟨C, 5, none⟩ = some (.slice pa L pc) := by have := HO.out.cfg.cell (i := 5) rfl; rw [← hL]; exact this
 have c6 : W.cell? ⟨C, 6, none⟩ = some (.slice qa H qc) := by have := HO.out.cfg.cell (i := 6) rfl; rw [← hH]; exact this
 clear hi hN hL hH
 go_enter Tryz.func87, Tryz.ntmps87
 go_upto_region 1 with fail
 rw [← hW, ← hC]
 clear hW hC
 by_cases k1 : kn < 0
 ·
  have e1 : decide (kn < 0) = true := by simp [k1]
  have HM : Hid (Cfg.mayB ⟨f, mj, kn, rm, ca, cc, cs, pa, pc, ps, qa, qc, qs⟩ = false) := Cfg.mayB_no fun h => by have := h.1; dsimp only at this; omega
  go_wp2
  go_ret
  exact ⟨by rw [HM.out]; rfl, HO.out.keeps⟩
 have e1 : decide (kn < 0) = false := by simp [k1]
 by_cases k2 : 1024 ≤ kn
 ·
  have e2 : decide (1024 ≤ kn) = true := by simp [k2]
  have HM : Hid (Cfg.mayB ⟨f, mj, kn, rm, ca, cc, cs, pa, pc, ps, qa, qc, qs⟩ = false) := Cfg.mayB_no fun h => by have := h.2.1; dsimp only at this; omega
  go_wp2
  go_ret
  exact ⟨by rw [HM.out]; rfl, HO.out.keeps⟩
 have e2 : decide (1024 ≤ kn) = false := by simp [k2]
 by_cases k3 : 8 < L
 ·
  have e3 : decide (8 < (L : Int)) = true := by simp; omega
  have HM : Hid (Cfg.mayB ⟨f, mj, kn, rm, ca, cc, cs, pa, pc, ps, qa, qc, qs⟩ = false) := Cfg.mayB_no fun h => by have := h.2.2.1; dsimp only at this; have := HL.out.1; omega
  go_wp2
  go_ret
  exact ⟨by rw [HM.out]; rfl, HO.out.keeps⟩
 have e3 : decide (8 < (L : Int)) = false := by simp; omega
 by_cases k4 : 16 < H
 ·
  have e4 : decide (16 < (H : Int)) = true := by simp; omega
  have HM : Hid (Cfg.mayB ⟨f, mj, kn, rm, ca, cc, cs, pa, pc, ps, qa, qc, qs⟩ = false) := Cfg.mayB_no fun h => by have := h.2.2.2.1; dsimp only at this; have := HL.out.2; omega
  go_wp2
  go_ret
  exact ⟨by rw [HM.out]; rfl, HO.out.keeps⟩
 have e4 : decide (16 < (H : Int)) = false := by simp; omega
 go_wp2
 clear e1 e2 e3 e4 c2 c6
 go_loopw [32] (fun i wr => ∃ j : Nat, j ≤ L ∧ i = .int .i64 j ∧ (∀ P ∈ ps.take j, P.mayB H = true) ∧ One w ⟨f, mj, kn, rm, ca, cc, cs, pa, pc, ps, qa, qc, qs⟩ C N wr) (fun i _ => L - (intOf i).toNat)
 case atStart => exact ⟨0, by omega, rfl, by simp, HO.out⟩
 case round =>
  obtain ⟨j, hj, rfl, hall, hO⟩ := hrel
  clear c5
  by_cases hlt : j < L
  ·
   obtain ⟨X, hX⟩ : ∃ X, ps[j]? = some X := ⟨_, List.getElem?_eq_getElem (by have := HL.out.1; omega)⟩
   obtain ⟨g0, o0, e, hc⟩ := hO.cin.par hX
   dsimp only at e
   subst e
   have HK : Hid (One w ⟨f, mj, kn, rm, ca, cc, cs, some ⟨g0, o0, none⟩, pc, ps, qa, qc, qs⟩ C N wr ∧ (∀ P ∈ ps.take j, P.mayB H = true) ∧ ps[j]? = some X ∧ (∀ W', KF wr W' → Calls Tryz.prog 110 #[X.v, .int .i64 H] W' fun e w' => e = .returned (.bool (X.mayB H)) ∧ KF W' w')) :=
    ⟨hO, hall, hX, fun W' hK' => rmayPartition_any X H W' N ((hO.kept hK').cin.pin X (List.mem_of_getElem? hX)) (hO.kept hK').nn⟩
   have c5 : wr.cell? ⟨C, 5, none⟩ = some (.slice (some ⟨g0, o0, none⟩) L pc) := by have := hO.cfg.cell (i := 5) rfl; rw [← HL.out.1]; exact this
   have c6 : wr.cell? ⟨C, 6, none⟩ = some (.slice qa H qc) := by have := hO.cfg.cell (i := 6) rfl; rw [← HL.out.2]; exact this
   have p0 := hc 0 _ rfl
   rw [Nat.add_zero] at p0
   have p1 := hc 1 _ rfl
   have p2 := hc 2 _ rfl
   have p3 := hc 3 _ rfl
   have p4 := hc 4 _ rfl
   have p5 := hc 5 _ rfl
   have p6 := hc 6 _ rfl
   have p7 := hc 7 _ rfl
   clear hall hO hX hc
   go_wp2
   refine wp_region_held_drew (S := (fun w' => w'.cell? ⟨C, 5, none⟩ = some (.slice (some ⟨g0, o0, none⟩) L pc) ∧ w'.cell? ⟨C, 6, none⟩ = some (.slice qa H qc) ∧ w'.cell? ⟨g0, o0 + j * 8, none⟩ = some (.string X.name) ∧ w'.cell? ⟨g0, o0 + j * 8 + 1, none⟩ = some (.int .i64 X.entry) ∧ w'.cell? ⟨g0, o0 + j * 8 + 2, none⟩ = some (.int .i64 X.action) ∧ w'.cell? ⟨g0, o0 + j * 8 + 3, none⟩ = some (.int .i64 X.restarts) ∧ w'.cell? ⟨g0, o0 + j * 8 + 4, none⟩ = some (.int .i64 X.inputs) ∧ w'.cell? ⟨g0, o0 + j * 8 + 5, none⟩ = some (.int .i64 X.outputs) ∧ w'.cell? ⟨g0, o0 + j * 8 + 6, none⟩ = some (.slice X.ra X.rs.length X.rc) ∧ w'.cell? ⟨g0, o0 + j * 8 + 7, none⟩ = some (.slice X.pa X.ps.length X.pc))) Tryz.mixed ⟨c5, c6, p0, p1, p2, p3, p4, p5, p6, p7⟩ (fun hHeld => ?_)
   simp only [t1, t2, List.length_nil, Nat.reduceAdd, t4, Array.replicate_zero, t6, List.append_toArray, List.nil_append, t8]
   refine tk 0 (.pointer (some ⟨C, 5, none⟩)) hHeld ?_
   refine tk 1 (.slice (some ⟨g0, o0, none⟩) L pc) hHeld ?_
   refine tk 2 (.int .i64 j) hHeld ?_
   refine tk 3 (.pointer (some ⟨g0, o0 + j * 8, none⟩)) hHeld ?_
   refine tk 4 (.agg #[.string X.name, .int .i64 X.entry, .int .i64 X.action, .int .i64 X.restarts, .int .i64 X.inputs, .int .i64 X.outputs, .slice X.ra X.rs.length X.rc, .slice X.pa X.ps.length X.pc]) hHeld ?_
   refine tk 5 (.pointer (some ⟨C, 6, none⟩)) hHeld ?_
   refine tk 6 (.slice qa H qc) hHeld ?_
   refine tk 7 (.int .i64 H) hHeld ?_
   simp only [Act.put, s1, s2, s3]
   refine rd 8 fun K hK => ?_
   go_simp
   refine (HK.out.2.2.2 _ ((Keeps.refl _ _).drew)).mono ?_
   rintro r w1 ⟨rfl, hK1⟩
   have hO1 := HK.out.1.kept (((Keeps.refl _ _).drew).trans hK1 fun _ _ h => h)
   have HO1 : Hid (One w ⟨f, mj, kn, rm, ca, cc, cs, some ⟨g0, o0, none⟩, pc, ps, qa, qc, qs⟩ C N w1) := hO1
   have hS1 : w1.cell? ⟨C, 5, none⟩ = some (.slice (some ⟨g0, o0, none⟩) L pc) ∧ w1.cell? ⟨C, 6, none⟩ = some (.slice qa H qc) ∧ w1.cell? ⟨g0, o0 + j * 8, none⟩ = some (.string X.name) ∧ w1.cell? ⟨g0, o0 + j * 8 + 1, none⟩ = some (.int .i64 X.entry) ∧ w1.cell? ⟨g0, o0 + j * 8 + 2, none⟩ = some (.int .i64 X.action) ∧ w1.cell? ⟨g0, o0 + j * 8 + 3, none⟩ = some (.int .i64 X.restarts) ∧ w1.cell? ⟨g0, o0 + j * 8 + 4, none⟩ = some (.int .i64 X.inputs) ∧ w1.cell? ⟨g0, o0 + j * 8 + 5, none⟩ = some (.int .i64 X.outputs) ∧ w1.cell? ⟨g0, o0 + j * 8 + 6, none⟩ = some (.slice X.ra X.rs.length X.rc) ∧ w1.cell? ⟨g0, o0 + j * 8 + 7, none⟩ = some (.slice X.pa X.ps.length X.pc) := by
    obtain ⟨gg, oo, e, hc⟩ := hO1.cin.par HK.out.2.2.1
    dsimp only at e
    cases e
    have g5 := hO1.cfg.cell (i := 5) rfl
    have g6 := hO1.cfg.cell (i := 6) rfl
    dsimp only at g5 g6
    rw [HL.out.1] at g5
    rw [HL.out.2] at g6
    have p0 := hc 0 _ rfl
    rw [Nat.add_zero] at p0
    exact ⟨g5, g6, p0, hc 1 _ rfl, hc 2 _ rfl, hc 3 _ rfl, hc 4 _ rfl, hc 5 _ rfl, hc 6 _ rfl, hc 7 _ rfl⟩
   clear hK1 hO1
   obtain ⟨b, hb⟩ : ∃ b, X.mayB H = b := ⟨_, rfl⟩
   rw [hb]
   have HB : Hid (X.mayB H = b) := hb
   clear hb
   refine hK.out _ _ hS1 (fun hHeld => ?_)
   simp only [Act.put, s1, s2, s3]
   cases b with
   | false =>
    refine tk 9 (.bool true) hHeld ?_
    simp only [Act.put, s1, s2, s3]
    refine wpAnyH_done (by kernel_rfl) ?_ _
    clear hS1 hHeld hK c5 c6 p0 p1 p2 p3 p4 p5 p6 p7
    have HM : Hid (Cfg.mayB ⟨f, mj, kn, rm, ca, cc, cs, some ⟨g0, o0, none⟩, pc, ps, qa, qc, qs⟩ = false) := Cfg.mayB_no fun h => by
     have := h.2.2.2.2.1 X (List.mem_of_getElem? HK.out.2.2.1)
     dsimp only at this
     rw [HL.out.2, HB.out] at this
     cases this
    go_wp2
    go_ret
    exact ⟨by rw [HM.out]; rfl, HO1.out.keeps⟩
   | true =>
    refine tk 9 (.bool false) hHeld ?_
    simp only [Act.put, s1, s2, s3]
    refine wpAnyH_done (by kernel_rfl) ?_ _
    clear hS1 hHeld hK c5 c6 p0 p1 p2 p3 p4 p5 p6 p7
    go_wp2
    go_roundw
    case rel => exact ⟨j + 1, by omega, by go_num, take_mem HK.out.2.2.1 HK.out.2.1 HB.out, HO1.out⟩
    case measure => simp [intOf]; omega
  ·
   obtain rfl : L = j := by omega
   rw [List.take_of_length_le (by have := HL.out.1; omega)] at hall
   have HR : Hid ((∀ P ∈ ps, P.mayB H = true) ∧ One w ⟨f, mj, kn, rm, ca, cc, cs, pa, pc, ps, qa, qc, qs⟩ C N wr) := ⟨hall, hO⟩
   have c6 : wr.cell? ⟨C, 6, none⟩ = some (.slice qa H qc) := by have := HR.out.2.cfg.cell (i := 6) rfl; rw [← HL.out.2]; exact this
   clear hall hO HO
   obtain ⟨wA, hwA⟩ : ∃ wA, wA = wr := ⟨_, rfl⟩
   subst hwA
   go_wp2
   go_loopw [49] (fun i wr => ∃ j : Nat, j ≤ H ∧ i = .int .i64 j ∧ (∀ n, n < j → chnB ps qs n = true) ∧ One w ⟨f, mj, kn, rm, ca, cc, cs, pa, pc, ps, qa, qc, qs⟩ C N wr) (fun i _ => H - (intOf i).toNat)
   case atStart => exact ⟨0, by omega, rfl, fun n hn => by omega, HR.out.2⟩
   case round =>
    obtain ⟨i, hi, rfl, hall, hO⟩ := hrel
    clear c6
    obtain ⟨wB, hwB⟩ : ∃ wB, wB = wr := ⟨_, rfl⟩
    subst hwB
    by_cases hlq : i < H
    ·
     obtain ⟨y, hy⟩ : ∃ y, qs[i]? = some y := ⟨_, List.getElem?_eq_getElem (by have := HL.out.2; omega)⟩
     have c6 : wB.cell? ⟨C, 6, none⟩ = some (.slice qa H qc) := by have := hO.cfg.cell (i := 6) rfl; rw [← HL.out.2]; exact this
     obtain ⟨g1, o1, e, hg1⟩ := hO.cin.chn hy
     dsimp only at e
     subst e
     have y0 := hg1 0 _ rfl
     rw [Nat.add_zero] at y0
     have y1 := hg1 1 _ rfl
     have y2 := hg1 2 _ rfl
     obtain ⟨W1, hW1⟩ : ∃ W1, W1 = wB.alloc (.cells #[.int .i64 y.kind, .int .i64 y.words, .int .i64 y.depth] 48) := ⟨_, rfl⟩
     obtain ⟨D, hD⟩ : ∃ D, D = wB.heap.size := ⟨_, rfl⟩
     have HK : Hid (One w ⟨f, mj, kn, rm, ca, cc, cs, pa, pc, ps, some ⟨g1, o1, none⟩, qc, qs⟩ C N W1 ∧ (∀ n, n < i → chnB ps qs n = true) ∧ qs[i]? = some y ∧ Blk W1 D y.vs 48) := by
      refine ⟨?_, hall, hy, by rw [hW1, hD]; exact Blk.new _ _ _⟩
      rw [hW1]; exact hO.kept ((Keeps.refl _ _).alloc _)
     clear hall hO hy hg1
     go_upto_region 13 with fail
     rw [← hW1, ← hD]
     clear hW1 hD y0 y1 y2 c6
     have HC : Hid (Calls Tryz.prog 111 #[y.v] W1 fun e w' => e = .returned (.int .i64 y.prtO) ∧ KF W1 w') := rPort_any y W1
     go_cut [69] from 57 to 70 (fun t wx => t = .bool (!y.whole) ∧ One w ⟨f, mj, kn, rm, ca, cc, cs, pa, pc, ps, some ⟨g1, o1, none⟩, qc, qs⟩ C N wx)
     case first =>
      have d0 := HK.out.2.2.2.cell (i := 0) rfl
      have d1 := HK.out.2.2.2.cell (i := 1) rfl
      have d2 := HK.out.2.2.2.cell (i := 2) rfl
      go_wp2_with fail
      refine HC.out.mono ?_
      rintro e w1 ⟨rfl, hK⟩
      have HO1 : Hid (One w ⟨f, mj, kn, rm, ca, cc, cs, pa, pc, ps, some ⟨g1, o1, none⟩, qc, qs⟩ C N w1 ∧ Blk w1 D y.vs 48) := ⟨HK.out.1.kept hK, HK.out.2.2.2.kept hK fun h => h⟩
      clear hK HC d0 d1 d2
      have d0 := HO1.out.2.cell (i := 0) rfl
      have d2 := HO1.out.2.cell (i := 2) rfl
      have HWH : Hid (y.whole = (!(y.prtO == 0) && !(y.kind == 1 && !(y.depth == 0)))) := whole_eq y
      obtain ⟨PO, hPO⟩ : ∃ PO, y.prtO = PO := ⟨_, rfl⟩
      rw [hPO] at HWH ⊢
      clear hPO
      by_cases z1 : PO = 0
      ·
       subst z1
       go_wp2_with fail
       go_meet
       exact ⟨by rw [HWH.out]; rfl, HO1.out.1⟩
      have f1 : (PO == 0) = false := by simp [z1]
      by_cases z2 : y.kind = 1
      ·
       have f2 : (y.kind == 1) = true := by simp [z2]
       by_cases z3 : y.depth = 0
       ·
        have f3 : (y.depth != 0) = false := by simp [z3]
        have f3' : (y.depth == 0) = true := by simp [z3]
        clear z2 z3
        go_wp2_with fail
        go_meet
        exact ⟨by rw [HWH.out, f1, f2, f3']; rfl, HO1.out.1⟩
       ·
        have f3 : (y.depth != 0) = true := by simp [z3]
        have f3' : (y.depth == 0) = false := by simp [z3]
        clear z2
        go_wp2_with fail
        go_meet
        exact ⟨by rw [HWH.out, f1, f2, f3']; rfl, HO1.out.1⟩
      ·
       have f2 : (y.kind == 1) = false := by simp [z2]
       go_wp2_with fail
       go_meet
       exact ⟨by rw [HWH.out, f1, f2]; rfl, HO1.out.1⟩
     obtain ⟨rfl, hO2⟩ := hcut
     have HO2 : Hid (One w ⟨f, mj, kn, rm, ca, cc, cs, pa, pc, ps, some ⟨g1, o1, none⟩, qc, qs⟩ C N wc) := hO2
     clear hO2 HC
     obtain ⟨b, hb⟩ : ∃ b, y.whole = b := ⟨_, rfl⟩
     rw [hb]
     have HB : Hid (y.whole = b) := hb
     clear hb
     cases b with
     | false =>
      have HM : Hid (Cfg.mayB ⟨f, mj, kn, rm, ca, cc, cs, pa, pc, ps, some ⟨g1, o1, none⟩, qc, qs⟩ = false) := Cfg.mayB_no fun h => by
       have := h.2.2.2.2.2 i (by dsimp only; have := HL.out.2; omega)
       dsimp only at this
       rw [chnB_some HK.out.2.2.1, HB.out] at this
       cases this
      go_wp2
      go_ret
      exact ⟨by rw [HM.out]; rfl, HO2.out.keeps⟩
     | true =>
      rw [show (!true) = false from rfl]
      have c5 : wc.cell? ⟨C, 5, none⟩ = some (.slice pa L pc) := by have := HO2.out.cfg.cell (i := 5) rfl; rw [← HL.out.1]; exact this
      go_wp2
      go_loopw [6, 7, 73] (fun u v i' wr => ∃ j : Nat, j ≤ L ∧ i' = .int .i64 j ∧ u = .int .i64 (endsL true i ps j).length ∧ v = .int .i64 (endsL false i ps j).length ∧ One w ⟨f, mj, kn, rm, ca, cc, cs, pa, pc, ps, some ⟨g1, o1, none⟩, qc, qs⟩ C N wr) (fun _ _ i' _ => L - (intOf i').toNat)
      case atStart => exact ⟨0, by omega, rfl, rfl, rfl, HO2.out⟩
      case round =>
       obtain ⟨j, hj, rfl, rfl, rfl, hO⟩ := hrel
       clear c5
       by_cases hlt : j < L
       ·
        obtain ⟨X, hX⟩ : ∃ X, ps[j]? = some X := ⟨_, List.getElem?_eq_getElem (by have := HL.out.1; omega)⟩
        obtain ⟨g0, o0, e, hc⟩ := hO.cin.par hX
        dsimp only at e
        subst e
        have h8 : X.ps.length ≤ 8 := (Par.mayB_iff.1 (HR.out.1 X (List.mem_of_getElem? hX))).2.1
        have HX : Hid (One w ⟨f, mj, kn, rm, ca, cc, cs, some ⟨g0, o0, none⟩, pc, ps, some ⟨g1, o1, none⟩, qc, qs⟩ C N wr ∧ ps[j]? = some X ∧ (∀ b W', KF wr W' → Calls Tryz.prog 112 #[X.v, .int .i64 i, .bool b] W' fun e w' => e = .returned (.int .i64 (portsOf b i j X.ps X.ps.length).length) ∧ KF W' w')) :=
         ⟨hO, hX, fun b W' hK' => rends_any X i b j W' N ((hO.kept hK').cin.pin X (List.mem_of_getElem? hX)) (hO.kept hK').nn h8⟩
        have c5 : wr.cell? ⟨C, 5, none⟩ = some (.slice (some ⟨g0, o0, none⟩) L pc) := by have := hO.cfg.cell (i := 5) rfl; rw [← HL.out.1]; exact this
        have p0 := hc 0 _ rfl
        rw [Nat.add_zero] at p0
        have p1 := hc 1 _ rfl
        have p2 := hc 2 _ rfl
        have p3 := hc 3 _ rfl
        have p4 := hc 4 _ rfl
        have p5 := hc 5 _ rfl
        have p6 := hc 6 _ rfl
        have p7 := hc 7 _ rfl
        have hb1 := endsL_len (b := true) (n := i) (ps := ps) (fun P hP => (Par.mayB_iff.1 (HR.out.1 P hP)).2.1) j
        have hb2 := endsL_len (b := false) (n := i) (ps := ps) (fun P hP => (Par.mayB_iff.1 (HR.out.1 P hP)).2.1) j
        have hb3 := portsOf_len true i j X.ps X.ps.length
        have hb4 := portsOf_len false i j X.ps X.ps.length
        have HE1 : Hid ((endsL true i ps (j + 1)).length = (endsL true i ps j).length + (portsOf true i j X.ps X.ps.length).length) := endsL_len_succ hX
        have HE2 : Hid ((endsL false i ps (j + 1)).length = (endsL false i ps j).length + (portsOf false i j X.ps X.ps.length).length) := endsL_len_succ hX
        obtain ⟨A1, hA1⟩ : ∃ A, (endsL true i ps j).length = A := ⟨_, rfl⟩
        obtain ⟨A2, hA2⟩ : ∃ A, (endsL false i ps j).length = A := ⟨_, rfl⟩
        obtain ⟨B1, hB1⟩ : ∃ A, (portsOf true i j X.ps X.ps.length).length = A := ⟨_, rfl⟩
        obtain ⟨B2, hB2⟩ : ∃ A, (portsOf false i j X.ps X.ps.length).length = A := ⟨_, rfl⟩
        rw [hA1, hB1] at HE1
        rw [hA2, hB2] at HE2
        rw [hA1] at hb1 ⊢
        rw [hA2] at hb2 ⊢
        rw [hB1] at hb3
        rw [hB2] at hb4
        have v1 : IntKind.i64.wrap ((A1 : Int) + B1) = (A1 : Int) + B1 := by rw [IntKind.wrap_i64]; omega
        have v2 : IntKind.i64.wrap ((A2 : Int) + B2) = (A2 : Int) + B2 := by rw [IntKind.wrap_i64]; omega
        have HBB : Hid ((portsOf true i j X.ps X.ps.length).length = B1 ∧ (portsOf false i j X.ps X.ps.length).length = B2) := ⟨hB1, hB2⟩
        clear hO hX hc hb1 hb2 hb3 hb4 hA1 hA2 hB1 hB2 h8
        go_wp2_with fail
        refine (HX.out.2.2 true wr (Keeps.refl _ _)).mono ?_
        rintro e w4 ⟨rfl, hK⟩
        rw [HBB.out.1]
        have HO4 : Hid (One w ⟨f, mj, kn, rm, ca, cc, cs, some ⟨g0, o0, none⟩, pc, ps, some ⟨g1, o1, none⟩, qc, qs⟩ C N w4 ∧ KF wr w4) := ⟨HX.out.1.kept hK, hK⟩
        clear hK c5 p0 p1 p2 p3 p4 p5 p6 p7
        have c5 : w4.cell? ⟨C, 5, none⟩ = some (.slice (some ⟨g0, o0, none⟩) L pc) := by have := HO4.out.1.cfg.cell (i := 5) rfl; rw [← HL.out.1]; exact this
        obtain ⟨gg, oo, e, hc⟩ := HO4.out.1.cin.par HX.out.2.1
        dsimp only at e
        cases e
        have p0 := hc 0 _ rfl
        rw [Nat.add_zero] at p0
        have p1 := hc 1 _ rfl
        have p2 := hc 2 _ rfl
        have p3 := hc 3 _ rfl
        have p4 := hc 4 _ rfl
        have p5 := hc 5 _ rfl
        have p6 := hc 6 _ rfl
        have p7 := hc 7 _ rfl
        clear hc
        go_wp2_with fail
        refine (HX.out.2.2 false w4 HO4.out.2).mono ?_
        rintro e w5 ⟨rfl, hK⟩
        rw [HBB.out.2]
        have HO5 : Hid (One w ⟨f, mj, kn, rm, ca, cc, cs, some ⟨g0, o0, none⟩, pc, ps, some ⟨g1, o1, none⟩, qc, qs⟩ C N w5) := HO4.out.1.kept hK
        clear hK c5 p0 p1 p2 p3 p4 p5 p6 p7
        go_wp2
        go_roundw
        case rel => exact ⟨j + 1, by omega, by go_num, by rw [HE1.out]; rfl, by rw [HE2.out]; rfl, HO5.out⟩
        case measure => simp [intOf]; omega
       ·
        obtain rfl : L = j := by omega
        have HZ : Hid (One w ⟨f, mj, kn, rm, ca, cc, cs, pa, pc, ps, some ⟨g1, o1, none⟩, qc, qs⟩ C N wr) := hO
        clear hO
        obtain ⟨A1, hA1⟩ : ∃ A, (endsL true i ps L).length = A := ⟨_, rfl⟩
        obtain ⟨A2, hA2⟩ : ∃ A, (endsL false i ps L).length = A := ⟨_, rfl⟩
        have HJ : Hid (joined i ps = (decide (A1 = 1) && decide (1 ≤ A2) && decide (A2 ≤ 4))) := by show _ = _; unfold joined; rw [HL.out.1, hA1, hA2]
        rw [hA1, hA2]
        clear hA1 hA2
        have no : joined i ps = false → Hid (Cfg.mayB ⟨f, mj, kn, rm, ca, cc, cs, pa, pc, ps, some ⟨g1, o1, none⟩, qc, qs⟩ = false) := fun hw => Cfg.mayB_no fun h => by
         have := h.2.2.2.2.2 i (by dsimp only; have := HL.out.2; omega)
         dsimp only at this
         rw [chnB_some HK.out.2.2.1, HB.out, hw] at this
         cases this
        by_cases h1 : A1 = 1
        ·
         subst h1
         by_cases h2 : A2 < 1
         ·
          have f2 : decide ((A2 : Int) < 1) = true := by simp; omega
          have HM := no (by rw [HJ.out]; simp; omega)
          clear no
          go_wp2
          go_ret
          exact ⟨by rw [HM.out]; rfl, HZ.out.keeps⟩
         ·
          have f2 : decide ((A2 : Int) < 1) = false := by simp; omega
          by_cases h3 : 4 < A2
          ·
           have f3 : decide (4 < (A2 : Int)) = true := by simp; omega
           have HM := no (by rw [HJ.out]; simp; omega)
           clear no
           go_wp2
           go_ret
           exact ⟨by rw [HM.out]; rfl, HZ.out.keeps⟩
          ·
           have f3 : decide (4 < (A2 : Int)) = false := by simp; omega
           have HJ2 : Hid (joined i ps = true) := by show _ = _; rw [HJ.out]; simp; omega
           clear no
           go_wp2
           go_roundw
           case rel =>
            refine ⟨i + 1, by omega, by go_num, fun n hn => ?_, HZ.out⟩
            by_cases e : n = i
            ·
             rw [e, chnB_some HK.out.2.2.1, HB.out, HJ2.out]; rfl
            ·
             exact HK.out.2.1 n (by omega)
           case measure => simp [intOf]; omega
        ·
         have f1 : ((A1 : Int) == 1) = false := by simp; omega
         have f1' : ((A1 : Int) != 1) = true := by simp; omega
         have HM := no (by rw [HJ.out]; simp [h1])
         clear no
         go_wp2
         go_ret
         exact ⟨by rw [HM.out]; rfl, HZ.out.keeps⟩
    ·
     obtain rfl : H = i := by omega
     have HM : Hid (Cfg.mayB ⟨f, mj, kn, rm, ca, cc, cs, pa, pc, ps, qa, qc, qs⟩ = true ∧ KF w wB) :=
      ⟨Cfg.mayB_iff.2 ⟨by dsimp only; omega, by dsimp only; omega, by dsimp only; have := HL.out.1; omega, by dsimp only; have := HL.out.2; omega, by dsimp only; rw [HL.out.2]; exact HR.out.1, by dsimp only; rw [HL.out.2]; exact hall⟩, hO.keeps⟩
     clear hall hO
     go_wp2
     go_ret
     exact ⟨by rw [HM.out.1]; rfl, HM.out.2⟩
set_option maxHeartbeats 4000000 in
theorem touches_any (X : Par) (t : Nat) (w : World) (N : Nat) (hi : X.In w N) (hN : N ≤ w.heap.size) (hall : ∀ r ∈ X.rs, r.inB = true) (ht : t < 16) :
  Calls Tryz.prog 114 #[X.v, .int .i64 t] w fun e w' => e = .returned (.bool (hasT X.rs t)) ∧ KF w w' := by
 obtain ⟨nm, en, ac, re, inp, ou, ra, rc, rs, pa, pc, ps⟩ := X
 obtain ⟨W, hW⟩ : ∃ W, W = Par.laid w ⟨nm, en, ac, re, inp, ou, ra, rc, rs, pa, pc, ps⟩ := ⟨_, rfl⟩
 obtain ⟨C, hC⟩ : ∃ C, C = w.heap.size := ⟨_, rfl⟩
 have HO : Hid (OneP w ⟨nm, en, ac, re, inp, ou, ra, rc, rs, pa, pc, ps⟩ C N W) := by rw [hW, hC]; exact OneP.mk' hi hN
 obtain ⟨R, hR⟩ : ∃ R, rs.length = R := ⟨_, rfl⟩
 have HL : Hid (rs.length = R ∧ ∀ r ∈ rs, r.inB = true) := ⟨hR, hall⟩
 have hrc : (R : Int) ≤ rc ∧ (rc : Int) ≤ 9223372036854775807 := by have := hi.rlen; unfold maxLen at this; dsimp only at this; omega
 simp only [Par.v, Par.laid, hR] at hW ⊢
 have c6 : W.cell? ⟨C, 6, none⟩ = some (.slice ra R rc) := by have := HO.out.cfg.cell (i := 6) rfl; rw [← hR]; exact this
 clear hi hN hR hall
 go_enter Tryz.func114, Tryz.ntmps114
 go_upto_region 1 with fail
 rw [← hW, ← hC]
 clear hW hC
 go_wp2
 go_loopw [11] (fun i wr => ∃ j : Nat, j ≤ R ∧ i = .int .i64 j ∧ hasT (rs.take j) t = false ∧ OneP w ⟨nm, en, ac, re, inp, ou, ra, rc, rs, pa, pc, ps⟩ C N wr) (fun i _ => R - (intOf i).toNat)
 case atStart => exact ⟨0, by omega, rfl, rfl, HO.out⟩
 case round =>
  obtain ⟨j, hj, rfl, hno, hO⟩ := hrel
  clear c6
  by_cases hlt : j < R
  ·
   obtain ⟨y, hy⟩ : ∃ y, rs[j]? = some y := ⟨_, List.getElem?_eq_getElem (by have := HL.out.1; omega)⟩
   have c6 : wr.cell? ⟨C, 6, none⟩ = some (.slice ra R rc) := by have := hO.cfg.cell (i := 6) rfl; rw [← HL.out.1]; exact this
   obtain ⟨g1, o1, e, hg1⟩ := hO.cin.rseg.at hy
   dsimp only at e
   subst e
   have y0 := hg1 0 _ rfl
   rw [Nat.add_zero] at y0
   have y1 := hg1 1 _ rfl
   have hin := Rgn.inB_iff.1 (HL.out.2 y (List.mem_of_getElem? hy))
   have HK : Hid (OneP w ⟨nm, en, ac, re, inp, ou, some ⟨g1, o1, none⟩, rc, rs, pa, pc, ps⟩ C N wr ∧ hasT (rs.take j) t = false ∧ rs[j]? = some y) := ⟨hO, hno, hy⟩
   clear hno hO hy hg1
   have v1 : IntKind.i64.wrap (y.page + y.pages) = y.page + y.pages := by rw [IntKind.wrap_i64]; omega
   have v2 : IntKind.i64.wrap (y.page + y.pages - 1) = y.page + y.pages - 1 := by rw [IntKind.wrap_i64]; omega
   have v3 : y.page.tdiv 16 = y.page / 16 := Int.tdiv_eq_ediv_of_nonneg hin.1
   have v4 : (y.page + y.pages - 1).tdiv 16 = (y.page + y.pages - 1) / 16 := Int.tdiv_eq_ediv_of_nonneg (by omega)
   have v5 : IntKind.i64.wrap (y.page / 16) = y.page / 16 := by rw [IntKind.wrap_i64]; omega
   have v6 : IntKind.i64.wrap ((y.page + y.pages - 1) / 16) = (y.page + y.pages - 1) / 16 := by rw [IntKind.wrap_i64]; omega
   by_cases c1 : y.page / 16 ≤ t
   ·
    have e1 : decide (y.page / 16 ≤ (t : Int)) = true := by simp [c1]
    by_cases c2 : (t : Int) ≤ (y.page + y.pages - 1) / 16
    ·
     have e2 : decide ((t : Int) ≤ (y.page + y.pages - 1) / 16) = true := by simp [c2]
     have HY : Hid (hasT rs t = true) := List.any_eq_true.2 ⟨y, List.mem_of_getElem? HK.out.2.2, by unfold Rgn.hit; simp; omega⟩
     clear hin
     go_wp2
     go_ret
     exact ⟨by rw [HY.out]; rfl, HK.out.1.keeps⟩
    ·
     have e2 : decide ((t : Int) ≤ (y.page + y.pages - 1) / 16) = false := by simp [c2]
     have HY : Hid (Rgn.hit t y = false) := by show _ = _; unfold Rgn.hit; simp; omega
     clear hin
     go_wp2
     go_roundw
     case rel => exact ⟨j + 1, by omega, by go_num, hasT_next HK.out.2.2 HK.out.2.1 HY.out, HK.out.1⟩
     case measure => simp [intOf]; omega
   ·
    have e1 : decide (y.page / 16 ≤ (t : Int)) = false := by simp [c1]
    have HY : Hid (Rgn.hit t y = false) := by show _ = _; unfold Rgn.hit; simp; omega
    clear hin
    go_wp2
    go_roundw
    case rel => exact ⟨j + 1, by omega, by go_num, hasT_next HK.out.2.2 HK.out.2.1 HY.out, HK.out.1⟩
    case measure => simp [intOf]; omega
  ·
   obtain rfl : R = j := by omega
   have HK : Hid (OneP w ⟨nm, en, ac, re, inp, ou, ra, rc, rs, pa, pc, ps⟩ C N wr ∧ hasT rs t = false) := by
    rw [List.take_of_length_le (by have := HL.out.1; omega)] at hno
    exact ⟨hO, hno⟩
   clear hno hO
   go_wp2
   go_ret
   exact ⟨by rw [HK.out.2]; rfl, HK.out.1.keeps⟩
end Go.Proofs.YtlnmlbkeemahcaaGreat
