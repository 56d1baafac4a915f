import Derived.Test.YthaoopaafdgioabI
namespace Go.Proofs.Ythaoopaafdgioab
open Go.RowKit
set_option linter.unusedVariables false
set_option maxRecDepth 6000

/-- The channel n can be laid out. -/
def chnB (ps : List Par) (hs : List Chn) (n : Nat) : Bool := match hs[n]? with | some h => h.whole && joined n ps | none => true
/-- A configuration that can be laid out. -/
def Cfg.mayB (x : Cfg) : Bool := decide (0 ≤ x.kernel) && decide (x.kernel < 1024) && decide (x.ps.length ≤ 8) && decide (x.hs.length ≤ 16) && x.ps.all (Par.mayB x.hs.length) && (List.range x.hs.length).all (chnB x.ps x.hs)
theorem Cfg.mayB_iff {x : Cfg} : x.mayB = true ↔ (0 ≤ x.kernel ∧ x.kernel < 1024 ∧ x.ps.length ≤ 8 ∧ x.hs.length ≤ 16 ∧ (∀ P ∈ x.ps, P.mayB x.hs.length = true) ∧ ∀ n, n < x.hs.length → chnB x.ps x.hs n = true) := by
  unfold Cfg.mayB; simp [and_assoc]
theorem Cfg.mayB_no {x : Cfg} (hn : ¬ (0 ≤ x.kernel ∧ x.kernel < 1024 ∧ x.ps.length ≤ 8 ∧ x.hs.length ≤ 16 ∧ (∀ P ∈ x.ps, P.mayB x.hs.length = true) ∧ ∀ n, n < x.hs.length → chnB x.ps x.hs n = true)) : Hid (x.mayB = false) := by
  show x.mayB = false
  rw [Bool.eq_false_iff, Ne, Cfg.mayB_iff]; exact hn
theorem chnB_some {ps : List Par} {hs : List Chn} {n : Nat} {h : Chn} (hh : hs[n]? = some h) : chnB ps hs n = (h.whole && joined n ps) := by unfold chnB; rw [hh]

theorem isJoined_v (f mj kn rm : Int) (ca : Option Addr) (cc : Nat) (cs : List Core) (pa : Option Addr) (pc : Nat) (ps : List Par) (qa : Option Addr) (qc : Nat) (qs : List Chn) (L H : Nat) (hL : ps.length = L) (hH : qs.length = H) (n : Int) (w : World) (N : Nat)
    (hi : Cfg.In w N ⟨f, mj, kn, rm, ca, cc, cs, pa, pc, ps, qa, qc, qs⟩) (hN : N ≤ w.heap.size) (h1 : ps.length ≤ 8) (h2 : ∀ P ∈ ps, P.ps.length ≤ 8) :
    Calls Try.prog 36 #[.agg #[.int .i64 f, .int .i64 mj, .int .i64 kn, .int .i64 rm, .slice ca cs.length cc, .slice pa L pc, .slice qa H qc], .int .i64 n] w fun e w' => e = .returned (.bool (joined n ps)) ∧ Keeps (fun _ => False) w w' := by
  subst hL hH
  exact isJoined_any ⟨f, mj, kn, rm, ca, cc, cs, pa, pc, ps, qa, qc, qs⟩ n w N hi hN ⟨h1, h2⟩

set_option maxHeartbeats 4000000 in
theorem canLie_any (x : Cfg) (w : World) (N : Nat) (hi : x.In w N) (hN : N ≤ w.heap.size) :
    Calls Try.prog 19 #[x.v] w fun e w' => e = .returned (.bool x.mayB) ∧ Keeps (fun _ => False) w w' := by
  obtain ⟨f, mj, kn, rm, ca, cc, cs, pa, pc, ps, qa, qc, qs⟩ := x
  have HO := One.mk' hi hN
  obtain ⟨W, hW⟩ : ∃ W, W = Cfg.laid w ⟨f, mj, kn, rm, ca, cc, cs, pa, pc, ps, qa, qc, qs⟩ := ⟨_, rfl⟩
  obtain ⟨C, hC⟩ : ∃ C, C = w.heap.size := ⟨_, rfl⟩
  rw [← hW, ← hC] at HO
  have HO : Hid (One w ⟨f, mj, kn, rm, ca, cc, cs, pa, pc, ps, qa, qc, qs⟩ C N W) := HO
  obtain ⟨L, hL⟩ : ∃ L, ps.length = L := ⟨_, rfl⟩
  obtain ⟨H, hH⟩ : ∃ H, qs.length = H := ⟨_, rfl⟩
  have HL : Hid (ps.length = L ∧ qs.length = H) := ⟨hL, hH⟩
  have hcc : (L : Int) ≤ pc ∧ (pc : Int) ≤ 9223372036854775807 := by have := hi.plen; unfold maxLen at this; dsimp only at this; omega
  have hqc : (H : Int) ≤ qc ∧ (qc : Int) ≤ 9223372036854775807 := by have := hi.hlen; unfold maxLen at this; dsimp only at this; omega
  simp only [Cfg.v, Cfg.laid, hL, hH] at hW ⊢
  have c2 : W.cell? ⟨C, 2, none⟩ = some (.int .i64 kn) := HO.out.cfg.cell (i := 2) rfl
  have c5 : W.cell? ⟨C, 5, none⟩ = some (.slice pa L pc) := by have := HO.out.cfg.cell (i := 5) rfl; rw [← hL]; exact this
  have c6 : W.cell? ⟨C, 6, none⟩ = some (.slice qa H qc) := by have := HO.out.cfg.cell (i := 6) rfl; rw [← hH]; exact this
  clear hi hN hL hH
  go_enter Try.func19, Try.ntmps19
  go_upto_region 1 with fail
  rw [← hW, ← hC]
  clear hW hC
  by_cases k1 : kn < 0
  · have e1 : decide (kn < 0) = true := by simp [k1]
    have HM : Hid (Cfg.mayB ⟨f, mj, kn, rm, ca, cc, cs, pa, pc, ps, qa, qc, qs⟩ = false) := Cfg.mayB_no fun h => by have := h.1; dsimp only at this; omega
    go_wp2
    go_ret
    exact ⟨by rw [HM.out]; rfl, HO.out.keeps⟩
  have e1 : decide (kn < 0) = false := by simp [k1]
  by_cases k2 : 1024 ≤ kn
  · have e2 : decide (1024 ≤ kn) = true := by simp [k2]
    have HM : Hid (Cfg.mayB ⟨f, mj, kn, rm, ca, cc, cs, pa, pc, ps, qa, qc, qs⟩ = false) := Cfg.mayB_no fun h => by have := h.2.1; dsimp only at this; omega
    go_wp2
    go_ret
    exact ⟨by rw [HM.out]; rfl, HO.out.keeps⟩
  have e2 : decide (1024 ≤ kn) = false := by simp [k2]
  by_cases k3 : 8 < L
  · have e3 : decide (8 < (L : Int)) = true := by simp; omega
    have HM : Hid (Cfg.mayB ⟨f, mj, kn, rm, ca, cc, cs, pa, pc, ps, qa, qc, qs⟩ = false) := Cfg.mayB_no fun h => by have := h.2.2.1; dsimp only at this; have := HL.out.1; omega
    go_wp2
    go_ret
    exact ⟨by rw [HM.out]; rfl, HO.out.keeps⟩
  have e3 : decide (8 < (L : Int)) = false := by simp; omega
  by_cases k4 : 16 < H
  · have e4 : decide (16 < (H : Int)) = true := by simp; omega
    have HM : Hid (Cfg.mayB ⟨f, mj, kn, rm, ca, cc, cs, pa, pc, ps, qa, qc, qs⟩ = false) := Cfg.mayB_no fun h => by have := h.2.2.2.1; dsimp only at this; have := HL.out.2; omega
    go_wp2
    go_ret
    exact ⟨by rw [HM.out]; rfl, HO.out.keeps⟩
  have e4 : decide (16 < (H : Int)) = false := by simp; omega
  go_wp2
  clear e1 e2 e3 e4 c2 c6
  go_loopw [28] (fun i wr => ∃ j : Nat, j ≤ L ∧ i = .int .i64 j ∧ (∀ P ∈ ps.take j, P.mayB H = true) ∧ One w ⟨f, mj, kn, rm, ca, cc, cs, pa, pc, ps, qa, qc, qs⟩ C N wr) (fun i _ => L - (intOf i).toNat)
  case atStart => exact ⟨0, by omega, rfl, by simp, HO.out⟩
  case round =>
    obtain ⟨j, hj, rfl, hall, hO⟩ := hrel
    clear c5
    by_cases hlt : j < L
    · obtain ⟨X, hX⟩ : ∃ X, ps[j]? = some X := ⟨_, List.getElem?_eq_getElem (by have := HL.out.1; omega)⟩
      obtain ⟨g0, o0, e, hc⟩ := hO.cin.par hX
      dsimp only at e
      subst e
      have p0 := hc 0 _ rfl
      rw [Nat.add_zero] at p0
      have p1 := hc 1 _ rfl
      have p2 := hc 2 _ rfl
      have p3 := hc 3 _ rfl
      have p4 := hc 4 _ rfl
      have p5 := hc 5 _ rfl
      have p6 := hc 6 _ rfl
      have p7 := hc 7 _ rfl
      obtain ⟨W1, hW1⟩ : ∃ W1, W1 = Par.laid wr X := ⟨_, rfl⟩
      obtain ⟨D, hD⟩ : ∃ D, D = wr.heap.size := ⟨_, rfl⟩
      have HK : Hid (One w ⟨f, mj, kn, rm, ca, cc, cs, some ⟨g0, o0, none⟩, pc, ps, qa, qc, qs⟩ C N W1 ∧ (∀ P ∈ ps.take j, P.mayB H = true) ∧ ps[j]? = some X ∧ X.In W1 N ∧ N ≤ W1.heap.size) := by
        have h1 := hO.kept (w'' := W1) (by rw [hW1]; exact (Keeps.refl _ _).alloc _)
        exact ⟨h1, hall, hX, h1.cin.pin X (List.mem_of_getElem? hX), h1.nn⟩
      have hB : Blk W1 D X.vs 52 := by rw [hW1, hD]; exact Blk.new _ _ _
      have d0 := hB.cell (i := 0) rfl
      have d1 := hB.cell (i := 1) rfl
      have d2 := hB.cell (i := 2) rfl
      have d3 := hB.cell (i := 3) rfl
      have d4 := hB.cell (i := 4) rfl
      have d5 := hB.cell (i := 5) rfl
      have d6 := hB.cell (i := 6) rfl
      have d7 := hB.cell (i := 7) rfl
      have c6 : W1.cell? ⟨C, 6, none⟩ = some (.slice qa H qc) := by have := HK.out.1.cfg.cell (i := 6) rfl; rw [← HL.out.2]; exact this
      clear hall hO hX hc hB
      go_upto_region 8 with fail
      unfold Par.laid at hW1
      rw [← hW1, ← hD]
      clear hW1 hD p0 p1 p2 p3 p4 p5 p6 p7
      have HC : Hid (Calls Try.prog 34 #[X.v, .int .i64 H] W1 fun e w' => e = .returned (.bool (X.mayB H)) ∧ Keeps (fun _ => False) W1 w') := partitionCanLie_any X H W1 N HK.out.2.2.2.1 HK.out.2.2.2.2
      go_wp2_with fail
      refine HC.out.mono ?_
      rintro e w1 ⟨rfl, hK⟩
      have HO1 : Hid (One w ⟨f, mj, kn, rm, ca, cc, cs, some ⟨g0, o0, none⟩, pc, ps, qa, qc, qs⟩ C N w1) := HK.out.1.kept hK
      clear hK HC c6 d0 d1 d2 d3 d4 d5 d6 d7
      obtain ⟨b, hb⟩ : ∃ b, X.mayB H = b := ⟨_, rfl⟩
      rw [hb]
      have HB : Hid (X.mayB H = b) := hb
      clear hb
      cases b with
      | false =>
        have HM : Hid (Cfg.mayB ⟨f, mj, kn, rm, ca, cc, cs, some ⟨g0, o0, none⟩, pc, ps, qa, qc, qs⟩ = false) := Cfg.mayB_no fun h => by
          have := h.2.2.2.2.1 X (List.mem_of_getElem? HK.out.2.2.1)
          dsimp only at this
          rw [HL.out.2, HB.out] at this
          cases this
        go_wp2
        go_ret
        exact ⟨by rw [HM.out]; rfl, HO1.out.keeps⟩
      | true =>
        go_wp2
        go_roundw
        case rel => exact ⟨j + 1, by omega, by go_num, take_mem HK.out.2.2.1 HK.out.2.1 HB.out, HO1.out⟩
        case measure => simp [intOf]; omega
    · obtain rfl : L = j := by omega
      rw [List.take_of_length_le (by have := HL.out.1; omega)] at hall
      have HR : Hid ((∀ P ∈ ps, P.mayB H = true) ∧ One w ⟨f, mj, kn, rm, ca, cc, cs, pa, pc, ps, qa, qc, qs⟩ C N wr) := ⟨hall, hO⟩
      have c6 : wr.cell? ⟨C, 6, none⟩ = some (.slice qa H qc) := by have := HR.out.2.cfg.cell (i := 6) rfl; rw [← HL.out.2]; exact this
      clear hall hO HO
      go_wp2
      go_loopw [42] (fun i wr => ∃ j : Nat, j ≤ H ∧ i = .int .i64 j ∧ (∀ n, n < j → chnB ps qs n = true) ∧ One w ⟨f, mj, kn, rm, ca, cc, cs, pa, pc, ps, qa, qc, qs⟩ C N wr) (fun i _ => H - (intOf i).toNat)
      case atStart => exact ⟨0, by omega, rfl, fun n hn => by omega, HR.out.2⟩
      case round =>
        obtain ⟨i, hi, rfl, hall, hO⟩ := hrel
        clear c6
        by_cases hlq : i < H
        · obtain ⟨y, hy⟩ : ∃ y, qs[i]? = some y := ⟨_, List.getElem?_eq_getElem (by have := HL.out.2; omega)⟩
          obtain ⟨g1, o1, e, hg1⟩ := hO.cin.chn hy
          dsimp only at e
          subst e
          have y0 := hg1 0 _ rfl
          rw [Nat.add_zero] at y0
          have y1 := hg1 1 _ rfl
          have y2 := hg1 2 _ rfl
          obtain ⟨W1, hW1⟩ : ∃ W1, W1 = wr.alloc (.cells #[.int .i64 y.kind, .int .i64 y.words, .int .i64 y.depth] 78) := ⟨_, rfl⟩
          obtain ⟨D, hD⟩ : ∃ D, D = wr.heap.size := ⟨_, rfl⟩
          have HK : Hid (One w ⟨f, mj, kn, rm, ca, cc, cs, pa, pc, ps, some ⟨g1, o1, none⟩, qc, qs⟩ C N W1 ∧ (∀ n, n < i → chnB ps qs n = true) ∧ qs[i]? = some y) := by
            rw [hW1]; exact ⟨hO.kept ((Keeps.refl _ _).alloc _), hall, hy⟩
          have hB : Blk W1 D y.vs 78 := by rw [hW1, hD]; exact Blk.new _ _ _
          have d0 := hB.cell (i := 0) rfl
          have d1 := hB.cell (i := 1) rfl
          have d2 := hB.cell (i := 2) rfl
          clear hall hO hy hg1 hB
          go_upto_region 14 with fail
          rw [← hW1, ← hD]
          clear hW1 hD y0 y1 y2
          have HC : Hid (Calls Try.prog 35 #[y.v] W1 fun e w' => e = .returned (.bool y.whole) ∧ Keeps (fun _ => False) W1 w') := whole_any y W1
          go_wp2_with fail
          refine HC.out.mono ?_
          rintro e w1 ⟨rfl, hK⟩
          have HO1 : Hid (One w ⟨f, mj, kn, rm, ca, cc, cs, pa, pc, ps, some ⟨g1, o1, none⟩, qc, qs⟩ C N w1) := HK.out.1.kept hK
          clear hK HC d0 d1 d2
          obtain ⟨b, hb⟩ : ∃ b, y.whole = b := ⟨_, rfl⟩
          rw [hb]
          have HB : Hid (y.whole = b) := hb
          clear hb
          cases b with
          | false =>
            have HM : Hid (Cfg.mayB ⟨f, mj, kn, rm, ca, cc, cs, pa, pc, ps, some ⟨g1, o1, none⟩, qc, qs⟩ = false) := Cfg.mayB_no fun h => by
              have := h.2.2.2.2.2 i (by dsimp only; have := HL.out.2; omega)
              dsimp only at this
              rw [chnB_some HK.out.2.2, HB.out] at this
              cases this
            go_wp2
            go_ret
            exact ⟨by rw [HM.out]; rfl, HO1.out.keeps⟩
          | true =>
            obtain ⟨b0, b1, b2, b3, b4, b5, b6⟩ := HO1.out.cells
            dsimp only at b0 b1 b2 b3 b4 b5 b6
            rw [HL.out.1] at b5
            rw [HL.out.2] at b6
            have hm8 : ps.length ≤ 8 := by have := HL.out.1; omega
            have hm9 : ∀ P ∈ ps, P.ps.length ≤ 8 := fun P hP => (Par.mayB_iff.1 (HR.out.1 P hP)).2.1
            have HC : Hid (Calls Try.prog 36 #[.agg #[.int .i64 f, .int .i64 mj, .int .i64 kn, .int .i64 rm, .slice ca cs.length cc, .slice pa L pc, .slice (some ⟨g1, o1, none⟩) H qc], .int .i64 i] w1 fun e w' => e = .returned (.bool (joined i ps)) ∧ Keeps (fun _ => False) w1 w') :=
              isJoined_v f mj kn rm ca cc cs pa pc ps (some ⟨g1, o1, none⟩) qc qs L H HL.out.1 HL.out.2 i w1 N HO1.out.cin HO1.out.nn hm8 hm9
            clear hm8 hm9
            go_wp2_with fail
            refine HC.out.mono ?_
            rintro e w2 ⟨rfl, hK⟩
            have HO2 : Hid (One w ⟨f, mj, kn, rm, ca, cc, cs, pa, pc, ps, some ⟨g1, o1, none⟩, qc, qs⟩ C N w2) := HO1.out.kept hK
            clear hK HC b0 b1 b2 b3 b4 b5 b6
            obtain ⟨b, hb⟩ : ∃ b, joined i ps = b := ⟨_, rfl⟩
            rw [hb]
            have HB2 : Hid (joined i ps = b) := hb
            clear hb
            cases b with
            | false =>
              have HM : Hid (Cfg.mayB ⟨f, mj, kn, rm, ca, cc, cs, pa, pc, ps, some ⟨g1, o1, none⟩, qc, qs⟩ = false) := Cfg.mayB_no fun h => by
                have := h.2.2.2.2.2 i (by dsimp only; have := HL.out.2; omega)
                dsimp only at this
                rw [chnB_some HK.out.2.2, HB.out, HB2.out] at this
                cases this
              go_wp2
              go_ret
              exact ⟨by rw [HM.out]; rfl, HO2.out.keeps⟩
            | true =>
              go_wp2
              go_roundw
              case rel =>
                refine ⟨i + 1, by omega, by go_num, fun n hn => ?_, HO2.out⟩
                by_cases e : n = i
                · rw [e, chnB_some HK.out.2.2, HB.out, HB2.out]; rfl
                · exact HK.out.2.1 n (by omega)
              case measure => simp [intOf]; omega
        · obtain rfl : i = H := by omega
          have HM : Hid (Cfg.mayB ⟨f, mj, kn, rm, ca, cc, cs, pa, pc, ps, qa, qc, qs⟩ = true ∧ Keeps (fun _ => False) w wr) :=
            ⟨Cfg.mayB_iff.2 ⟨by dsimp only; omega, by dsimp only; omega, by dsimp only; have := HL.out.1; omega, by dsimp only; have := HL.out.2; omega, by dsimp only; rw [HL.out.2]; exact HR.out.1, by dsimp only; rw [HL.out.2]; exact hall⟩, hO.keeps⟩
          clear hall hO
          go_wp2
          go_ret
          exact ⟨by rw [HM.out.1]; rfl, HM.out.2⟩
end Go.Proofs.Ythaoopaafdgioab
