import Derived.Test.YthaoopaafdgioabH
namespace Go.Proofs.Ythaoopaafdgioab
open Go.RowKit
set_option linter.unusedVariables false
set_option maxRecDepth 6000

def Prt.inB (h : Nat) (y : Prt) : Bool := decide (0 ≤ y.ch) && decide (y.ch < h)
/-- A partition that can be laid out beside so many channels. -/
def Par.mayB (h : Nat) (P : Par) : Bool := decide (P.rs.length ≤ 8) && decide (P.ps.length ≤ 8) && P.rs.all Rgn.inB && P.ps.all (Prt.inB h)
theorem Par.mayB_iff {h : Nat} {P : Par} : P.mayB h = true ↔ (P.rs.length ≤ 8 ∧ P.ps.length ≤ 8 ∧ (∀ r ∈ P.rs, r.inB = true) ∧ ∀ y ∈ P.ps, 0 ≤ y.ch ∧ y.ch < h) := by
  unfold Par.mayB Prt.inB; simp [and_assoc]
theorem Par.mayB_no {h : Nat} {P : Par} (hn : ¬ (P.rs.length ≤ 8 ∧ P.ps.length ≤ 8 ∧ (∀ r ∈ P.rs, r.inB = true) ∧ ∀ y ∈ P.ps, 0 ≤ y.ch ∧ y.ch < h)) : Hid (P.mayB h = false) := by
  show P.mayB h = false
  rw [Bool.eq_false_iff, Ne, Par.mayB_iff]; exact hn
theorem take_mem {α : Type} {p : α → Prop} {l : List α} {j : Nat} {y : α} (hy : l[j]? = some y) (h : ∀ z ∈ l.take j, p z) (hp : p y) : ∀ z ∈ l.take (j + 1), p z := by
  intro z hz
  rw [List.take_add_one, hy] at hz
  simp at hz
  rcases hz with hz | rfl
  · exact h z hz
  · exact hp

/-- A partition in a block of its own. -/
structure OneP (w : World) (X : Par) (C N : Nat) (w' : World) : Prop where
  cfg : Blk w' C X.vs 52
  keeps : Keeps (fun _ => False) w w'
  cin : X.In w' N
  n : N ≤ w.heap.size
abbrev Par.laid (w : World) (X : Par) : World := w.alloc (.cells #[.string X.name, .int .i64 X.entry, .int .i64 X.action, .int .i64 X.restarts, .int .i64 X.inputs, .int .i64 X.outputs, .slice X.ra X.rs.length X.rc, .slice X.pa X.ps.length X.pc] 52)
theorem Par.In.keeps {X : Par} {w w' : World} {N : Nat} (h : X.In w N) (hN : N ≤ w.heap.size) (hK : Keeps (fun _ => False) w w') : X.In w' N := h.below (hK.below hN fun _ h => h.elim)
theorem OneP.mk' {w : World} {X : Par} {N : Nat} (hi : X.In w N) (hN : N ≤ w.heap.size) : OneP w X w.heap.size N (X.laid w) :=
  ⟨Blk.new w _ _, (Keeps.refl _ _).alloc _, hi.keeps hN ((Keeps.refl _ _).alloc _), hN⟩
theorem OneP.kept {w : World} {X : Par} {C N : Nat} {w' w'' : World} (h : OneP w X C N w') (hK : Keeps (fun _ => False) w' w'') : OneP w X C N w'' :=
  ⟨h.cfg.kept hK fun h => h, h.keeps.trans hK fun _ _ h => h, h.cin.keeps (Nat.le_trans h.n h.keeps.size) hK, h.n⟩

set_option maxHeartbeats 2000000 in
theorem partitionCanLie_any (X : Par) (hh : Nat) (w : World) (N : Nat) (hi : X.In w N) (hN : N ≤ w.heap.size) :
    Calls Try.prog 34 #[X.v, .int .i64 hh] w fun e w' => e = .returned (.bool (X.mayB hh)) ∧ Keeps (fun _ => False) w w' := by
  obtain ⟨nm, en, ac, re, inp, ou, ra, rc, rs, pa, pc, ps⟩ := X
  obtain ⟨W, hW⟩ : ∃ W, W = Par.laid w ⟨nm, en, ac, re, inp, ou, ra, rc, rs, pa, pc, ps⟩ := ⟨_, rfl⟩
  obtain ⟨C, hC⟩ : ∃ C, C = w.heap.size := ⟨_, rfl⟩
  have HO : Hid (OneP w ⟨nm, en, ac, re, inp, ou, ra, rc, rs, pa, pc, ps⟩ C N W) := by rw [hW, hC]; exact OneP.mk' hi hN
  obtain ⟨R, hR⟩ : ∃ R, rs.length = R := ⟨_, rfl⟩
  obtain ⟨Q, hQ⟩ : ∃ Q, ps.length = Q := ⟨_, rfl⟩
  have HL : Hid (rs.length = R ∧ ps.length = Q) := ⟨hR, hQ⟩
  have hrc : (R : Int) ≤ rc ∧ (rc : Int) ≤ 9223372036854775807 := by have := hi.rlen; unfold maxLen at this; dsimp only at this; omega
  have hpc : (Q : Int) ≤ pc ∧ (pc : Int) ≤ 9223372036854775807 := by have := hi.plen; unfold maxLen at this; dsimp only at this; omega
  simp only [Par.v, Par.laid, hR, hQ] at hW ⊢
  have c6 : W.cell? ⟨C, 6, none⟩ = some (.slice ra R rc) := by have := HO.out.cfg.cell (i := 6) rfl; rw [← hR]; exact this
  have c7 : W.cell? ⟨C, 7, none⟩ = some (.slice pa Q pc) := by have := HO.out.cfg.cell (i := 7) rfl; rw [← hQ]; exact this
  clear hi hN hR hQ
  go_enter Try.func34, Try.ntmps34
  go_upto_region 1 with fail
  rw [← hW, ← hC]
  clear hW hC
  by_cases hr : 8 < R
  · have e1 : decide (8 < (R : Int)) = true := by simp; omega
    have HM : Hid (Par.mayB hh ⟨nm, en, ac, re, inp, ou, ra, rc, rs, pa, pc, ps⟩ = false) := Par.mayB_no fun h => by have := h.1; dsimp only at this; have := HL.out.1; omega
    go_wp2
    go_ret
    exact ⟨by rw [HM.out]; rfl, HO.out.keeps⟩
  have e1 : decide (8 < (R : Int)) = false := by simp; omega
  by_cases hq : 8 < Q
  · have e2 : decide (8 < (Q : Int)) = true := by simp; omega
    have HM : Hid (Par.mayB hh ⟨nm, en, ac, re, inp, ou, ra, rc, rs, pa, pc, ps⟩ = false) := Par.mayB_no fun h => by have := h.2.1; dsimp only at this; have := HL.out.2; omega
    go_wp2
    go_ret
    exact ⟨by rw [HM.out]; rfl, HO.out.keeps⟩
  have e2 : decide (8 < (Q : Int)) = false := by simp; omega
  go_wp2
  clear e1 e2
  go_loopw [22] (fun i wr => ∃ j : Nat, j ≤ R ∧ i = .int .i64 j ∧ (∀ r ∈ rs.take j, r.inB = true) ∧ OneP w ⟨nm, en, ac, re, inp, ou, ra, rc, rs, pa, pc, ps⟩ C N wr) (fun i _ => R - (intOf i).toNat)
  case atStart => exact ⟨0, by omega, rfl, by simp, HO.out⟩
  case round =>
    obtain ⟨j, hj, rfl, hall, hO⟩ := hrel
    clear c6 c7
    by_cases hlt : j < R
    · obtain ⟨y, hy⟩ : ∃ y, rs[j]? = some y := ⟨_, List.getElem?_eq_getElem (by have := HL.out.1; omega)⟩
      obtain ⟨g1, o1, e, hg1⟩ := hO.cin.rseg.at hy
      dsimp only at e
      subst e
      have y0 := hg1 0 _ rfl
      rw [Nat.add_zero] at y0
      have y1 := hg1 1 _ rfl
      have y2 := hg1 2 _ rfl
      have y3 := hg1 3 _ rfl
      obtain ⟨W1, hW1⟩ : ∃ W1, W1 = wr.alloc (.cells #[.int .i64 y.page, .int .i64 y.pages, .int .i64 y.frame, .int .i64 y.rights] 54) := ⟨_, rfl⟩
      obtain ⟨D, hD⟩ : ∃ D, D = wr.heap.size := ⟨_, rfl⟩
      have HK : Hid (OneP w ⟨nm, en, ac, re, inp, ou, some ⟨g1, o1, none⟩, rc, rs, pa, pc, ps⟩ C N W1 ∧ (∀ r ∈ rs.take j, r.inB = true) ∧ rs[j]? = some y ∧ y.Fine) := by
        rw [hW1]; exact ⟨hO.kept ((Keeps.refl _ _).alloc _), hall, hy, hO.cin.rfine y (List.mem_of_getElem? hy)⟩
      have hB1 : Blk W1 D y.vs 54 := by rw [hW1, hD]; exact Blk.new _ _ _
      have d0 := hB1.cell (i := 0) rfl
      have d1 := hB1.cell (i := 1) rfl
      have d2 := hB1.cell (i := 2) rfl
      have d3 := hB1.cell (i := 3) rfl
      clear hall hO hy hg1 hB1
      go_upto_region 6 with fail
      rw [← hW1, ← hD]
      clear hW1 hD y0 y1 y2 y3
      go_wp2_with fail
      refine (inSpace_any y HK.out.2.2.2 W1).mono ?_
      rintro e w1 ⟨rfl, hK⟩
      have HO1 : Hid (OneP w ⟨nm, en, ac, re, inp, ou, some ⟨g1, o1, none⟩, rc, rs, pa, pc, ps⟩ C N w1) := HK.out.1.kept hK
      clear hK d0 d1 d2 d3
      obtain ⟨b, hb⟩ : ∃ b, y.inB = b := ⟨_, rfl⟩
      rw [hb]
      have HB : Hid (y.inB = b) := hb
      clear hb
      cases b with
      | false =>
        have HM : Hid (Par.mayB hh ⟨nm, en, ac, re, inp, ou, some ⟨g1, o1, none⟩, rc, rs, pa, pc, ps⟩ = false) := Par.mayB_no fun h => by
          have := h.2.2.1 y (List.mem_of_getElem? HK.out.2.2.1); rw [HB.out] at this; cases this
        go_wp2
        go_ret
        exact ⟨by rw [HM.out]; rfl, HO1.out.keeps⟩
      | true =>
        go_wp2
        go_roundw
        case rel => exact ⟨j + 1, by omega, by go_num, take_mem HK.out.2.2.1 HK.out.2.1 HB.out, HO1.out⟩
        case measure => simp [intOf]; omega
    · obtain rfl : j = R := by omega
      rw [List.take_of_length_le (by have := HL.out.1; omega)] at hall
      have HR : Hid ((∀ r ∈ rs, r.inB = true) ∧ OneP w ⟨nm, en, ac, re, inp, ou, ra, rc, rs, pa, pc, ps⟩ C N wr) := ⟨hall, hO⟩
      have c7 : wr.cell? ⟨C, 7, none⟩ = some (.slice pa Q pc) := by have := HR.out.2.cfg.cell (i := 7) rfl; rw [← HL.out.2]; exact this
      clear hall hO HO
      go_wp2
      go_loopw [33] (fun i wr => ∃ j : Nat, j ≤ Q ∧ i = .int .i64 j ∧ (∀ y ∈ ps.take j, 0 ≤ y.ch ∧ y.ch < hh) ∧ OneP w ⟨nm, en, ac, re, inp, ou, ra, rc, rs, pa, pc, ps⟩ C N wr) (fun i _ => Q - (intOf i).toNat)
      case atStart => exact ⟨0, by omega, rfl, by simp, HR.out.2⟩
      case round =>
        obtain ⟨i, hi, rfl, hall, hO⟩ := hrel
        clear c7
        by_cases hlq : i < Q
        · obtain ⟨y, hy⟩ : ∃ y, ps[i]? = some y := ⟨_, List.getElem?_eq_getElem (by have := HL.out.2; omega)⟩
          obtain ⟨g1, o1, e, hg1⟩ := hO.cin.pseg.at hy
          dsimp only at e
          subst e
          have y0 := hg1 0 _ rfl
          rw [Nat.add_zero] at y0
          have y1 := hg1 1 _ rfl
          have HK : Hid (OneP w ⟨nm, en, ac, re, inp, ou, ra, rc, rs, some ⟨g1, o1, none⟩, pc, ps⟩ C N wr ∧ (∀ y ∈ ps.take i, 0 ≤ y.ch ∧ y.ch < hh) ∧ ps[i]? = some y) := ⟨hO, hall, hy⟩
          clear hall hO hy hg1
          by_cases k1 : y.ch < 0
          · have f1 : decide (y.ch < 0) = true := by simp [k1]
            have HM : Hid (Par.mayB hh ⟨nm, en, ac, re, inp, ou, ra, rc, rs, some ⟨g1, o1, none⟩, pc, ps⟩ = false) := Par.mayB_no fun h => by
              have := h.2.2.2 y (List.mem_of_getElem? HK.out.2.2); omega
            go_wp2
            go_ret
            exact ⟨by rw [HM.out]; rfl, HK.out.1.keeps.alloc _⟩
          · have f1 : decide (y.ch < 0) = false := by simp [k1]
            by_cases k2 : (hh : Int) ≤ y.ch
            · have f2 : decide ((hh : Int) ≤ y.ch) = true := by simp [k2]
              have HM : Hid (Par.mayB hh ⟨nm, en, ac, re, inp, ou, ra, rc, rs, some ⟨g1, o1, none⟩, pc, ps⟩ = false) := Par.mayB_no fun h => by
                have := h.2.2.2 y (List.mem_of_getElem? HK.out.2.2); omega
              go_wp2
              go_ret
              exact ⟨by rw [HM.out]; rfl, HK.out.1.keeps.alloc _⟩
            · have f2 : decide ((hh : Int) ≤ y.ch) = false := by simp [k2]
              go_wp2
              go_roundw
              case rel => exact ⟨i + 1, by omega, by go_num, take_mem HK.out.2.2 HK.out.2.1 ⟨by omega, by omega⟩, HK.out.1.kept ((Keeps.refl _ _).alloc _)⟩
              case measure => simp [intOf]; omega
        · obtain rfl : i = Q := by omega
          rw [List.take_of_length_le (by have := HL.out.2; omega)] at hall
          have HM : Hid (Par.mayB hh ⟨nm, en, ac, re, inp, ou, ra, rc, rs, pa, pc, ps⟩ = true ∧ Keeps (fun _ => False) w wr) := ⟨Par.mayB_iff.2 ⟨by dsimp only; have := HL.out.1; omega, by dsimp only; have := HL.out.2; omega, HR.out.1, hall⟩, hO.keeps⟩
          clear hall hO
          go_wp2
          go_ret
          exact ⟨by rw [HM.out.1]; rfl, HM.out.2⟩
end Go.Proofs.Ythaoopaafdgioab
