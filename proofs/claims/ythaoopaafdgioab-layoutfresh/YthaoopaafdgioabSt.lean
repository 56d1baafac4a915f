import Derived.Test.YthaoopaafdgioabSs
import Derived.Test.YthaoopaafdgioabRp
namespace Go.Proofs.Ythaoopaafdgioab
open Go.RowKit
set_option linter.unusedVariables false
set_option linter.unusedSimpArgs false
set_option maxRecDepth 6000

/-- A piece has the word. -/
def Pc.has (t : Int) (p : Pc) : Bool := decide (p.pos ≤ t) && decide (t < p.pos + p.size)
def ownD (x : Cfg) (t : Int) : Ow := match (pcAll x (16 * x.kernel)).find? (Pc.has t) with | some p => p.ow | none => regO (t / 16) x.ps
def ownR (x : Cfg) (t : Int) : Ow × Int :=
  if x.mayB = false then (⟨0, 0, 0⟩, 150) else if isW x.frames t = false then (⟨0, 0, 0⟩, 151) else (ownD x t, 0)
theorem isW_iff {f t : Int} : isW f t = true ↔ (0 ≤ t ∧ t / 16 < f ∧ t / 16 < 1024) := by unfold isW; simp [and_assoc]
theorem isW_no {f t : Int} (h : ¬ (0 ≤ t ∧ t / 16 < f ∧ t / 16 < 1024)) : isW f t = false := by rw [Bool.eq_false_iff, Ne, isW_iff]; exact h

set_option maxHeartbeats 4000000 in
theorem ROwner_any (x : Cfg) (t : Int) (ht : I64 t) (w : World) (N : Nat) (hi : x.In w N) (hN : N ≤ w.heap.size) (hbd : x.mayB = true → ∀ p ∈ pcAll x (16 * x.kernel), 0 ≤ p.pos ∧ p.pos ≤ 1000000 ∧ 0 ≤ p.size ∧ p.size ≤ 1000000) :
    Calls Try.prog 7 #[x.v, .int .i64 t] w fun e w' => e = .returned (.tuple #[(ownR x t).1.v, .int .i64 (ownR x t).2]) ∧ Keeps (fun _ => False) w w' := by
  obtain ⟨W, hW⟩ : ∃ W, W = (x.laid w).alloc (.cells #[.int .i64 0, .int .i64 0, .int .i64 0] 36) := ⟨_, rfl⟩
  obtain ⟨C, hC⟩ : ∃ C, C = w.heap.size := ⟨_, rfl⟩
  have HO : Hid (OwI w x C N W) := by
    have s0 : (x.laid w).heap.size = C + 1 := by rw [hC]; simp [Cfg.laid]
    refine ⟨?_, ?_, hC⟩
    · rw [hW, hC]; exact (One.mk' hi hN).kept ((Keeps.refl _ _).alloc _)
    · rw [hW, ← s0]; exact Blk.new _ _ _
  have HT : Hid (I64 t) := ht
  have HBD : Hid (x.mayB = true → ∀ p ∈ pcAll x (16 * x.kernel), 0 ≤ p.pos ∧ p.pos ≤ 1000000 ∧ 0 ≤ p.size ∧ p.size ≤ 1000000) := hbd
  clear hi hN ht hbd
  unfold Cfg.laid at hW
  go_enter Try.func7, Try.ntmps7
  go_upto_region 1 with fail
  rw [← hW, ← hC]
  clear hW hC
  obtain ⟨q0, q1, q2, q3, q4, q5, q6⟩ := HO.out.one.cells
  have HC : Hid (Calls Try.prog 16 #[x.v] W fun e w' => e = .returned (.bool x.mayB) ∧ Keeps (fun _ => False) W w') := rmay_any x W N HO.out.one.cin HO.out.one.nn
  go_wp2_with fail
  refine HC.out.mono ?_
  rintro e w1 ⟨rfl, hK⟩
  have H1 : Hid (OwI w x C N w1) := HO.out.kept hK
  clear hK HC HO q0 q1 q2 q3 q4 q5 q6
  obtain ⟨b, hb⟩ : ∃ b, x.mayB = b := ⟨_, rfl⟩
  rw [hb]
  have HB : Hid (x.mayB = b) := hb
  clear hb
  have a0 := H1.out.res.cell (i := 0) rfl
  have a1 := H1.out.res.cell (i := 1) rfl
  have a2 := H1.out.res.cell (i := 2) rfl
  have z0 := H1.out.res.frozen 0
  have z1 := H1.out.res.frozen 1
  have z2 := H1.out.res.frozen 2
  cases b with
  | false =>
    have HA : Hid (ownR x t = (⟨0, 0, 0⟩, 150)) := by show _ = _; unfold ownR; rw [HB.out]; rfl
    go_wp2
    obtain ⟨hB, hK3⟩ := set3 H1.out.res (.int .i64 0) (.int .i64 0) (.int .i64 0)
    obtain ⟨Wb, hWb⟩ : ∃ Wb, Wb = (((w1.setCell ⟨C + 1, 0, none⟩ (.int .i64 0)).setCell ⟨C + 1, 1, none⟩ (.int .i64 0)).setCell ⟨C + 1, 2, none⟩ (.int .i64 0)) := ⟨_, rfl⟩
    rw [← hWb] at hB hK3 ⊢
    (try simp only [Exit.inBlock, Exit.then])
    refine bodyPost_ret (results_cell_two rfl _ _ (C + 1) 36 _ (0, 0) _ rfl hB Try.underlying36 rfl (by kernel_rfl)) rfl ?_
    have hcw := H1.out.cw
    exact ⟨by rw [HA.out]; rfl, H1.out.one.keeps.trans hK3 fun k hk e => by omega⟩
  | true =>
    obtain ⟨q0, q1, q2, q3, q4, q5, q6⟩ := H1.out.one.cells
    have hty := HT.out
    unfold I64 at hty
    by_cases hw : isW x.frames t = true
    · have hww := isW_iff.1 hw
      have HA : Hid (ownR x t = (ownD x t, 0) ∧ 0 ≤ t) := ⟨by unfold ownR; rw [HB.out, hw]; rfl, hww.1⟩
      have g1 : decide (t < 0) = false := by simp; omega
      have hd : t.tdiv 16 = t / 16 := Int.tdiv_eq_ediv_of_nonneg hww.1
      have hq : IntKind.i64.wrap (t / 16) = t / 16 := by rw [IntKind.wrap_i64]; omega
      have g2 : decide (x.frames ≤ t / 16) = false := by simp; omega
      have g3 : decide (1024 ≤ t / 16) = false := by simp; omega
      clear hty hw hww a0 a1 a2 z0 z1 z2
      have HC := pieces_any x HB.out w1 N H1.out.one.cin H1.out.one.nn
      have HC : Hid (Calls Try.prog 18 #[x.v] w1 (PiecesP x w1)) := HC
      go_wp2_with fail
      refine HC.out.mono ?_
      rintro e w2 ⟨u, rfl, hR, hK⟩
      obtain ⟨l, hl⟩ : ∃ l, pcAll x (16 * x.kernel) = l := ⟨_, rfl⟩
      have hne : l ≠ [] := by rw [← hl]; unfold pcAll pcB pcA; simp
      have HLL : Hid (ownD x t = match l.find? (Pc.has t) with | some p => p.ow | none => regO (t / 16) x.ps) := by show _ = _; unfold ownD; rw [hl]
      have HBD : Hid (∀ p ∈ pcAll x (16 * x.kernel), 0 ≤ p.pos ∧ p.pos ≤ 1000000 ∧ 0 ≤ p.size ∧ p.size ≤ 1000000) := HBD.out HB.out
      rw [hl] at hR HBD
      obtain ⟨g, cap, rfl, hcp1, hcp2, hg⟩ := hR.somes hne
      obtain ⟨PL, hPL⟩ : ∃ PL, l.length = PL := ⟨_, rfl⟩
      have hcc : (PL : Int) ≤ cap ∧ (cap : Int) ≤ 9223372036854775807 := by unfold maxLen at hcp2; omega
      have H2 : Hid (OwI w x C N w2 ∧ Row ePc w2 w1.heap.size (.slice (some ⟨g, 0, none⟩) l.length cap) l ∧ l.length = PL) := ⟨H1.out.kept hK, hR, hPL⟩
      rw [hPL]
      clear hl hne hR hcp1 hcp2 hg hPL hK HC q0 q1 q2 q3 q4 q5 q6 g1 g2 g3 hd hq
      go_wp2
      go_loopw [34] (fun i wr => ∃ j : Nat, j ≤ PL ∧ i = .int .i64 j ∧ (l.take j).find? (Pc.has t) = none ∧ Keeps (fun _ => False) w2 wr) (fun i _ => PL - (intOf i).toNat)
      case atStart => exact ⟨0, by omega, rfl, rfl, Keeps.refl _ _⟩
      case round =>
        obtain ⟨k, hk, rfl, hno, hK⟩ := hrel
        by_cases hlt : k < PL
        · obtain ⟨p, hp⟩ : ∃ p, l[k]? = some p := ⟨_, List.getElem?_eq_getElem (by have := H2.out.2.2; omega)⟩
          have hb := HBD.out p (List.mem_of_getElem? hp)
          have hR := H2.out.2.1.own_kept ePc_bl hK fun _ _ h => h
          have y0 := hR.cellAt (i := 0) hp rfl
          have y1 := hR.cellAt (i := 1) hp rfl
          have y2 := hR.cellAt (i := 2) hp rfl
          have y3 := hR.cellAt (i := 3) hp rfl
          have y4 := hR.cellAt (i := 4) hp rfl
          simp only [ePc] at y0 y1 y2 y3 y4
          have HK : Hid (OwI w x C N wr ∧ Keeps (fun _ => False) w2 wr ∧ (l.take k).find? (Pc.has t) = none ∧ l[k]? = some p) := ⟨H2.out.1.kept hK, hK, hno, hp⟩
          clear hR hK hno hp
          obtain ⟨P0, P1, P2⟩ := p
          dsimp only at hb y0 y1 y2 y3 y4
          rw [Nat.add_zero] at y0
          have q1 : IntKind.i64.wrap (P0 + P1) = P0 + P1 := by rw [IntKind.wrap_i64]; omega
          by_cases e1 : P0 ≤ t
          · by_cases e2 : t < P0 + P1
            · have e1' : decide (P0 ≤ t) = true := by simp [e1]
              have e2' : decide (t < P0 + P1) = true := by simp [e2]
              have HF : Hid (ownD x t = P2) := by
                show _ = _
                rw [HLL.out]
                have : l.find? (Pc.has t) = some ⟨P0, P1, P2⟩ := by
                  have hsp := (List.getElem?_eq_some_iff.1 HK.out.2.2.2)
                  rw [← List.take_append_drop k l, List.find?_append, HK.out.2.2.1, List.drop_eq_getElem_cons hsp.1, hsp.2]
                  simp [List.find?_cons, Pc.has, e1, e2]
                rw [this]
              clear hb e1 e2
              have a0 := HK.out.1.res.cell (i := 0) rfl
              have a1 := HK.out.1.res.cell (i := 1) rfl
              have a2 := HK.out.1.res.cell (i := 2) rfl
              have z0 := HK.out.1.res.frozen 0
              have z1 := HK.out.1.res.frozen 1
              have z2 := HK.out.1.res.frozen 2
              go_upto_region 9 with fail
              refine wp_region_held_drew (S := (fun w' => w'.cell? ⟨g, k * 5, none⟩ = some (.int .i64 P0) ∧ w'.cell? ⟨g, k * 5 + 1, none⟩ = some (.int .i64 P1))) Try.mixed ⟨y0, y1⟩ (fun hHeld => ?_)
              simp only [List.size_toArray, List.length_cons, List.length_nil, Nat.reduceAdd, Array.replicate_succ, Array.replicate_zero, List.push_toArray, List.append_toArray, List.nil_append, List.cons_append]
              refine wpAnyH_take (i := 0) (oi := { dst := some 37, op := Op.move (Operand.tmp 6), type := 64, pos := "ref.go:247", after := #[], guard := none }) (v := .slice (some ⟨g, 0, none⟩) PL cap) rfl (by kernel_rfl) (by kernel_rfl) (by kernel_rfl) (fun _ _ _ h => h) (Or.inl ⟨by kernel_rfl, by (intro w hSw; (try dsimp only at hSw); go_simp)⟩) hHeld ?_
              simp only [Act.put, List.setIfInBounds_toArray, List.set_cons_zero, List.set_cons_succ]
              refine wpAnyH_take (i := 1) (oi := { dst := some 38, op := Op.move (Operand.tmp 7), type := 3, pos := "ref.go:247", after := #[], guard := none }) (v := .int .i64 k) rfl (by kernel_rfl) (by kernel_rfl) (by kernel_rfl) (fun _ _ _ h => h) (Or.inl ⟨by kernel_rfl, by (intro w hSw; (try dsimp only at hSw); go_simp)⟩) hHeld ?_
              simp only [Act.put, List.setIfInBounds_toArray, List.set_cons_zero, List.set_cons_succ]
              refine wpAnyH_take (i := 2) (oi := { dst := some 39, op := Op.indexAddr 64 (Operand.tmp 37) (Operand.tmp 38), type := 0, pos := "ref.go:247", after := #[{ on := 0, ground := Ground.data }, { on := 1, ground := Ground.data }], guard := none }) (v := .pointer (some ⟨g, k * 5, none⟩)) rfl (by kernel_rfl) (by kernel_rfl) (by kernel_rfl) (fun _ _ _ h => h) (Or.inl ⟨by kernel_rfl, by (intro w hSw; (try dsimp only at hSw); go_simp)⟩) hHeld ?_
              simp only [Act.put, List.setIfInBounds_toArray, List.set_cons_zero, List.set_cons_succ]
              refine wpAnyH_take (i := 3) (oi := { dst := some 40, op := Op.fieldAddr 67 (Operand.tmp 39) 0, type := 0, pos := "ref.go:247", after := #[{ on := 2, ground := Ground.data }], guard := none }) (v := .pointer (some ⟨g, k * 5, none⟩)) rfl (by kernel_rfl) (by kernel_rfl) (by kernel_rfl) (fun _ _ _ h => h) (Or.inl ⟨by kernel_rfl, by (intro w hSw; (try dsimp only at hSw); go_simp)⟩) hHeld ?_
              simp only [Act.put, List.setIfInBounds_toArray, List.set_cons_zero, List.set_cons_succ]
              refine wpAnyH_take (i := 4) (oi := { dst := some 41, op := Op.load 3 (Operand.tmp 40), type := 3, pos := "ref.go:247", after := #[{ on := 3, ground := Ground.data }], guard := none }) (v := .int .i64 P0) rfl (by kernel_rfl) (by kernel_rfl) (by kernel_rfl) (fun _ _ _ h => h) (Or.inl ⟨by kernel_rfl, by (intro w hSw; (try dsimp only at hSw); go_simp)⟩) hHeld ?_
              simp only [Act.put, List.setIfInBounds_toArray, List.set_cons_zero, List.set_cons_succ]
              refine wpAnyH_take (i := 5) (oi := { dst := some 42, op := Op.move (Operand.tmp 1), type := 3, pos := "ref.go:247", after := #[], guard := none }) (v := .int .i64 t) rfl (by kernel_rfl) (by kernel_rfl) (by kernel_rfl) (fun _ _ _ h => h) (Or.inl ⟨by kernel_rfl, by (intro w hSw; (try dsimp only at hSw); go_simp)⟩) hHeld ?_
              simp only [Act.put, List.setIfInBounds_toArray, List.set_cons_zero, List.set_cons_succ]
              refine wpAnyH_take (i := 6) (oi := { dst := some 43, op := Op.binOp BinOp.leq 3 (Operand.tmp 41) (Operand.tmp 42) 3, type := 4, pos := "ref.go:247", after := #[{ on := 4, ground := Ground.data }, { on := 5, ground := Ground.data }], guard := none }) (v := .bool true) rfl (by kernel_rfl) (by kernel_rfl) (by kernel_rfl) (fun _ _ _ h => h) (Or.inl ⟨by kernel_rfl, by (intro w hSw; (try dsimp only at hSw); go_simp)⟩) hHeld ?_
              simp only [Act.put, List.setIfInBounds_toArray, List.set_cons_zero, List.set_cons_succ]
              refine wpAnyH_take (i := 7) (oi := { dst := some 44, op := Op.move (Operand.tmp 43), type := 4, pos := "ref.go:247", after := #[{ on := 6, ground := Ground.data }], guard := none }) (v := .bool true) rfl (by kernel_rfl) (by kernel_rfl) (by kernel_rfl) (fun _ _ _ h => h) (Or.inl ⟨by kernel_rfl, by (intro w hSw; (try dsimp only at hSw); go_simp)⟩) hHeld ?_
              simp only [Act.put, List.setIfInBounds_toArray, List.set_cons_zero, List.set_cons_succ]
              refine wpAnyH_take (i := 8) (oi := { dst := some 45, op := Op.move (Operand.tmp 1), type := 3, pos := "ref.go:247", after := #[{ on := 7, ground := Ground.guard }], guard := some (7, true) }) (v := .int .i64 t) rfl (by kernel_rfl) (by kernel_rfl) (by kernel_rfl) (fun _ _ _ h => h) (Or.inl ⟨by kernel_rfl, by (intro w hSw; (try dsimp only at hSw); go_simp)⟩) hHeld ?_
              simp only [Act.put, List.setIfInBounds_toArray, List.set_cons_zero, List.set_cons_succ]
              refine wpAnyH_take (i := 9) (oi := { dst := some 46, op := Op.move (Operand.tmp 6), type := 64, pos := "ref.go:247", after := #[{ on := 7, ground := Ground.guard }], guard := some (7, true) }) (v := .slice (some ⟨g, 0, none⟩) PL cap) rfl (by kernel_rfl) (by kernel_rfl) (by kernel_rfl) (fun _ _ _ h => h) (Or.inl ⟨by kernel_rfl, by (intro w hSw; (try dsimp only at hSw); go_simp)⟩) hHeld ?_
              simp only [Act.put, List.setIfInBounds_toArray, List.set_cons_zero, List.set_cons_succ]
              refine wpAnyH_take (i := 10) (oi := { dst := some 47, op := Op.move (Operand.tmp 7), type := 3, pos := "ref.go:247", after := #[{ on := 7, ground := Ground.guard }], guard := some (7, true) }) (v := .int .i64 k) rfl (by kernel_rfl) (by kernel_rfl) (by kernel_rfl) (fun _ _ _ h => h) (Or.inl ⟨by kernel_rfl, by (intro w hSw; (try dsimp only at hSw); go_simp)⟩) hHeld ?_
              simp only [Act.put, List.setIfInBounds_toArray, List.set_cons_zero, List.set_cons_succ]
              refine wpAnyH_take (i := 11) (oi := { dst := some 48, op := Op.indexAddr 64 (Operand.tmp 46) (Operand.tmp 47), type := 0, pos := "ref.go:247", after := #[{ on := 9, ground := Ground.data }, { on := 10, ground := Ground.data }, { on := 7, ground := Ground.guard }], guard := some (7, true) }) (v := .pointer (some ⟨g, k * 5, none⟩)) rfl (by kernel_rfl) (by kernel_rfl) (by kernel_rfl) (fun _ _ _ h => h) (Or.inl ⟨by kernel_rfl, by (intro w hSw; (try dsimp only at hSw); go_simp)⟩) hHeld ?_
              simp only [Act.put, List.setIfInBounds_toArray, List.set_cons_zero, List.set_cons_succ]
              refine wpAnyH_take (i := 12) (oi := { dst := some 49, op := Op.fieldAddr 67 (Operand.tmp 48) 0, type := 0, pos := "ref.go:247", after := #[{ on := 11, ground := Ground.data }, { on := 7, ground := Ground.guard }], guard := some (7, true) }) (v := .pointer (some ⟨g, k * 5, none⟩)) rfl (by kernel_rfl) (by kernel_rfl) (by kernel_rfl) (fun _ _ _ h => h) (Or.inl ⟨by kernel_rfl, by (intro w hSw; (try dsimp only at hSw); go_simp)⟩) hHeld ?_
              simp only [Act.put, List.setIfInBounds_toArray, List.set_cons_zero, List.set_cons_succ]
              refine wpAnyH_take (i := 13) (oi := { dst := some 50, op := Op.load 3 (Operand.tmp 49), type := 3, pos := "ref.go:247", after := #[{ on := 12, ground := Ground.data }, { on := 7, ground := Ground.guard }], guard := some (7, true) }) (v := .int .i64 P0) rfl (by kernel_rfl) (by kernel_rfl) (by kernel_rfl) (fun _ _ _ h => h) (Or.inl ⟨by kernel_rfl, by (intro w hSw; (try dsimp only at hSw); go_simp)⟩) hHeld ?_
              simp only [Act.put, List.setIfInBounds_toArray, List.set_cons_zero, List.set_cons_succ]
              refine wpAnyH_take (i := 14) (oi := { dst := some 51, op := Op.move (Operand.tmp 6), type := 64, pos := "ref.go:247", after := #[{ on := 7, ground := Ground.guard }], guard := some (7, true) }) (v := .slice (some ⟨g, 0, none⟩) PL cap) rfl (by kernel_rfl) (by kernel_rfl) (by kernel_rfl) (fun _ _ _ h => h) (Or.inl ⟨by kernel_rfl, by (intro w hSw; (try dsimp only at hSw); go_simp)⟩) hHeld ?_
              simp only [Act.put, List.setIfInBounds_toArray, List.set_cons_zero, List.set_cons_succ]
              refine wpAnyH_take (i := 15) (oi := { dst := some 52, op := Op.move (Operand.tmp 7), type := 3, pos := "ref.go:247", after := #[{ on := 7, ground := Ground.guard }], guard := some (7, true) }) (v := .int .i64 k) rfl (by kernel_rfl) (by kernel_rfl) (by kernel_rfl) (fun _ _ _ h => h) (Or.inl ⟨by kernel_rfl, by (intro w hSw; (try dsimp only at hSw); go_simp)⟩) hHeld ?_
              simp only [Act.put, List.setIfInBounds_toArray, List.set_cons_zero, List.set_cons_succ]
              refine wpAnyH_take (i := 16) (oi := { dst := some 53, op := Op.indexAddr 64 (Operand.tmp 51) (Operand.tmp 52), type := 0, pos := "ref.go:247", after := #[{ on := 14, ground := Ground.data }, { on := 15, ground := Ground.data }, { on := 7, ground := Ground.guard }], guard := some (7, true) }) (v := .pointer (some ⟨g, k * 5, none⟩)) rfl (by kernel_rfl) (by kernel_rfl) (by kernel_rfl) (fun _ _ _ h => h) (Or.inl ⟨by kernel_rfl, by (intro w hSw; (try dsimp only at hSw); go_simp)⟩) hHeld ?_
              simp only [Act.put, List.setIfInBounds_toArray, List.set_cons_zero, List.set_cons_succ]
              refine wpAnyH_take (i := 17) (oi := { dst := some 54, op := Op.fieldAddr 67 (Operand.tmp 53) 1, type := 0, pos := "ref.go:247", after := #[{ on := 16, ground := Ground.data }, { on := 7, ground := Ground.guard }], guard := some (7, true) }) (v := .pointer (some ⟨g, k * 5 + 1, none⟩)) rfl (by kernel_rfl) (by kernel_rfl) (by kernel_rfl) (fun _ _ _ h => h) (Or.inl ⟨by kernel_rfl, by (intro w hSw; (try dsimp only at hSw); go_simp)⟩) hHeld ?_
              simp only [Act.put, List.setIfInBounds_toArray, List.set_cons_zero, List.set_cons_succ]
              refine wpAnyH_take (i := 18) (oi := { dst := some 55, op := Op.load 3 (Operand.tmp 54), type := 3, pos := "ref.go:247", after := #[{ on := 17, ground := Ground.data }, { on := 7, ground := Ground.guard }], guard := some (7, true) }) (v := .int .i64 P1) rfl (by kernel_rfl) (by kernel_rfl) (by kernel_rfl) (fun _ _ _ h => h) (Or.inl ⟨by kernel_rfl, by (intro w hSw; (try dsimp only at hSw); go_simp)⟩) hHeld ?_
              simp only [Act.put, List.setIfInBounds_toArray, List.set_cons_zero, List.set_cons_succ]
              refine wpAnyH_take (i := 19) (oi := { dst := some 56, op := Op.binOp BinOp.add 3 (Operand.tmp 50) (Operand.tmp 55) 3, type := 3, pos := "ref.go:247", after := #[{ on := 13, ground := Ground.data }, { on := 18, ground := Ground.data }, { on := 7, ground := Ground.guard }], guard := some (7, true) }) (v := .int .i64 (P0 + P1)) rfl (by kernel_rfl) (by kernel_rfl) (by kernel_rfl) (fun _ _ _ h => h) (Or.inl ⟨by kernel_rfl, by (intro w hSw; (try dsimp only at hSw); go_simp)⟩) hHeld ?_
              simp only [Act.put, List.setIfInBounds_toArray, List.set_cons_zero, List.set_cons_succ]
              refine wpAnyH_take (i := 20) (oi := { dst := some 57, op := Op.binOp BinOp.lss 3 (Operand.tmp 45) (Operand.tmp 56) 3, type := 4, pos := "ref.go:247", after := #[{ on := 8, ground := Ground.data }, { on := 19, ground := Ground.data }, { on := 7, ground := Ground.guard }], guard := some (7, true) }) (v := .bool true) rfl (by kernel_rfl) (by kernel_rfl) (by kernel_rfl) (fun _ _ _ h => h) (Or.inl ⟨by kernel_rfl, by (intro w hSw; (try dsimp only at hSw); go_simp)⟩) hHeld ?_
              simp only [Act.put, List.setIfInBounds_toArray, List.set_cons_zero, List.set_cons_succ]
              refine wpAnyH_take (i := 21) (oi := { dst := some 58, op := Op.pick (Operand.tmp 44) (Operand.tmp 57) (Operand.const (Value.bool false)), type := 4, pos := "ref.go:247", after := #[{ on := 7, ground := Ground.data }, { on := 20, ground := Ground.data }], guard := none }) (v := .bool true) rfl (by kernel_rfl) (by kernel_rfl) (by kernel_rfl) (fun _ _ _ h => h) (Or.inl ⟨by kernel_rfl, by (intro w hSw; (try dsimp only at hSw); go_simp)⟩) hHeld ?_
              simp only [Act.put, List.setIfInBounds_toArray, List.set_cons_zero, List.set_cons_succ]
              refine wpAnyH_done (by kernel_rfl) ?_ _
              clear hHeld
              go_wp2
              obtain ⟨hB, hK3⟩ := set3 HK.out.1.res (.int .i64 P2.kind) (.int .i64 P2.idx) (.int .i64 P2.port)
              obtain ⟨Wb, hWb⟩ : ∃ Wb, Wb = (((wr.setCell ⟨C + 1, 0, none⟩ (.int .i64 P2.kind)).setCell ⟨C + 1, 1, none⟩ (.int .i64 P2.idx)).setCell ⟨C + 1, 2, none⟩ (.int .i64 P2.port)) := ⟨_, rfl⟩
              rw [← hWb] at hB hK3 ⊢
              have hB := hB.kept ((Keeps.refl (fun _ => False) _).drew) fun h => h
              have hK3 := hK3.drew
              (try simp only [Exit.inBlock, Exit.then])
              refine bodyPost_ret (results_cell_two rfl _ _ (C + 1) 36 _ (0, 0) _ rfl hB Try.underlying36 rfl (by kernel_rfl)) rfl ?_
              have hcw := HK.out.1.cw
              exact ⟨by rw [HA.out.1, HF.out]; rfl, HK.out.1.one.keeps.trans hK3 fun k hk e => by omega⟩
            · have e1' : decide (P0 ≤ t) = true := by simp [e1]
              have e2' : decide (t < P0 + P1) = false := by simp [e2]
              have HN : Hid ((l.take (k + 1)).find? (Pc.has t) = none) := by
                show _ = _
                rw [List.take_add_one, HK.out.2.2.2, List.find?_append, HK.out.2.2.1]
                simp [Pc.has, e1, e2]
              clear hb e1 e2
              go_upto_region 9 with fail
              refine wp_region_held_drew (S := (fun w' => w'.cell? ⟨g, k * 5, none⟩ = some (.int .i64 P0) ∧ w'.cell? ⟨g, k * 5 + 1, none⟩ = some (.int .i64 P1))) Try.mixed ⟨y0, y1⟩ (fun hHeld => ?_)
              simp only [List.size_toArray, List.length_cons, List.length_nil, Nat.reduceAdd, Array.replicate_succ, Array.replicate_zero, List.push_toArray, List.append_toArray, List.nil_append, List.cons_append]
              refine wpAnyH_take (i := 0) (oi := { dst := some 37, op := Op.move (Operand.tmp 6), type := 64, pos := "ref.go:247", after := #[], guard := none }) (v := .slice (some ⟨g, 0, none⟩) PL cap) rfl (by kernel_rfl) (by kernel_rfl) (by kernel_rfl) (fun _ _ _ h => h) (Or.inl ⟨by kernel_rfl, by (intro w hSw; (try dsimp only at hSw); go_simp)⟩) hHeld ?_
              simp only [Act.put, List.setIfInBounds_toArray, List.set_cons_zero, List.set_cons_succ]
              refine wpAnyH_take (i := 1) (oi := { dst := some 38, op := Op.move (Operand.tmp 7), type := 3, pos := "ref.go:247", after := #[], guard := none }) (v := .int .i64 k) rfl (by kernel_rfl) (by kernel_rfl) (by kernel_rfl) (fun _ _ _ h => h) (Or.inl ⟨by kernel_rfl, by (intro w hSw; (try dsimp only at hSw); go_simp)⟩) hHeld ?_
              simp only [Act.put, List.setIfInBounds_toArray, List.set_cons_zero, List.set_cons_succ]
              refine wpAnyH_take (i := 2) (oi := { dst := some 39, op := Op.indexAddr 64 (Operand.tmp 37) (Operand.tmp 38), type := 0, pos := "ref.go:247", after := #[{ on := 0, ground := Ground.data }, { on := 1, ground := Ground.data }], guard := none }) (v := .pointer (some ⟨g, k * 5, none⟩)) rfl (by kernel_rfl) (by kernel_rfl) (by kernel_rfl) (fun _ _ _ h => h) (Or.inl ⟨by kernel_rfl, by (intro w hSw; (try dsimp only at hSw); go_simp)⟩) hHeld ?_
              simp only [Act.put, List.setIfInBounds_toArray, List.set_cons_zero, List.set_cons_succ]
              refine wpAnyH_take (i := 3) (oi := { dst := some 40, op := Op.fieldAddr 67 (Operand.tmp 39) 0, type := 0, pos := "ref.go:247", after := #[{ on := 2, ground := Ground.data }], guard := none }) (v := .pointer (some ⟨g, k * 5, none⟩)) rfl (by kernel_rfl) (by kernel_rfl) (by kernel_rfl) (fun _ _ _ h => h) (Or.inl ⟨by kernel_rfl, by (intro w hSw; (try dsimp only at hSw); go_simp)⟩) hHeld ?_
              simp only [Act.put, List.setIfInBounds_toArray, List.set_cons_zero, List.set_cons_succ]
              refine wpAnyH_take (i := 4) (oi := { dst := some 41, op := Op.load 3 (Operand.tmp 40), type := 3, pos := "ref.go:247", after := #[{ on := 3, ground := Ground.data }], guard := none }) (v := .int .i64 P0) rfl (by kernel_rfl) (by kernel_rfl) (by kernel_rfl) (fun _ _ _ h => h) (Or.inl ⟨by kernel_rfl, by (intro w hSw; (try dsimp only at hSw); go_simp)⟩) hHeld ?_
              simp only [Act.put, List.setIfInBounds_toArray, List.set_cons_zero, List.set_cons_succ]
              refine wpAnyH_take (i := 5) (oi := { dst := some 42, op := Op.move (Operand.tmp 1), type := 3, pos := "ref.go:247", after := #[], guard := none }) (v := .int .i64 t) rfl (by kernel_rfl) (by kernel_rfl) (by kernel_rfl) (fun _ _ _ h => h) (Or.inl ⟨by kernel_rfl, by (intro w hSw; (try dsimp only at hSw); go_simp)⟩) hHeld ?_
              simp only [Act.put, List.setIfInBounds_toArray, List.set_cons_zero, List.set_cons_succ]
              refine wpAnyH_take (i := 6) (oi := { dst := some 43, op := Op.binOp BinOp.leq 3 (Operand.tmp 41) (Operand.tmp 42) 3, type := 4, pos := "ref.go:247", after := #[{ on := 4, ground := Ground.data }, { on := 5, ground := Ground.data }], guard := none }) (v := .bool true) rfl (by kernel_rfl) (by kernel_rfl) (by kernel_rfl) (fun _ _ _ h => h) (Or.inl ⟨by kernel_rfl, by (intro w hSw; (try dsimp only at hSw); go_simp)⟩) hHeld ?_
              simp only [Act.put, List.setIfInBounds_toArray, List.set_cons_zero, List.set_cons_succ]
              refine wpAnyH_take (i := 7) (oi := { dst := some 44, op := Op.move (Operand.tmp 43), type := 4, pos := "ref.go:247", after := #[{ on := 6, ground := Ground.data }], guard := none }) (v := .bool true) rfl (by kernel_rfl) (by kernel_rfl) (by kernel_rfl) (fun _ _ _ h => h) (Or.inl ⟨by kernel_rfl, by (intro w hSw; (try dsimp only at hSw); go_simp)⟩) hHeld ?_
              simp only [Act.put, List.setIfInBounds_toArray, List.set_cons_zero, List.set_cons_succ]
              refine wpAnyH_take (i := 8) (oi := { dst := some 45, op := Op.move (Operand.tmp 1), type := 3, pos := "ref.go:247", after := #[{ on := 7, ground := Ground.guard }], guard := some (7, true) }) (v := .int .i64 t) rfl (by kernel_rfl) (by kernel_rfl) (by kernel_rfl) (fun _ _ _ h => h) (Or.inl ⟨by kernel_rfl, by (intro w hSw; (try dsimp only at hSw); go_simp)⟩) hHeld ?_
              simp only [Act.put, List.setIfInBounds_toArray, List.set_cons_zero, List.set_cons_succ]
              refine wpAnyH_take (i := 9) (oi := { dst := some 46, op := Op.move (Operand.tmp 6), type := 64, pos := "ref.go:247", after := #[{ on := 7, ground := Ground.guard }], guard := some (7, true) }) (v := .slice (some ⟨g, 0, none⟩) PL cap) rfl (by kernel_rfl) (by kernel_rfl) (by kernel_rfl) (fun _ _ _ h => h) (Or.inl ⟨by kernel_rfl, by (intro w hSw; (try dsimp only at hSw); go_simp)⟩) hHeld ?_
              simp only [Act.put, List.setIfInBounds_toArray, List.set_cons_zero, List.set_cons_succ]
              refine wpAnyH_take (i := 10) (oi := { dst := some 47, op := Op.move (Operand.tmp 7), type := 3, pos := "ref.go:247", after := #[{ on := 7, ground := Ground.guard }], guard := some (7, true) }) (v := .int .i64 k) rfl (by kernel_rfl) (by kernel_rfl) (by kernel_rfl) (fun _ _ _ h => h) (Or.inl ⟨by kernel_rfl, by (intro w hSw; (try dsimp only at hSw); go_simp)⟩) hHeld ?_
              simp only [Act.put, List.setIfInBounds_toArray, List.set_cons_zero, List.set_cons_succ]
              refine wpAnyH_take (i := 11) (oi := { dst := some 48, op := Op.indexAddr 64 (Operand.tmp 46) (Operand.tmp 47), type := 0, pos := "ref.go:247", after := #[{ on := 9, ground := Ground.data }, { on := 10, ground := Ground.data }, { on := 7, ground := Ground.guard }], guard := some (7, true) }) (v := .pointer (some ⟨g, k * 5, none⟩)) rfl (by kernel_rfl) (by kernel_rfl) (by kernel_rfl) (fun _ _ _ h => h) (Or.inl ⟨by kernel_rfl, by (intro w hSw; (try dsimp only at hSw); go_simp)⟩) hHeld ?_
              simp only [Act.put, List.setIfInBounds_toArray, List.set_cons_zero, List.set_cons_succ]
              refine wpAnyH_take (i := 12) (oi := { dst := some 49, op := Op.fieldAddr 67 (Operand.tmp 48) 0, type := 0, pos := "ref.go:247", after := #[{ on := 11, ground := Ground.data }, { on := 7, ground := Ground.guard }], guard := some (7, true) }) (v := .pointer (some ⟨g, k * 5, none⟩)) rfl (by kernel_rfl) (by kernel_rfl) (by kernel_rfl) (fun _ _ _ h => h) (Or.inl ⟨by kernel_rfl, by (intro w hSw; (try dsimp only at hSw); go_simp)⟩) hHeld ?_
              simp only [Act.put, List.setIfInBounds_toArray, List.set_cons_zero, List.set_cons_succ]
              refine wpAnyH_take (i := 13) (oi := { dst := some 50, op := Op.load 3 (Operand.tmp 49), type := 3, pos := "ref.go:247", after := #[{ on := 12, ground := Ground.data }, { on := 7, ground := Ground.guard }], guard := some (7, true) }) (v := .int .i64 P0) rfl (by kernel_rfl) (by kernel_rfl) (by kernel_rfl) (fun _ _ _ h => h) (Or.inl ⟨by kernel_rfl, by (intro w hSw; (try dsimp only at hSw); go_simp)⟩) hHeld ?_
              simp only [Act.put, List.setIfInBounds_toArray, List.set_cons_zero, List.set_cons_succ]
              refine wpAnyH_take (i := 14) (oi := { dst := some 51, op := Op.move (Operand.tmp 6), type := 64, pos := "ref.go:247", after := #[{ on := 7, ground := Ground.guard }], guard := some (7, true) }) (v := .slice (some ⟨g, 0, none⟩) PL cap) rfl (by kernel_rfl) (by kernel_rfl) (by kernel_rfl) (fun _ _ _ h => h) (Or.inl ⟨by kernel_rfl, by (intro w hSw; (try dsimp only at hSw); go_simp)⟩) hHeld ?_
              simp only [Act.put, List.setIfInBounds_toArray, List.set_cons_zero, List.set_cons_succ]
              refine wpAnyH_take (i := 15) (oi := { dst := some 52, op := Op.move (Operand.tmp 7), type := 3, pos := "ref.go:247", after := #[{ on := 7, ground := Ground.guard }], guard := some (7, true) }) (v := .int .i64 k) rfl (by kernel_rfl) (by kernel_rfl) (by kernel_rfl) (fun _ _ _ h => h) (Or.inl ⟨by kernel_rfl, by (intro w hSw; (try dsimp only at hSw); go_simp)⟩) hHeld ?_
              simp only [Act.put, List.setIfInBounds_toArray, List.set_cons_zero, List.set_cons_succ]
              refine wpAnyH_take (i := 16) (oi := { dst := some 53, op := Op.indexAddr 64 (Operand.tmp 51) (Operand.tmp 52), type := 0, pos := "ref.go:247", after := #[{ on := 14, ground := Ground.data }, { on := 15, ground := Ground.data }, { on := 7, ground := Ground.guard }], guard := some (7, true) }) (v := .pointer (some ⟨g, k * 5, none⟩)) rfl (by kernel_rfl) (by kernel_rfl) (by kernel_rfl) (fun _ _ _ h => h) (Or.inl ⟨by kernel_rfl, by (intro w hSw; (try dsimp only at hSw); go_simp)⟩) hHeld ?_
              simp only [Act.put, List.setIfInBounds_toArray, List.set_cons_zero, List.set_cons_succ]
              refine wpAnyH_take (i := 17) (oi := { dst := some 54, op := Op.fieldAddr 67 (Operand.tmp 53) 1, type := 0, pos := "ref.go:247", after := #[{ on := 16, ground := Ground.data }, { on := 7, ground := Ground.guard }], guard := some (7, true) }) (v := .pointer (some ⟨g, k * 5 + 1, none⟩)) rfl (by kernel_rfl) (by kernel_rfl) (by kernel_rfl) (fun _ _ _ h => h) (Or.inl ⟨by kernel_rfl, by (intro w hSw; (try dsimp only at hSw); go_simp)⟩) hHeld ?_
              simp only [Act.put, List.setIfInBounds_toArray, List.set_cons_zero, List.set_cons_succ]
              refine wpAnyH_take (i := 18) (oi := { dst := some 55, op := Op.load 3 (Operand.tmp 54), type := 3, pos := "ref.go:247", after := #[{ on := 17, ground := Ground.data }, { on := 7, ground := Ground.guard }], guard := some (7, true) }) (v := .int .i64 P1) rfl (by kernel_rfl) (by kernel_rfl) (by kernel_rfl) (fun _ _ _ h => h) (Or.inl ⟨by kernel_rfl, by (intro w hSw; (try dsimp only at hSw); go_simp)⟩) hHeld ?_
              simp only [Act.put, List.setIfInBounds_toArray, List.set_cons_zero, List.set_cons_succ]
              refine wpAnyH_take (i := 19) (oi := { dst := some 56, op := Op.binOp BinOp.add 3 (Operand.tmp 50) (Operand.tmp 55) 3, type := 3, pos := "ref.go:247", after := #[{ on := 13, ground := Ground.data }, { on := 18, ground := Ground.data }, { on := 7, ground := Ground.guard }], guard := some (7, true) }) (v := .int .i64 (P0 + P1)) rfl (by kernel_rfl) (by kernel_rfl) (by kernel_rfl) (fun _ _ _ h => h) (Or.inl ⟨by kernel_rfl, by (intro w hSw; (try dsimp only at hSw); go_simp)⟩) hHeld ?_
              simp only [Act.put, List.setIfInBounds_toArray, List.set_cons_zero, List.set_cons_succ]
              refine wpAnyH_take (i := 20) (oi := { dst := some 57, op := Op.binOp BinOp.lss 3 (Operand.tmp 45) (Operand.tmp 56) 3, type := 4, pos := "ref.go:247", after := #[{ on := 8, ground := Ground.data }, { on := 19, ground := Ground.data }, { on := 7, ground := Ground.guard }], guard := some (7, true) }) (v := .bool false) rfl (by kernel_rfl) (by kernel_rfl) (by kernel_rfl) (fun _ _ _ h => h) (Or.inl ⟨by kernel_rfl, by (intro w hSw; (try dsimp only at hSw); go_simp)⟩) hHeld ?_
              simp only [Act.put, List.setIfInBounds_toArray, List.set_cons_zero, List.set_cons_succ]
              refine wpAnyH_take (i := 21) (oi := { dst := some 58, op := Op.pick (Operand.tmp 44) (Operand.tmp 57) (Operand.const (Value.bool false)), type := 4, pos := "ref.go:247", after := #[{ on := 7, ground := Ground.data }, { on := 20, ground := Ground.data }], guard := none }) (v := .bool false) rfl (by kernel_rfl) (by kernel_rfl) (by kernel_rfl) (fun _ _ _ h => h) (Or.inl ⟨by kernel_rfl, by (intro w hSw; (try dsimp only at hSw); go_simp)⟩) hHeld ?_
              simp only [Act.put, List.setIfInBounds_toArray, List.set_cons_zero, List.set_cons_succ]
              refine wpAnyH_done (by kernel_rfl) ?_ _
              clear hHeld
              go_wp2
              go_roundw
              case rel => exact ⟨k + 1, by omega, by go_num, HN.out, HK.out.2.1.drew⟩
              case measure => simp [intOf]; omega
          · have e1' : decide (P0 ≤ t) = false := by simp [e1]
            have HN : Hid ((l.take (k + 1)).find? (Pc.has t) = none) := by
              show _ = _
              rw [List.take_add_one, HK.out.2.2.2, List.find?_append, HK.out.2.2.1]
              simp [Pc.has, e1]
            clear hb e1
            go_upto_region 9 with fail
            refine wp_region_held_drew (S := (fun w' => w'.cell? ⟨g, k * 5, none⟩ = some (.int .i64 P0) ∧ w'.cell? ⟨g, k * 5 + 1, none⟩ = some (.int .i64 P1))) Try.mixed ⟨y0, y1⟩ (fun hHeld => ?_)
            simp only [List.size_toArray, List.length_cons, List.length_nil, Nat.reduceAdd, Array.replicate_succ, Array.replicate_zero, List.push_toArray, List.append_toArray, List.nil_append, List.cons_append]
            refine wpAnyH_take (i := 0) (oi := { dst := some 37, op := Op.move (Operand.tmp 6), type := 64, pos := "ref.go:247", after := #[], guard := none }) (v := .slice (some ⟨g, 0, none⟩) PL cap) rfl (by kernel_rfl) (by kernel_rfl) (by kernel_rfl) (fun _ _ _ h => h) (Or.inl ⟨by kernel_rfl, by (intro w hSw; (try dsimp only at hSw); go_simp)⟩) hHeld ?_
            simp only [Act.put, List.setIfInBounds_toArray, List.set_cons_zero, List.set_cons_succ]
            refine wpAnyH_take (i := 1) (oi := { dst := some 38, op := Op.move (Operand.tmp 7), type := 3, pos := "ref.go:247", after := #[], guard := none }) (v := .int .i64 k) rfl (by kernel_rfl) (by kernel_rfl) (by kernel_rfl) (fun _ _ _ h => h) (Or.inl ⟨by kernel_rfl, by (intro w hSw; (try dsimp only at hSw); go_simp)⟩) hHeld ?_
            simp only [Act.put, List.setIfInBounds_toArray, List.set_cons_zero, List.set_cons_succ]
            refine wpAnyH_take (i := 2) (oi := { dst := some 39, op := Op.indexAddr 64 (Operand.tmp 37) (Operand.tmp 38), type := 0, pos := "ref.go:247", after := #[{ on := 0, ground := Ground.data }, { on := 1, ground := Ground.data }], guard := none }) (v := .pointer (some ⟨g, k * 5, none⟩)) rfl (by kernel_rfl) (by kernel_rfl) (by kernel_rfl) (fun _ _ _ h => h) (Or.inl ⟨by kernel_rfl, by (intro w hSw; (try dsimp only at hSw); go_simp)⟩) hHeld ?_
            simp only [Act.put, List.setIfInBounds_toArray, List.set_cons_zero, List.set_cons_succ]
            refine wpAnyH_take (i := 3) (oi := { dst := some 40, op := Op.fieldAddr 67 (Operand.tmp 39) 0, type := 0, pos := "ref.go:247", after := #[{ on := 2, ground := Ground.data }], guard := none }) (v := .pointer (some ⟨g, k * 5, none⟩)) rfl (by kernel_rfl) (by kernel_rfl) (by kernel_rfl) (fun _ _ _ h => h) (Or.inl ⟨by kernel_rfl, by (intro w hSw; (try dsimp only at hSw); go_simp)⟩) hHeld ?_
            simp only [Act.put, List.setIfInBounds_toArray, List.set_cons_zero, List.set_cons_succ]
            refine wpAnyH_take (i := 4) (oi := { dst := some 41, op := Op.load 3 (Operand.tmp 40), type := 3, pos := "ref.go:247", after := #[{ on := 3, ground := Ground.data }], guard := none }) (v := .int .i64 P0) rfl (by kernel_rfl) (by kernel_rfl) (by kernel_rfl) (fun _ _ _ h => h) (Or.inl ⟨by kernel_rfl, by (intro w hSw; (try dsimp only at hSw); go_simp)⟩) hHeld ?_
            simp only [Act.put, List.setIfInBounds_toArray, List.set_cons_zero, List.set_cons_succ]
            refine wpAnyH_take (i := 5) (oi := { dst := some 42, op := Op.move (Operand.tmp 1), type := 3, pos := "ref.go:247", after := #[], guard := none }) (v := .int .i64 t) rfl (by kernel_rfl) (by kernel_rfl) (by kernel_rfl) (fun _ _ _ h => h) (Or.inl ⟨by kernel_rfl, by (intro w hSw; (try dsimp only at hSw); go_simp)⟩) hHeld ?_
            simp only [Act.put, List.setIfInBounds_toArray, List.set_cons_zero, List.set_cons_succ]
            refine wpAnyH_take (i := 6) (oi := { dst := some 43, op := Op.binOp BinOp.leq 3 (Operand.tmp 41) (Operand.tmp 42) 3, type := 4, pos := "ref.go:247", after := #[{ on := 4, ground := Ground.data }, { on := 5, ground := Ground.data }], guard := none }) (v := .bool false) rfl (by kernel_rfl) (by kernel_rfl) (by kernel_rfl) (fun _ _ _ h => h) (Or.inl ⟨by kernel_rfl, by (intro w hSw; (try dsimp only at hSw); go_simp)⟩) hHeld ?_
            simp only [Act.put, List.setIfInBounds_toArray, List.set_cons_zero, List.set_cons_succ]
            refine wpAnyH_take (i := 7) (oi := { dst := some 44, op := Op.move (Operand.tmp 43), type := 4, pos := "ref.go:247", after := #[{ on := 6, ground := Ground.data }], guard := none }) (v := .bool false) rfl (by kernel_rfl) (by kernel_rfl) (by kernel_rfl) (fun _ _ _ h => h) (Or.inl ⟨by kernel_rfl, by (intro w hSw; (try dsimp only at hSw); go_simp)⟩) hHeld ?_
            simp only [Act.put, List.setIfInBounds_toArray, List.set_cons_zero, List.set_cons_succ]
            refine wpAnyH_take (i := 8) (oi := { dst := some 45, op := Op.move (Operand.tmp 1), type := 3, pos := "ref.go:247", after := #[{ on := 7, ground := Ground.guard }], guard := some (7, true) }) (v := undef) rfl (by kernel_rfl) (by kernel_rfl) (by kernel_rfl) (fun _ _ _ h => h) (Or.inr ⟨by kernel_rfl, rfl⟩) hHeld ?_
            simp only [Act.put, List.setIfInBounds_toArray, List.set_cons_zero, List.set_cons_succ]
            refine wpAnyH_take (i := 9) (oi := { dst := some 46, op := Op.move (Operand.tmp 6), type := 64, pos := "ref.go:247", after := #[{ on := 7, ground := Ground.guard }], guard := some (7, true) }) (v := undef) rfl (by kernel_rfl) (by kernel_rfl) (by kernel_rfl) (fun _ _ _ h => h) (Or.inr ⟨by kernel_rfl, rfl⟩) hHeld ?_
            simp only [Act.put, List.setIfInBounds_toArray, List.set_cons_zero, List.set_cons_succ]
            refine wpAnyH_take (i := 10) (oi := { dst := some 47, op := Op.move (Operand.tmp 7), type := 3, pos := "ref.go:247", after := #[{ on := 7, ground := Ground.guard }], guard := some (7, true) }) (v := undef) rfl (by kernel_rfl) (by kernel_rfl) (by kernel_rfl) (fun _ _ _ h => h) (Or.inr ⟨by kernel_rfl, rfl⟩) hHeld ?_
            simp only [Act.put, List.setIfInBounds_toArray, List.set_cons_zero, List.set_cons_succ]
            refine wpAnyH_take (i := 11) (oi := { dst := some 48, op := Op.indexAddr 64 (Operand.tmp 46) (Operand.tmp 47), type := 0, pos := "ref.go:247", after := #[{ on := 9, ground := Ground.data }, { on := 10, ground := Ground.data }, { on := 7, ground := Ground.guard }], guard := some (7, true) }) (v := undef) rfl (by kernel_rfl) (by kernel_rfl) (by kernel_rfl) (fun _ _ _ h => h) (Or.inr ⟨by kernel_rfl, rfl⟩) hHeld ?_
            simp only [Act.put, List.setIfInBounds_toArray, List.set_cons_zero, List.set_cons_succ]
            refine wpAnyH_take (i := 12) (oi := { dst := some 49, op := Op.fieldAddr 67 (Operand.tmp 48) 0, type := 0, pos := "ref.go:247", after := #[{ on := 11, ground := Ground.data }, { on := 7, ground := Ground.guard }], guard := some (7, true) }) (v := undef) rfl (by kernel_rfl) (by kernel_rfl) (by kernel_rfl) (fun _ _ _ h => h) (Or.inr ⟨by kernel_rfl, rfl⟩) hHeld ?_
            simp only [Act.put, List.setIfInBounds_toArray, List.set_cons_zero, List.set_cons_succ]
            refine wpAnyH_take (i := 13) (oi := { dst := some 50, op := Op.load 3 (Operand.tmp 49), type := 3, pos := "ref.go:247", after := #[{ on := 12, ground := Ground.data }, { on := 7, ground := Ground.guard }], guard := some (7, true) }) (v := undef) rfl (by kernel_rfl) (by kernel_rfl) (by kernel_rfl) (fun _ _ _ h => h) (Or.inr ⟨by kernel_rfl, rfl⟩) hHeld ?_
            simp only [Act.put, List.setIfInBounds_toArray, List.set_cons_zero, List.set_cons_succ]
            refine wpAnyH_take (i := 14) (oi := { dst := some 51, op := Op.move (Operand.tmp 6), type := 64, pos := "ref.go:247", after := #[{ on := 7, ground := Ground.guard }], guard := some (7, true) }) (v := undef) rfl (by kernel_rfl) (by kernel_rfl) (by kernel_rfl) (fun _ _ _ h => h) (Or.inr ⟨by kernel_rfl, rfl⟩) hHeld ?_
            simp only [Act.put, List.setIfInBounds_toArray, List.set_cons_zero, List.set_cons_succ]
            refine wpAnyH_take (i := 15) (oi := { dst := some 52, op := Op.move (Operand.tmp 7), type := 3, pos := "ref.go:247", after := #[{ on := 7, ground := Ground.guard }], guard := some (7, true) }) (v := undef) rfl (by kernel_rfl) (by kernel_rfl) (by kernel_rfl) (fun _ _ _ h => h) (Or.inr ⟨by kernel_rfl, rfl⟩) hHeld ?_
            simp only [Act.put, List.setIfInBounds_toArray, List.set_cons_zero, List.set_cons_succ]
            refine wpAnyH_take (i := 16) (oi := { dst := some 53, op := Op.indexAddr 64 (Operand.tmp 51) (Operand.tmp 52), type := 0, pos := "ref.go:247", after := #[{ on := 14, ground := Ground.data }, { on := 15, ground := Ground.data }, { on := 7, ground := Ground.guard }], guard := some (7, true) }) (v := undef) rfl (by kernel_rfl) (by kernel_rfl) (by kernel_rfl) (fun _ _ _ h => h) (Or.inr ⟨by kernel_rfl, rfl⟩) hHeld ?_
            simp only [Act.put, List.setIfInBounds_toArray, List.set_cons_zero, List.set_cons_succ]
            refine wpAnyH_take (i := 17) (oi := { dst := some 54, op := Op.fieldAddr 67 (Operand.tmp 53) 1, type := 0, pos := "ref.go:247", after := #[{ on := 16, ground := Ground.data }, { on := 7, ground := Ground.guard }], guard := some (7, true) }) (v := undef) rfl (by kernel_rfl) (by kernel_rfl) (by kernel_rfl) (fun _ _ _ h => h) (Or.inr ⟨by kernel_rfl, rfl⟩) hHeld ?_
            simp only [Act.put, List.setIfInBounds_toArray, List.set_cons_zero, List.set_cons_succ]
            refine wpAnyH_take (i := 18) (oi := { dst := some 55, op := Op.load 3 (Operand.tmp 54), type := 3, pos := "ref.go:247", after := #[{ on := 17, ground := Ground.data }, { on := 7, ground := Ground.guard }], guard := some (7, true) }) (v := undef) rfl (by kernel_rfl) (by kernel_rfl) (by kernel_rfl) (fun _ _ _ h => h) (Or.inr ⟨by kernel_rfl, rfl⟩) hHeld ?_
            simp only [Act.put, List.setIfInBounds_toArray, List.set_cons_zero, List.set_cons_succ]
            refine wpAnyH_take (i := 19) (oi := { dst := some 56, op := Op.binOp BinOp.add 3 (Operand.tmp 50) (Operand.tmp 55) 3, type := 3, pos := "ref.go:247", after := #[{ on := 13, ground := Ground.data }, { on := 18, ground := Ground.data }, { on := 7, ground := Ground.guard }], guard := some (7, true) }) (v := undef) rfl (by kernel_rfl) (by kernel_rfl) (by kernel_rfl) (fun _ _ _ h => h) (Or.inr ⟨by kernel_rfl, rfl⟩) hHeld ?_
            simp only [Act.put, List.setIfInBounds_toArray, List.set_cons_zero, List.set_cons_succ]
            refine wpAnyH_take (i := 20) (oi := { dst := some 57, op := Op.binOp BinOp.lss 3 (Operand.tmp 45) (Operand.tmp 56) 3, type := 4, pos := "ref.go:247", after := #[{ on := 8, ground := Ground.data }, { on := 19, ground := Ground.data }, { on := 7, ground := Ground.guard }], guard := some (7, true) }) (v := undef) rfl (by kernel_rfl) (by kernel_rfl) (by kernel_rfl) (fun _ _ _ h => h) (Or.inr ⟨by kernel_rfl, rfl⟩) hHeld ?_
            simp only [Act.put, List.setIfInBounds_toArray, List.set_cons_zero, List.set_cons_succ]
            refine wpAnyH_take (i := 21) (oi := { dst := some 58, op := Op.pick (Operand.tmp 44) (Operand.tmp 57) (Operand.const (Value.bool false)), type := 4, pos := "ref.go:247", after := #[{ on := 7, ground := Ground.data }, { on := 20, ground := Ground.data }], guard := none }) (v := .bool false) rfl (by kernel_rfl) (by kernel_rfl) (by kernel_rfl) (fun _ _ _ h => h) (Or.inl ⟨by kernel_rfl, by (intro w hSw; (try dsimp only at hSw); go_simp)⟩) hHeld ?_
            simp only [Act.put, List.setIfInBounds_toArray, List.set_cons_zero, List.set_cons_succ]
            refine wpAnyH_done (by kernel_rfl) ?_ _
            clear hHeld
            go_wp2
            go_roundw
            case rel => exact ⟨k + 1, by omega, by go_num, HN.out, HK.out.2.1.drew⟩
            case measure => simp [intOf]; omega
        · obtain rfl : k = PL := by omega
          have HN : Hid (ownD x t = regO (t / 16) x.ps) := by
            show _ = _
            rw [HLL.out]
            rw [List.take_of_length_le (by have := H2.out.2.2; omega)] at hno
            rw [hno]
          have HK : Hid (OwI w x C N wr) := H2.out.1.kept hK
          clear hno hK
          obtain ⟨L, hL⟩ : ∃ L, x.ps.length = L := ⟨_, rfl⟩
          have hpc : (L : Int) ≤ x.pc ∧ (x.pc : Int) ≤ 9223372036854775807 := by have := HK.out.one.cin.plen; unfold maxLen at this; omega
          have HL : Hid (x.ps.length = L ∧ ∀ P ∈ x.ps, P.mayB x.hs.length = true) := ⟨hL, (Cfg.mayB_iff.1 HB.out).2.2.2.2.1⟩
          obtain ⟨q0, q1, q2, q3, q4, q5, q6⟩ := HK.out.one.cells
          rw [hL] at q5
          clear hL q0 q1 q2 q3 q4 q6
          obtain ⟨fr, hfr⟩ : ∃ fr, t / 16 = fr := ⟨_, rfl⟩
          have HFR : Hid (t / 16 = fr ∧ t.tdiv 16 = fr ∧ IntKind.i64.wrap fr = fr) := by
            have h1 := HA.out.2; have h2 := HT.out; unfold I64 at h2
            exact ⟨hfr, by rw [Int.tdiv_eq_ediv_of_nonneg h1, hfr], by rw [IntKind.wrap_i64]; omega⟩
          have HN2 : Hid (ownD x t = regO fr x.ps) := by show _ = _; rw [HN.out, hfr]
          clear hfr
          go_wp2
          clear q5
          go_loopw [68] (fun i wr => ∃ j : Nat, j ≤ L ∧ i = .int .i64 j ∧ (x.ps.take j).any (fun P => P.rs.any (Rgn.hasF fr)) = false ∧ OwI w x C N wr) (fun i _ => L - (intOf i).toNat)
          case atStart => exact ⟨0, by omega, rfl, rfl, HK.out⟩
          case round =>
            obtain ⟨m, hm, rfl, hno, hO⟩ := hrel
            by_cases hlt : m < L
            · obtain ⟨X, hX⟩ : ∃ X, x.ps[m]? = some X := ⟨_, List.getElem?_eq_getElem (by have := HL.out.1; omega)⟩
              obtain ⟨g0, o0, hpa, hc⟩ := hO.one.cin.par hX
              have hXi := hO.one.cin.pin X (List.mem_of_getElem? hX)
              have q5 : wr.cell? ⟨C, 5, none⟩ = some (.slice (some ⟨g0, o0, none⟩) L x.pc) := by
                have := hO.one.cfg.cell (i := 5) rfl
                rw [← hpa, ← HL.out.1]; exact this
              have p6 := hc 6 _ rfl
              obtain ⟨RL, hRL⟩ : ∃ RL, X.rs.length = RL := ⟨_, rfl⟩
              rw [hRL] at p6
              have hxc : (RL : Int) ≤ X.rc ∧ (X.rc : Int) ≤ 9223372036854775807 := by have := hXi.rlen; unfold maxLen at this; omega
              have HJ : Hid (OwI w x C N wr ∧ (x.ps.take m).any (fun P => P.rs.any (Rgn.hasF fr)) = false ∧ x.ps[m]? = some X ∧ X.rs.length = RL ∧ x.pa = some ⟨g0, o0, none⟩) := ⟨hO, hno, hX, hRL, hpa⟩
              clear hno hO hX hRL hXi hc hpa
              go_wp2
              clear q5 p6
              go_loopw [78] (fun i wr => ∃ j : Nat, j ≤ RL ∧ i = .int .i64 j ∧ (X.rs.take j).any (Rgn.hasF fr) = false ∧ OwI w x C N wr) (fun i _ => RL - (intOf i).toNat)
              case atStart => exact ⟨0, by omega, rfl, rfl, HJ.out.1⟩
              case round =>
                obtain ⟨j, hj, rfl, hno, hO⟩ := hrel
                by_cases hlj : j < RL
                · obtain ⟨y, hy⟩ : ∃ y, X.rs[j]? = some y := ⟨_, List.getElem?_eq_getElem (by have := HJ.out.2.2.2.1; omega)⟩
                  have hXi := hO.one.cin.pin X (List.mem_of_getElem? HJ.out.2.2.1)
                  have hyf := hXi.rfine y (List.mem_of_getElem? hy)
                  have hyb := (Par.mayB_iff.1 (HL.out.2 X (List.mem_of_getElem? HJ.out.2.2.1))).2.2.1 y (List.mem_of_getElem? hy)
                  obtain ⟨g1, o1, ha1, hg1⟩ := hXi.rseg.at hy
                  have y0 := hg1 0 _ rfl
                  rw [Nat.add_zero] at y0
                  have y1 := hg1 1 _ rfl
                  have y2 := hg1 2 _ rfl
                  have y3 := hg1 3 _ rfl
                  obtain ⟨g0', o0', hpa, hc⟩ := hO.one.cin.par HJ.out.2.2.1
                  obtain ⟨rfl, rfl⟩ : g0' = g0 ∧ o0' = o0 := by have := hpa.symm.trans HJ.out.2.2.2.2; simpa using this
                  have q5 : wr.cell? ⟨C, 5, none⟩ = some (.slice (some ⟨g0', o0', none⟩) L x.pc) := by
                    have := hO.one.cfg.cell (i := 5) rfl
                    rw [← hpa, ← HL.out.1]; exact this
                  have p6 := hc 6 _ rfl
                  rw [HJ.out.2.2.2.1, ha1] at p6
                  obtain ⟨W3, hW3⟩ : ∃ W3, W3 = wr.alloc (.cells #[.int .i64 y.page, .int .i64 y.pages, .int .i64 y.frame, .int .i64 y.rights] 54) := ⟨_, rfl⟩
                  obtain ⟨G, hG⟩ : ∃ G, G = wr.heap.size := ⟨_, rfl⟩
                  have hB1 : Blk W3 G y.vs 54 := by rw [hW3, hG]; exact Blk.new _ _ _
                  have HI : Hid (OwI w x C N W3 ∧ (X.rs.take j).any (Rgn.hasF fr) = false ∧ X.rs[j]? = some y ∧ y.inB = true) := by
                    rw [hW3]; exact ⟨hO.kept ((Keeps.refl _ _).alloc _), hno, hy, hyb⟩
                  have HB1 : Hid (Blk W3 G y.vs 54) := hB1
                  clear hno hO hXi hyf hyb hg1 hB1 hy hpa hc ha1
                  go_upto_region 19 with fail
                  rw [← hW3, ← hG]
                  clear hW3 hG y0 y1 y2 y3 q5 p6
                  have d1 := HB1.out.cell (i := 1) rfl
                  have d2 := HB1.out.cell (i := 2) rfl
                  have hb1 := Rgn.inB_iff.1 HI.out.2.2.2
                  have hd := HFR.out.2.1
                  have hq := HFR.out.2.2
                  by_cases c1 : 0 ≤ y.frame
                  · have e1 : decide (0 ≤ y.frame) = true := by simp [c1]
                    by_cases c2 : y.frame ≤ 1024
                    · have e2 : decide (y.frame ≤ 1024) = true := by simp [c2]
                      by_cases c3 : y.frame ≤ fr
                      · have e3 : decide (y.frame ≤ fr) = true := by simp [c3]
                        have q9 : IntKind.i64.wrap (y.frame + y.pages) = y.frame + y.pages := by rw [IntKind.wrap_i64]; omega
                        by_cases c4 : fr < y.frame + y.pages
                        · have e4 : decide (fr < y.frame + y.pages) = true := by simp [c4]
                          have HR : Hid (ownD x t = ⟨1, m, 0⟩) := by
                            show _ = _; rw [HN2.out]
                            exact regO_hit HJ.out.2.1 HJ.out.2.2.1 (List.mem_of_getElem? HI.out.2.2.1) (by unfold Rgn.hasF; simp; omega)
                          clear hb1 c1 c2 c3 c4
                          have a0 := HI.out.1.res.cell (i := 0) rfl
                          have a1 := HI.out.1.res.cell (i := 1) rfl
                          have a2 := HI.out.1.res.cell (i := 2) rfl
                          have z0 := HI.out.1.res.frozen 0
                          have z1 := HI.out.1.res.frozen 1
                          have z2 := HI.out.1.res.frozen 2
                          go_wp2
                          obtain ⟨hB, hK3⟩ := set3 HI.out.1.res (.int .i64 1) (.int .i64 m) (.int .i64 0)
                          obtain ⟨Wb, hWb⟩ : ∃ Wb, Wb = (((W3.setCell ⟨C + 1, 0, none⟩ (.int .i64 1)).setCell ⟨C + 1, 1, none⟩ (.int .i64 m)).setCell ⟨C + 1, 2, none⟩ (.int .i64 0)) := ⟨_, rfl⟩
                          rw [← hWb] at hB hK3 ⊢
                          (try simp only [Exit.inBlock, Exit.then])
                          refine bodyPost_ret (results_cell_two rfl _ _ (C + 1) 36 _ (0, 0) _ rfl hB Try.underlying36 rfl (by kernel_rfl)) rfl ?_
                          have hcw := HI.out.1.cw
                          exact ⟨by rw [HA.out.1, HR.out]; rfl, HI.out.1.one.keeps.trans hK3 fun k hk e => by omega⟩
                        · have e4 : decide (fr < y.frame + y.pages) = false := by simp [c4]
                          have HM : Hid ((X.rs.take (j + 1)).any (Rgn.hasF fr) = false) := by
                            show _ = _
                            rw [List.take_add_one, HI.out.2.2.1]
                            simp only [List.any_append, HI.out.2.1, Option.toList, List.any_cons, List.any_nil, Bool.or_false, Bool.false_or]
                            unfold Rgn.hasF; simp; omega
                          have HI1 : Hid (OwI w x C N W3) := HI.out.1
                          clear hb1 c1 c2 c3 c4
                          go_wp2
                          go_roundw
                          case rel => exact ⟨j + 1, by omega, by go_num, HM.out, HI1.out⟩
                          case measure => simp [intOf]; omega
                      · have e3 : decide (y.frame ≤ fr) = false := by simp [c3]
                        have HM : Hid ((X.rs.take (j + 1)).any (Rgn.hasF fr) = false) := by
                          show _ = _
                          rw [List.take_add_one, HI.out.2.2.1]
                          simp only [List.any_append, HI.out.2.1, Option.toList, List.any_cons, List.any_nil, Bool.or_false, Bool.false_or]
                          unfold Rgn.hasF; simp; omega
                        have HI1 : Hid (OwI w x C N W3) := HI.out.1
                        clear hb1 c1 c2 c3
                        go_wp2
                        go_roundw
                        case rel => exact ⟨j + 1, by omega, by go_num, HM.out, HI1.out⟩
                        case measure => simp [intOf]; omega
                    · have e2 : decide (y.frame ≤ 1024) = false := by simp [c2]
                      have HM : Hid ((X.rs.take (j + 1)).any (Rgn.hasF fr) = false) := by
                        show _ = _
                        rw [List.take_add_one, HI.out.2.2.1]
                        simp only [List.any_append, HI.out.2.1, Option.toList, List.any_cons, List.any_nil, Bool.or_false, Bool.false_or]
                        unfold Rgn.hasF; simp; omega
                      have HI1 : Hid (OwI w x C N W3) := HI.out.1
                      clear hb1 c1 c2
                      go_wp2
                      go_roundw
                      case rel => exact ⟨j + 1, by omega, by go_num, HM.out, HI1.out⟩
                      case measure => simp [intOf]; omega
                  · have e1 : decide (0 ≤ y.frame) = false := by simp [c1]
                    have HM : Hid ((X.rs.take (j + 1)).any (Rgn.hasF fr) = false) := by
                      show _ = _
                      rw [List.take_add_one, HI.out.2.2.1]
                      simp only [List.any_append, HI.out.2.1, Option.toList, List.any_cons, List.any_nil, Bool.or_false, Bool.false_or]
                      unfold Rgn.hasF; simp; omega
                    have HI1 : Hid (OwI w x C N W3) := HI.out.1
                    clear hb1 c1
                    go_wp2
                    go_roundw
                    case rel => exact ⟨j + 1, by omega, by go_num, HM.out, HI1.out⟩
                    case measure => simp [intOf]; omega
                · obtain rfl : j = RL := by omega
                  have HI : Hid (OwI w x C N wr ∧ (x.ps.take (m + 1)).any (fun P => P.rs.any (Rgn.hasF fr)) = false) := by
                    refine ⟨hO, ?_⟩
                    rw [List.take_of_length_le (by have := HJ.out.2.2.2.1; omega)] at hno
                    rw [List.take_add_one, HJ.out.2.2.1]
                    simp only [List.any_append, HJ.out.2.1, Option.toList, List.any_cons, hno, List.any_nil, Bool.or_false]
                  clear hno hO
                  go_wp2
                  go_roundw
                  case rel => exact ⟨m + 1, by omega, by go_num, HI.out.2, HI.out.1⟩
                  case measure => simp [intOf]; omega
            · obtain rfl : m = L := by omega
              have HR : Hid (ownD x t = ⟨0, 0, 0⟩) := by
                rw [List.take_of_length_le (by have := HL.out.1; omega)] at hno
                show _ = _; rw [HN2.out]; exact regO_none hno
              have HJ : Hid (OwI w x C N wr) := hO
              have a0 := hO.res.cell (i := 0) rfl
              have a1 := hO.res.cell (i := 1) rfl
              have a2 := hO.res.cell (i := 2) rfl
              have z0 := hO.res.frozen 0
              have z1 := hO.res.frozen 1
              have z2 := hO.res.frozen 2
              clear hno hO
              go_wp2
              obtain ⟨hB, hK3⟩ := set3 HJ.out.res (.int .i64 0) (.int .i64 0) (.int .i64 0)
              obtain ⟨Wb, hWb⟩ : ∃ Wb, Wb = (((wr.setCell ⟨C + 1, 0, none⟩ (.int .i64 0)).setCell ⟨C + 1, 1, none⟩ (.int .i64 0)).setCell ⟨C + 1, 2, none⟩ (.int .i64 0)) := ⟨_, rfl⟩
              rw [← hWb] at hB hK3 ⊢
              (try simp only [Exit.inBlock, Exit.then])
              refine bodyPost_ret (results_cell_two rfl _ _ (C + 1) 36 _ (0, 0) _ rfl hB Try.underlying36 rfl (by kernel_rfl)) rfl ?_
              have hcw := HJ.out.cw
              exact ⟨by rw [HA.out.1, HR.out]; rfl, HJ.out.one.keeps.trans hK3 fun k hk e => by omega⟩
    · have HA : Hid (ownR x t = (⟨0, 0, 0⟩, 151)) := by show _ = _; unfold ownR; rw [HB.out, if_neg (by simp), if_pos (by simpa using hw)]
      have hn : ¬ (0 ≤ t ∧ t / 16 < x.frames ∧ t / 16 < 1024) := fun h => hw (isW_iff.2 h)
      by_cases g1 : t < 0
      · have g1' : decide (t < 0) = true := by simp [g1]
        clear hty hw hn
        go_wp2
        obtain ⟨hB, hK3⟩ := set3 H1.out.res (.int .i64 0) (.int .i64 0) (.int .i64 0)
        obtain ⟨Wb, hWb⟩ : ∃ Wb, Wb = (((w1.setCell ⟨C + 1, 0, none⟩ (.int .i64 0)).setCell ⟨C + 1, 1, none⟩ (.int .i64 0)).setCell ⟨C + 1, 2, none⟩ (.int .i64 0)) := ⟨_, rfl⟩
        rw [← hWb] at hB hK3 ⊢
        (try simp only [Exit.inBlock, Exit.then])
        refine bodyPost_ret (results_cell_two rfl _ _ (C + 1) 36 _ (0, 0) _ rfl hB Try.underlying36 rfl (by kernel_rfl)) rfl ?_
        have hcw := H1.out.cw
        exact ⟨by rw [HA.out]; rfl, H1.out.one.keeps.trans hK3 fun k hk e => by omega⟩
      · have g1' : decide (t < 0) = false := by simp [g1]
        have hd : t.tdiv 16 = t / 16 := Int.tdiv_eq_ediv_of_nonneg (by omega)
        have hq : IntKind.i64.wrap (t / 16) = t / 16 := by rw [IntKind.wrap_i64]; omega
        by_cases g2 : x.frames ≤ t / 16
        · have g2' : decide (x.frames ≤ t / 16) = true := by simp [g2]
          clear hty hw hn g1
          go_wp2
          obtain ⟨hB, hK3⟩ := set3 H1.out.res (.int .i64 0) (.int .i64 0) (.int .i64 0)
          obtain ⟨Wb, hWb⟩ : ∃ Wb, Wb = (((w1.setCell ⟨C + 1, 0, none⟩ (.int .i64 0)).setCell ⟨C + 1, 1, none⟩ (.int .i64 0)).setCell ⟨C + 1, 2, none⟩ (.int .i64 0)) := ⟨_, rfl⟩
          rw [← hWb] at hB hK3 ⊢
          (try simp only [Exit.inBlock, Exit.then])
          refine bodyPost_ret (results_cell_two rfl _ _ (C + 1) 36 _ (0, 0) _ rfl hB Try.underlying36 rfl (by kernel_rfl)) rfl ?_
          have hcw := H1.out.cw
          exact ⟨by rw [HA.out]; rfl, H1.out.one.keeps.trans hK3 fun k hk e => by omega⟩
        · have g2' : decide (x.frames ≤ t / 16) = false := by simp [g2]
          have g3 : decide (1024 ≤ t / 16) = true := by simp; omega
          clear hty hw hn g1
          go_wp2
          obtain ⟨hB, hK3⟩ := set3 H1.out.res (.int .i64 0) (.int .i64 0) (.int .i64 0)
          obtain ⟨Wb, hWb⟩ : ∃ Wb, Wb = (((w1.setCell ⟨C + 1, 0, none⟩ (.int .i64 0)).setCell ⟨C + 1, 1, none⟩ (.int .i64 0)).setCell ⟨C + 1, 2, none⟩ (.int .i64 0)) := ⟨_, rfl⟩
          rw [← hWb] at hB hK3 ⊢
          (try simp only [Exit.inBlock, Exit.then])
          refine bodyPost_ret (results_cell_two rfl _ _ (C + 1) 36 _ (0, 0) _ rfl hB Try.underlying36 rfl (by kernel_rfl)) rfl ?_
          have hcw := H1.out.cw
          exact ⟨by rw [HA.out]; rfl, H1.out.one.keeps.trans hK3 fun k hk e => by omega⟩
end Go.Proofs.Ythaoopaafdgioab
