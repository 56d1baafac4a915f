import Derived.Test.YthaoopaafdgioaaSr
namespace Go.Proofs.Ythaoopaafdgioaa
open Go.RowKit
set_option linter.unusedVariables false
set_option linter.unusedSimpArgs false
set_option maxRecDepth 6000

/-- Whose a word of a configuration that can be laid out is. -/
def ownO (x : Cfg) (t : Int) : Ow :=
  if (lastGo t (16 * x.kernel) ⟨0, 0, 0⟩ (layH x (16 * x.kernel))).kind = 0 then regO (t / 16) x.ps else lastGo t (16 * x.kernel) ⟨0, 0, 0⟩ (layH x (16 * x.kernel))
/-- What Owner answers. -/
def ownA (x : Cfg) (t : Int) : Ow × Int :=
  if x.mayB = false then (⟨0, 0, 0⟩, 150) else if isW x.frames t = false then (⟨0, 0, 0⟩, 151) else (ownO x t, 0)

structure OwI (w : World) (x : Cfg) (C N : Nat) (w' : World) : Prop where
  one : One w x C N w'
  res : Blk w' (C + 1) [.int .i64 0, .int .i64 0, .int .i64 0] 40
  cw : C = w.heap.size
theorem OwI.kept {w : World} {x : Cfg} {C N : Nat} {w' w'' : World} (h : OwI w x C N w') (hK : Keeps (fun _ => False) w' w'') : OwI w x C N w'' :=
  ⟨h.one.kept hK, h.res.kept hK fun h => h, h.cw⟩

set_option maxHeartbeats 4000000 in
theorem Owner_any (x : Cfg) (t : Int) (ht : I64 t) (w : World) (N : Nat) (hi : x.In w N) (hN : N ≤ w.heap.size) :
    Calls Try.prog 14 #[x.v, .int .i64 t] w fun e w' => e = .returned (.tuple #[(ownA x t).1.v, .int .i64 (ownA x t).2]) ∧ Keeps (fun _ => False) w w' := by
  obtain ⟨W, hW⟩ : ∃ W, W = (x.laid w).alloc (.cells #[.int .i64 0, .int .i64 0, .int .i64 0] 40) := ⟨_, rfl⟩
  obtain ⟨C, hC⟩ : ∃ C, C = w.heap.size := ⟨_, rfl⟩
  have HO : Hid (OwI w x C N W) := by
    have s0 : (x.laid w).heap.size = C + 1 := by rw [hC]; simp [Cfg.laid]
    refine ⟨?_, ?_, hC⟩
    · rw [hW, hC]; exact (One.mk' hi hN).kept ((Keeps.refl _ _).alloc _)
    · rw [hW, ← s0]; exact Blk.new _ _ _
  have HT : Hid (I64 t) := ht
  clear hi hN ht
  unfold Cfg.laid at hW
  go_enter Try.func14, Try.ntmps14
  go_upto_region 1 with fail
  rw [← hW, ← hC]
  clear hW hC
  obtain ⟨q0, q1, q2, q3, q4, q5, q6⟩ := HO.out.one.cells
  have HC : Hid (Calls Try.prog 29 #[x.v] W fun e w' => e = .returned (.bool x.mayB) ∧ Keeps (fun _ => False) W w') := canLie_any x W N HO.out.one.cin HO.out.one.nn
  go_wp2_with fail
  refine HC.out.mono ?_
  rintro e w1 ⟨rfl, hK⟩
  have H1 : Hid (OwI w x C N w1) := HO.out.kept hK
  clear hK HC HO q0 q1 q2 q3 q4 q5 q6
  obtain ⟨b, hb⟩ : ∃ b, x.mayB = b := ⟨_, rfl⟩
  rw [hb]
  have HB : Hid (x.mayB = b) := hb
  clear hb
  cases b with
  | false =>
    have HA : Hid (ownA x t = (⟨0, 0, 0⟩, 150)) := by show _ = _; unfold ownA; rw [HB.out]; rfl
    have a0 := H1.out.res.cell (i := 0) rfl
    have a1 := H1.out.res.cell (i := 1) rfl
    have a2 := H1.out.res.cell (i := 2) rfl
    have z0 := H1.out.res.frozen 0
    have z1 := H1.out.res.frozen 1
    have z2 := H1.out.res.frozen 2
    go_wp2
    obtain ⟨hB, hK3⟩ := set3 H1.out.res (.int .i64 0) (.int .i64 0) (.int .i64 0)
    obtain ⟨Wb, hWb⟩ : ∃ Wb, Wb = (((w1.setCell ⟨C + 1, 0, none⟩ (.int .i64 0)).setCell ⟨C + 1, 1, none⟩ (.int .i64 0)).setCell ⟨C + 1, 2, none⟩ (.int .i64 0)) := ⟨_, rfl⟩
    rw [← hWb] at hB hK3 ⊢
    (try simp only [Exit.inBlock, Exit.then])
    refine bodyPost_ret (results_cell_two rfl _ _ (C + 1) 40 _ (0, 0) _ rfl hB Try.underlying40 rfl (by kernel_rfl)) rfl ?_
    have hcw := H1.out.cw
    exact ⟨by rw [HA.out]; rfl, H1.out.one.keeps.trans hK3 fun k hk e => by omega⟩
  | true =>
    obtain ⟨q0, q1, q2, q3, q4, q5, q6⟩ := H1.out.one.cells
    have HC : Hid (Calls Try.prog 36 #[x.v, .int .i64 t] w1 fun e w' => e = .returned (.bool (isW x.frames t)) ∧ Keeps (fun _ => False) w1 w') := isWord_any x t HT.out w1 N H1.out.one.cin H1.out.one.nn
    go_wp2_with fail
    refine HC.out.mono ?_
    rintro e w2 ⟨rfl, hK⟩
    have H2 : Hid (OwI w x C N w2) := H1.out.kept hK
    clear hK HC H1 q0 q1 q2 q3 q4 q5 q6
    obtain ⟨b, hb⟩ : ∃ b, isW x.frames t = b := ⟨_, rfl⟩
    rw [hb]
    have HW : Hid (isW x.frames t = b) := hb
    clear hb
    cases b with
    | false =>
      have HA : Hid (ownA x t = (⟨0, 0, 0⟩, 151)) := by show _ = _; unfold ownA; rw [HB.out, HW.out]; rfl
      have a0 := H2.out.res.cell (i := 0) rfl
      have a1 := H2.out.res.cell (i := 1) rfl
      have a2 := H2.out.res.cell (i := 2) rfl
      have z0 := H2.out.res.frozen 0
      have z1 := H2.out.res.frozen 1
      have z2 := H2.out.res.frozen 2
      go_wp2
      obtain ⟨hB, hK3⟩ := set3 H2.out.res (.int .i64 0) (.int .i64 0) (.int .i64 0)
      obtain ⟨Wb, hWb⟩ : ∃ Wb, Wb = (((w2.setCell ⟨C + 1, 0, none⟩ (.int .i64 0)).setCell ⟨C + 1, 1, none⟩ (.int .i64 0)).setCell ⟨C + 1, 2, none⟩ (.int .i64 0)) := ⟨_, rfl⟩
      rw [← hWb] at hB hK3 ⊢
      (try simp only [Exit.inBlock, Exit.then])
      refine bodyPost_ret (results_cell_two rfl _ _ (C + 1) 40 _ (0, 0) _ rfl hB Try.underlying40 rfl (by kernel_rfl)) rfl ?_
      have hcw := H2.out.cw
      exact ⟨by rw [HA.out]; rfl, H2.out.one.keeps.trans hK3 fun k hk e => by omega⟩
    | true =>
      have HA : Hid (ownA x t = (ownO x t, 0) ∧ 0 ≤ t) := by
        refine ⟨by unfold ownA; rw [HB.out, HW.out]; rfl, ?_⟩
        have := HW.out; unfold isW at this; simp at this; omega
      obtain ⟨q0, q1, q2, q3, q4, q5, q6⟩ := H2.out.one.cells
      have HC : Hid (Calls Try.prog 37 #[x.v, .int .i64 t] w2 fun e w' => e = .returned (lastGo t (16 * x.kernel) ⟨0, 0, 0⟩ (layH x (16 * x.kernel))).v ∧ Keeps (fun _ => False) w2 w') := kernelOwner_any x t w2 N H2.out.one.cin H2.out.one.nn HB.out
      go_wp2_with fail
      refine HC.out.mono ?_
      rintro e w3 ⟨rfl, hK⟩
      have H3 : Hid (OwI w x C N w3) := H2.out.kept hK
      clear hK HC H2 q0 q1 q2 q3 q4 q5 q6
      obtain ⟨O, hO⟩ : ∃ O, lastGo t (16 * x.kernel) ⟨0, 0, 0⟩ (layH x (16 * x.kernel)) = O := ⟨_, rfl⟩
      rw [hO]
      have HQ : Hid (ownO x t = if O.kind = 0 then regO (t / 16) x.ps else O) := by show _ = _; unfold ownO; rw [hO]
      clear hO
      obtain ⟨W4, hW4⟩ : ∃ W4, W4 = w3.alloc (.cells #[.int .i64 O.kind, .int .i64 O.idx, .int .i64 O.port] 40) := ⟨_, rfl⟩
      obtain ⟨M, hM⟩ : ∃ M, M = w3.heap.size := ⟨_, rfl⟩
      have H4 : Hid (OwI w x C N W4 ∧ Blk W4 M O.vs 40) := by
        rw [hW4, hM]; exact ⟨H3.out.kept ((Keeps.refl _ _).alloc _), Blk.new _ _ _⟩
      go_upto_region 6 with fail
      rw [← hW4, ← hM]
      clear hW4 hM H3
      have f0 := H4.out.2.cell (i := 0) rfl
      have f1 := H4.out.2.cell (i := 1) rfl
      have f2 := H4.out.2.cell (i := 2) rfl
      by_cases hz : O.kind = 0
      · have e1 : (O.kind == 0) = true := by simp [hz]
        have HR : Hid (ownO x t = regO (t / 16) x.ps) := by show _ = _; rw [HQ.out, if_pos hz]
        have HC : Hid (Calls Try.prog 38 #[x.v, .int .i64 (t / 16)] W4 fun e w' => e = .returned (regO (t / 16) x.ps).v ∧ Keeps (fun _ => False) W4 w') := regionOwner_any x (t / 16) W4 N H4.out.1.one.cin H4.out.1.one.nn HB.out
        obtain ⟨q0, q1, q2, q3, q4, q5, q6⟩ := H4.out.1.one.cells
        have hd : t.tdiv 16 = t / 16 := Int.tdiv_eq_ediv_of_nonneg HA.out.2
        have hq : IntKind.i64.wrap (t / 16) = t / 16 := by have h1 := HT.out; have h2 := HA.out.2; rw [IntKind.wrap_i64]; unfold I64 at h1; omega
        clear hz
        go_wp2_with fail
        clear hd hq
        refine HC.out.mono ?_
        rintro e w5 ⟨rfl, hK⟩
        have H5 : Hid (OwI w x C N w5) := H4.out.1.kept hK
        clear hK HC q0 q1 q2 q3 q4 q5 q6 f0 f1 f2
        obtain ⟨R, hR⟩ : ∃ R, regO (t / 16) x.ps = R := ⟨_, rfl⟩
        have HR2 : Hid (ownO x t = R) := by show _ = _; rw [HR.out, hR]
        rw [hR]
        clear hR
        have a0 := H5.out.res.cell (i := 0) rfl
        have a1 := H5.out.res.cell (i := 1) rfl
        have a2 := H5.out.res.cell (i := 2) rfl
        have z0 := H5.out.res.frozen 0
        have z1 := H5.out.res.frozen 1
        have z2 := H5.out.res.frozen 2
        go_wp2
        obtain ⟨hB, hK3⟩ := set3 H5.out.res (.int .i64 R.kind) (.int .i64 R.idx) (.int .i64 R.port)
        obtain ⟨Wb, hWb⟩ : ∃ Wb, Wb = (((w5.setCell ⟨C + 1, 0, none⟩ (.int .i64 R.kind)).setCell ⟨C + 1, 1, none⟩ (.int .i64 R.idx)).setCell ⟨C + 1, 2, none⟩ (.int .i64 R.port)) := ⟨_, rfl⟩
        rw [← hWb] at hB hK3 ⊢
        (try simp only [Exit.inBlock, Exit.then])
        refine bodyPost_ret (results_cell_two rfl _ _ (C + 1) 40 _ (0, 0) _ rfl hB Try.underlying40 rfl (by kernel_rfl)) rfl ?_
        have hcw := H5.out.cw
        exact ⟨by rw [HA.out.1, HR2.out]; rfl, H5.out.one.keeps.trans hK3 fun k hk e => by omega⟩
      · have e1 : (O.kind == 0) = false := by simp [hz]
        have HR : Hid (ownO x t = O) := by show _ = _; rw [HQ.out, if_neg hz]
        have a0 := H4.out.1.res.cell (i := 0) rfl
        have a1 := H4.out.1.res.cell (i := 1) rfl
        have a2 := H4.out.1.res.cell (i := 2) rfl
        have z0 := H4.out.1.res.frozen 0
        have z1 := H4.out.1.res.frozen 1
        have z2 := H4.out.1.res.frozen 2
        clear hz
        go_wp2
        obtain ⟨hB, hK3⟩ := set3 H4.out.1.res (.int .i64 O.kind) (.int .i64 O.idx) (.int .i64 O.port)
        obtain ⟨Wb, hWb⟩ : ∃ Wb, Wb = (((W4.setCell ⟨C + 1, 0, none⟩ (.int .i64 O.kind)).setCell ⟨C + 1, 1, none⟩ (.int .i64 O.idx)).setCell ⟨C + 1, 2, none⟩ (.int .i64 O.port)) := ⟨_, rfl⟩
        rw [← hWb] at hB hK3 ⊢
        (try simp only [Exit.inBlock, Exit.then])
        refine bodyPost_ret (results_cell_two rfl _ _ (C + 1) 40 _ (0, 0) _ rfl hB Try.underlying40 rfl (by kernel_rfl)) rfl ?_
        have hcw := H4.out.1.cw
        exact ⟨by rw [HA.out.1, HR.out]; rfl, H4.out.1.one.keeps.trans hK3 fun k hk e => by omega⟩
end Go.Proofs.Ythaoopaafdgioaa
