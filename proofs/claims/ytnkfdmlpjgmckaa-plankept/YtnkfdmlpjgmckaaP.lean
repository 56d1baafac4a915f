import Derived.Test.YtnkfdmlpjgmckaaO
namespace Go.Proofs.Ytnkfdmlpjgmckaa
open Go.RowKit
set_option linter.unusedVariables false
set_option maxRecDepth 6000

/-- What Share tells. -/
def ShR (x : Cfg) (p : Int) (r : Nat) (e : Int) : Prop :=
  if 0 ≤ p ∧ p < x.ps.length then if fills x.major x.cs = true then shr (useAll p x.cs x.cs.length) x.major = some r ∧ e = 0 else r = 0 ∧ e = 1 else r = 0 ∧ e = 142
def ShP (w : World) (x : Cfg) (p : Int) (e : Ending) (w' : World) : Prop := ∃ r er, e = .returned (.tuple #[.float .f64 r, .int .i64 er]) ∧ ShR x p r er ∧ Keeps (fun _ => False) w w'
theorem ShR.unique {x : Cfg} {p : Int} {r r' : Nat} {e e' : Int} (h : ShR x p r e) (h' : ShR x p r' e') : r = r' ∧ e = e' := by
  unfold ShR at h h'
  split at h
  · rw [if_pos (by assumption)] at h'
    split at h
    · rw [if_pos (by assumption)] at h'
      rw [h.1] at h'
      exact ⟨Option.some.inj h'.1, by rw [h.2, h'.2]⟩
    · rw [if_neg (by assumption)] at h'
      exact ⟨by rw [h.1, h'.1], by rw [h.2, h'.2]⟩
  · rw [if_neg (by assumption)] at h'
    exact ⟨by rw [h.1, h'.1], by rw [h.2, h'.2]⟩

theorem share_no (x : Cfg) (p : Int) (w : World) (N : Nat) (hi : x.In w N) (hN : N ≤ w.heap.size) (hp : ¬ (0 ≤ p ∧ p < x.ps.length)) :
    Calls Try.prog 27 #[x.v, .int .i64 p] w (ShP w x p) := by
  have HR : Hid (ShR x p 0 142) := by unfold Hid ShR; rw [if_neg hp]; exact ⟨rfl, rfl⟩
  obtain ⟨W, hW⟩ : ∃ W, W = x.laid w := ⟨_, rfl⟩
  obtain ⟨C, hC⟩ : ∃ C, C = w.heap.size := ⟨_, rfl⟩
  have HO : Hid (One w x C N W) := by rw [hW, hC]; exact One.mk' hi hN
  have HC : Hid (Calls Try.prog 38 #[x.v, .int .i64 p] W fun e w' => e = .returned (.bool false) ∧ Keeps (fun _ => False) W w') := by
    have h := isPartition_any x p W
    rw [show (decide (0 ≤ p) && decide (p < (x.ps.length : Int))) = false from by rw [Bool.eq_false_iff]; intro h; simp at h; exact hp h] at h
    exact h
  clear hi hN hp
  go_enter Try.func27, Try.ntmps27
  go_wp2_with fail
  unfold Cfg.laid at hW
  rw [← hW, ← hC]
  clear hW hC
  refine HC.out.mono ?_
  rintro e w1 ⟨rfl, hK⟩
  have HO1 : Hid (One w x C N w1) := HO.out.kept hK
  clear hK HC
  go_wp2
  go_ret2
  exact ⟨0, 142, rfl, HR.out, HO1.out.keeps⟩

/-- All cells of a configuration's block. -/
theorem One.cells {w : World} {x : Cfg} {C N : Nat} {w' : World} (h : One w x C N w') : w'.cell? ⟨C, 0, none⟩ = some (.int .i64 x.frames) ∧ w'.cell? ⟨C, 1, none⟩ = some (.int .i64 x.major) ∧ w'.cell? ⟨C, 2, none⟩ = some (.int .i64 x.kernel) ∧ w'.cell? ⟨C, 3, none⟩ = some (.int .i64 x.room)
    ∧ w'.cell? ⟨C, 4, none⟩ = some (.slice x.ca x.cs.length x.cc) ∧ w'.cell? ⟨C, 5, none⟩ = some (.slice x.pa x.ps.length x.pc) ∧ w'.cell? ⟨C, 6, none⟩ = some (.slice x.ha x.hs.length x.hc) :=
  ⟨h.cfg.cell rfl, h.cfg.cell rfl, h.cfg.cell rfl, h.cfg.cell rfl, h.cfg.cell rfl, h.cfg.cell rfl, h.cfg.cell rfl⟩

theorem share_bad (x : Cfg) (p : Int) (w : World) (N : Nat) (hi : x.In w N) (hN : N ≤ w.heap.size) (hp : 0 ≤ p ∧ p < x.ps.length) (hf : fills x.major x.cs = false) :
    Calls Try.prog 27 #[x.v, .int .i64 p] w (ShP w x p) := by
  have HR : Hid (ShR x p 0 1) := by unfold Hid ShR; rw [if_pos hp, if_neg (by rw [hf]; simp)]; exact ⟨rfl, rfl⟩
  obtain ⟨W, hW⟩ : ∃ W, W = x.laid w := ⟨_, rfl⟩
  obtain ⟨C, hC⟩ : ∃ C, C = w.heap.size := ⟨_, rfl⟩
  have HO : Hid (One w x C N W) := by rw [hW, hC]; exact One.mk' hi hN
  have HC : Hid (Calls Try.prog 38 #[x.v, .int .i64 p] W fun e w' => e = .returned (.bool true) ∧ Keeps (fun _ => False) W w') := by
    have h := isPartition_any x p W
    rw [show (decide (0 ≤ p) && decide (p < (x.ps.length : Int))) = true from by simp; exact hp] at h
    exact h
  have HF : Hid (fills x.major x.cs = false) := hf
  clear hi hN hp hf
  go_enter Try.func27, Try.ntmps27
  go_wp2_with fail
  unfold Cfg.laid at hW
  rw [← hW, ← hC]
  clear hW hC
  refine HC.out.mono ?_
  rintro e w1 ⟨rfl, hK⟩
  have HO1 : Hid (One w x C N w1) := HO.out.kept hK
  clear hK HC
  obtain ⟨c0, c1, c2, c3, c4, c5, c6⟩ := HO1.out.cells
  go_wp2_with fail
  refine (allFill_any x w1 N HO1.out.cin HO1.out.nn).mono ?_
  rw [HF.out]
  rintro e w2 ⟨rfl, hK⟩
  have HO2 : Hid (One w x C N w2) := HO1.out.kept hK
  clear hK c0 c1 c2 c3 c4 c5 c6
  go_wp2
  go_ret2
  exact ⟨0, 1, rfl, HR.out, HO2.out.keeps⟩
end Go.Proofs.Ytnkfdmlpjgmckaa
