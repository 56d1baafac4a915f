import Derived.Test.YtnkfdmlpjgmckaaQ
namespace Go.Proofs.Ytnkfdmlpjgmckaa
open Go.RowKit
set_option linter.unusedVariables false
set_option maxRecDepth 6000

theorem Try.info67 : (Try.prog.info? 67).map (fun i => (i.zero, i.size, i.bytes)) = some (some (.agg #[.string ⟨#[]⟩, .int .i64 0, .int .i64 0, .int .i64 0, .int .i64 0, .int .i64 0, .slice none 0 0, .slice none 0 0]), 8, 104) := by kernel_rfl
def par0 : Par := ⟨⟨#[]⟩, 0, 0, 0, 0, 0, none, 0, [], none, 0, []⟩
theorem run_make_par (w : World) :
    (Instr.makeSlice 24 (.int .i64 1) (.int .i64 1)).run Try.prog w = .ok (.slice (some ⟨w.heap.size, 0, none⟩) 1 1) (w.alloc (.cells par0.vs.toArray 67)) := by
  obtain ⟨i0, hi, hz0, hz1, hz2⟩ := info_parts Try.info67
  have h := run_make (P := Try.prog) w 24 67 i0 _ Try.underlying24 hi hz0 .i64 .i64 1 1 (by omega) (by omega) (by rw [hz2]; omega) (by omega)
  have e : madeCells (Value.agg #[.string ⟨#[]⟩, .int .i64 0, .int .i64 0, .int .i64 0, .int .i64 0, .int .i64 0, .slice none 0 0, .slice none 0 0]).cells ((1 : Int).toNat * 8) = par0.vs.toArray := by kernel_rfl
  rw [hz1, e] at h
  exact h

def win1 : Win := ⟨0, 60, 40⟩
def core1 (b : Nat) : Core := ⟨some ⟨b, 0, none⟩, 1, [win1]⟩
def cfg1 (b : Nat) : Cfg := ⟨0, 100, 0, 0, some ⟨b + 1, 0, none⟩, 1, [core1 b], some ⟨b + 2, 0, none⟩, 1, [par0], none, 0, []⟩
theorem cfg1_in {w : World} {b : Nat} (h1 : Blk w b win1.vs 40) (h2 : Blk w (b + 1) (core1 b).vs 38) (h3 : Blk w (b + 2) par0.vs 67) : (cfg1 b).In w (b + 3) := by
  have sg : ∀ {α : Type} (cells : α → List Value) (k : Nat) (x : α) (b : Nat) (t : TypeId), Blk w b (cells x) t → SegA cells k w (some ⟨b, 0, none⟩) [x] := by
    intro α cells k x b t hB
    refine .inr ⟨b, 0, rfl, fun j y hj i v hv => ?_⟩
    cases j with
    | succ j => simp at hj
    | zero =>
      simp at hj
      subst hj
      simp only [Nat.zero_mul, Nat.zero_add]
      exact hB.cell hv
  have hi : ∀ n : Int, n = 0 ∨ n = 60 ∨ n = 40 ∨ n = 100 → I64 n := by intro n hn; unfold I64; omega
  have e0 := hi 0 (.inl rfl)
  have m1 : 1 ≤ maxLen := by unfold maxLen; omega
  refine ⟨sg Core.vs 1 (core1 b) (b + 1) 38 h2, fun _ y hy => ?_, ⟨Nat.le_refl _, m1⟩, fun y hy => ?_, sg Par.vs 8 par0 (b + 2) 67 h3, fun _ y hy => ?_, ⟨Nat.le_refl _, m1⟩, fun y hy => ?_, .inl rfl, fun h => (h rfl).elim, ⟨Nat.le_refl _, Nat.zero_le _⟩, fun y hy => (by cases hy), fun n hn => ?_⟩
  · cases hy; show b + 1 < b + 3; omega
  · obtain rfl : y = core1 b := by simpa [cfg1] using hy
    refine ⟨sg Win.vs 3 win1 b 40 h1, fun _ y hy => ?_, ⟨Nat.le_refl _, m1⟩, fun y hy => ?_⟩
    · cases hy; show b < b + 3; omega
    · obtain rfl : y = win1 := by simpa [core1] using hy
      exact ⟨e0, hi 60 (by omega), hi 40 (by omega)⟩
  · cases hy; show b + 2 < b + 3; omega
  · obtain rfl : y = par0 := by simpa [cfg1] using hy
    refine ⟨.inl rfl, fun h => (h rfl).elim, ⟨Nat.le_refl _, Nat.zero_le _⟩, fun y hy => (by cases hy), .inl rfl, fun h => (h rfl).elim, ⟨Nat.le_refl _, Nat.zero_le _⟩, fun y hy => (by cases hy), fun n hn => ?_, by show (0 : Nat) ≤ _; omega⟩
    simp [Par.ns, par0] at hn
    subst hn; exact e0
  · simp [Cfg.ns, cfg1] at hn
    exact hi n (by omega)
theorem cfg1_at (b : Nat) {pl : Plc} {e : Int} (h : AtR (cfg1 b) 0 61 pl e) : pl = ⟨0, 0, 61, 100⟩ ∧ e = 0 :=
  h.unique (.inr ⟨0, core1 b, rfl, rfl, .inr ⟨(by decide : may [win1] = true), .inr ⟨0, win1, rfl, (by decide : beg [win1] 0 ≤ 61), (by decide : 61 < beg [win1] 1), rfl, rfl⟩⟩⟩)
theorem cfg1_rounds (b : Nat) : rounds (cfg1 b).cs = 102 := by
  unfold rounds
  rw [if_neg (by simp [cfg1, allMay, core1]; decide)]
  have : (cfg1 b).cs.length = 1 := rfl
  rw [this]
  show 4 + max 0 (rdC 1 [win1] 1) = 102
  decide
theorem shr_60 : shr 60 100 = some 4603579539098121011 := by kernel_rfl
theorem cfg1_share (b : Nat) {r : Nat} {e : Int} (h : ShR (cfg1 b) 0 r e) : r = 4603579539098121011 ∧ e = 0 := by
  unfold ShR at h
  rw [if_pos ⟨by omega, by show (0 : Int) < 1; omega⟩, if_pos (by show fills 100 [core1 b] = true; simp [fills, fillsC, core1]; decide)] at h
  have : useAll 0 (cfg1 b).cs (cfg1 b).cs.length = 60 := rfl
  rw [this] at h
  have h2 : shr 60 100 = some r := h.1
  rw [shr_60] at h2
  exact ⟨(Option.some.inj h2).symm, h.2⟩

end Go.Proofs.Ytnkfdmlpjgmckaa
