import Derived.Test.YtnkfdmlpjgmckaaCo
namespace Go.Proofs.Ytnkfdmlpjgmckaa
open Go.RowKit
set_option linter.unusedVariables false
set_option maxRecDepth 6000

/-- What the program's Spans tells. -/
def SsQ (w : World) (x : Cfg) (p : Int) (e : Ending) (w' : World) : Prop := Keeps (fun _ => False) w w' ∧
  ((¬ (0 ≤ p ∧ p < x.ps.length) ∧ e = .returned (.tuple #[.slice none 0 0, .int .i64 142])) ∨ ((0 ≤ p ∧ p < x.ps.length) ∧
    ((allMay x.cs = false ∧ e = .returned (.tuple #[.slice none 0 0, .int .i64 1])) ∨ (allMay x.cs = true ∧ ∃ u, e = .returned (.tuple #[u, .int .i64 0]) ∧ Row eSpn w' w.heap.size u (pickAll p x.cs x.cs.length)))))

set_option maxHeartbeats 1000000 in
theorem spans_any (x : Cfg) (p : Int) (w : World) (N : Nat) (hi : x.In w N) (hN : N ≤ w.heap.size) (ht : tot x.cs x.cs.length ≤ 2147483647) :
    Calls Try.prog 18 #[x.v, .int .i64 p] w (SsQ w x p) := by
  obtain ⟨W, hW⟩ : ∃ W, W = x.laid w := ⟨_, rfl⟩
  obtain ⟨C, hC⟩ : ∃ C, C = w.heap.size := ⟨_, rfl⟩
  have HO : Hid (One w x C N W ∧ tot x.cs x.cs.length ≤ 2147483647) := by rw [hW, hC]; exact ⟨One.mk' hi hN, ht⟩
  clear hi hN ht
  unfold Cfg.laid at hW
  go_enter Try.func18, Try.ntmps18
  go_wp2_with fail
  rw [← hW, ← hC]
  clear hW hC
  refine (isPartition_any x p W).mono ?_
  rintro e w1 ⟨rfl, hK⟩
  have HO1 : Hid (One w x C N w1) := HO.out.1.kept hK
  clear hK
  by_cases hp : 0 ≤ p ∧ p < x.ps.length
  · have hpt : (decide (0 ≤ p) && decide (p < (x.ps.length : Int))) = true := by simp; exact hp
    rw [hpt]
    obtain ⟨c0, c1, c2, c3, c4, c5, c6⟩ := HO1.out.cells
    have HP : Hid (0 ≤ p ∧ p < x.ps.length) := hp
    clear hp hpt
    go_wp2_with fail
    refine (allMayBe_any x w1 N HO1.out.cin HO1.out.nn).mono ?_
    rintro e w2 ⟨rfl, hK⟩
    have HO2 : Hid (One w x C N w2) := HO1.out.kept hK
    clear hK c0 c1 c2 c3 c4 c5 c6
    obtain ⟨b, hb⟩ : ∃ b, allMay x.cs = b := ⟨_, rfl⟩
    rw [hb]
    have HB : Hid (allMay x.cs = b) := hb
    clear hb
    cases b with
    | false =>
      go_wp2
      go_ret2
      exact ⟨HO2.out.keeps, .inr ⟨HP.out, .inl ⟨HB.out, rfl⟩⟩⟩
    | true =>
      obtain ⟨c0, c1, c2, c3, c4, c5, c6⟩ := HO2.out.cells
      go_wp2_with fail
      refine (spansOf_any x p w2 N HO2.out.cin HO2.out.nn HB.out HO.out.2).mono ?_
      rintro e w3 ⟨u, rfl, hRow, hK⟩
      have HO3 : Hid (One w x C N w3 ∧ Row eSpn w3 w.heap.size u (pickAll p x.cs x.cs.length)) := ⟨HO2.out.kept hK, ⟨hRow.own, fun k hk => Nat.le_trans HO2.out.keeps.size (hRow.low k hk), hRow.ok, fun x hx k hk => by cases hk⟩⟩
      clear hK hRow c0 c1 c2 c3 c4 c5 c6
      go_wp2
      go_ret2
      exact ⟨HO3.out.1.keeps, .inr ⟨HP.out, .inr ⟨HB.out, u, rfl, HO3.out.2⟩⟩⟩
  · have hpf : (decide (0 ≤ p) && decide (p < (x.ps.length : Int))) = false := by rw [Bool.eq_false_iff]; intro h; simp at h; exact hp h
    rw [hpf]
    have HP : Hid (¬ (0 ≤ p ∧ p < x.ps.length)) := hp
    clear hp hpf
    go_wp2
    go_ret2
    exact ⟨HO1.out.keeps, .inl ⟨HP.out, rfl⟩⟩
end Go.Proofs.Ytnkfdmlpjgmckaa
