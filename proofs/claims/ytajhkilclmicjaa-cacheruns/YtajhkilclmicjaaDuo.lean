import Derived.Test.YtajhkilclmicjaaNm
import Derived.Test.YtajhkilclmicjaaIn
namespace Go.Proofs.Ytajhkilclmicjaa
open Go.RowKit Go.Shelf
set_option linter.unusedVariables false

/-- Two caches that have nothing in common, both new since w0. -/
def Duo (w0 w : World) (c1 c2 : Nat) (s1 s2 : Nat → List Int) : Prop :=
  ∃ F1 F2, Ca w c1 s1 F1 ∧ Ca w c2 s2 F2 ∧ (∀ b, F1 b → ¬ F2 b) ∧ (∀ b, F1 b → w0.heap.size ≤ b) ∧ (∀ b, F2 b → w0.heap.size ≤ b) ∧ Keeps (fun _ => False) w0 w

section
variable {w0 w w' : World} {c1 c2 : Nat} {s1 s2 st : Nat → List Int}
theorem Duo.swap (h : Duo w0 w c1 c2 s1 s2) : Duo w0 w c2 c1 s2 s1 := by
  obtain ⟨F1, F2, h1, h2, h3, h4, h5, h6⟩ := h
  exact ⟨F2, F1, h2, h1, fun b hb hb2 => h3 b hb2 hb, h5, h4, h6⟩
theorem Duo.keeps (h : Duo w0 w c1 c2 s1 s2) : Keeps (fun _ => False) w0 w := by
  obtain ⟨F1, F2, h1, h2, h3, h4, h5, h6⟩ := h
  exact h6
theorem Duo.kept (h : Duo w0 w c1 c2 s1 s2) (hK : Keeps (fun _ => False) w w') : Duo w0 w' c1 c2 s1 s2 := by
  obtain ⟨F1, F2, h1, h2, h3, h4, h5, h6⟩ := h
  exact ⟨F1, F2, h1.kept hK fun _ _ h => h, h2.kept hK fun _ _ h => h, h3, h4, h5, h6.trans hK fun _ _ h => h⟩
theorem Duo.one {F1 F2 : Nat → Prop} (h1 : Ca w c1 s1 F1) (h2 : Ca w c2 s2 F2) (h3 : ∀ b, F1 b → ¬ F2 b) (h4 : ∀ b, F1 b → w0.heap.size ≤ b) (h5 : ∀ b, F2 b → w0.heap.size ≤ b) (h6 : Keeps (fun _ => False) w0 w)
    (hN : NowC w w' c1 st F1) : Duo w0 w' c1 c2 st s2 := by
  obtain ⟨F, g1, g2, g3⟩ := hN.step h6 h4
  obtain ⟨⟨F', e1, e2⟩, e3⟩ := hN
  refine ⟨F', F2, e1, h2.kept e3 fun b hb hb1 => h3 b hb1 hb, fun b hb hb2 => ?_, fun b hb => ?_, h5, g3⟩
  · rcases e2 b hb with h | h
    · exact h3 b h hb2
    · have := h2.lt b hb2; omega
  · rcases e2 b hb with h | h
    · exact h4 b h
    · have := h6.size; omega
theorem Duo.touch1 (h : Duo w0 w c1 c2 s1 s2) (a : Nat) (ha : a < 16384) :
    Calls Try.prog 16 #[ptr c1, .int .i64 a] w fun r w' => r = .returned (.tuple #[.int .i64 (cost (a / 4) s1), .int .i64 0]) ∧ Duo w0 w' c1 c2 (step (a / 4) s1) s2 := by
  obtain ⟨F1, F2, h1, h2, h3, h4, h5, h6⟩ := h
  refine (touch_any c1 a s1 F1 w h1 ha).mono ?_
  rintro r w' ⟨rfl, hN⟩
  exact ⟨rfl, Duo.one h1 h2 h3 h4 h5 h6 hN⟩
theorem Duo.touch2 (h : Duo w0 w c1 c2 s1 s2) (a : Nat) (ha : a < 16384) :
    Calls Try.prog 16 #[ptr c2, .int .i64 a] w fun r w' => r = .returned (.tuple #[.int .i64 (cost (a / 4) s2), .int .i64 0]) ∧ Duo w0 w' c1 c2 s1 (step (a / 4) s2) := by
  refine (h.swap.touch1 a ha).mono ?_
  rintro r w' ⟨rfl, hN⟩
  exact ⟨rfl, hN.swap⟩
theorem Duo.first {F : Nat → Prop} (h : Ca w c1 s1 F) (hF : ∀ b, F b → w0.heap.size ≤ b) (hK : Keeps (fun _ => False) w0 w) :
    Calls Try.prog 9 #[] w fun r w' => r = .returned (ptr w.heap.size) ∧ Duo w0 w' c1 w.heap.size s1 (fun _ => []) := by
  refine (newC_any w).mono ?_
  rintro r w' ⟨rfl, ⟨F2, g1, g2⟩, g3⟩
  refine ⟨rfl, F, F2, h.kept g3 fun _ _ h => h, g1, fun b hb hb2 => ?_, hF, fun b hb => ?_, hK.trans g3 fun _ _ h => h⟩
  · have := h.lt b hb; have := g2 b hb2; omega
  · have := g2 b hb; have := hK.size; omega
end

theorem at_in (n : Nat) (w : World) (hn : n ≤ 65535) : Calls Try.prog 15 #[.int .u16 n] w fun r w' => r = .returned (.int .i64 ((n % 16384 : Nat) : Int)) ∧ w' = w := by
  go_enter Try.func15, Try.ntmps15
  go_wp2
  go_ret
  refine ⟨?_, rfl⟩
  simp

theorem cost_or (l : Nat) (st : Nat → List Int) : cost l st = 1 ∨ cost l st = 7 := by
  unfold cost
  split
  · exact .inl rfl
  · exact .inr rfl
theorem step_other {l i : Nat} {st : Nat → List Int} (h : i ≠ l % 4) : step l st i = st i := by unfold step; rw [if_neg h]
theorem step_same (l : Nat) (st : Nat → List Int) : step l st (l % 4) = putL 2 (l : Int) (st (l % 4)) := by unfold step; rw [if_pos rfl]

end Go.Proofs.Ytajhkilclmicjaa
