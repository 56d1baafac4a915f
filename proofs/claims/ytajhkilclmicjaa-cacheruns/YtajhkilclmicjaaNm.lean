import Derived.Test.YtajhkilclmicjaaNe
namespace Go.Proofs.Ytajhkilclmicjaa
open Go.RowKit Go.Shelf
set_option linter.unusedVariables false

/-- A step on a cache whose blocks are all new since w0. -/
theorem NowC.step {w0 w w' : World} {c : Nat} {st : Nat → List Int} {F : Nat → Prop} (h : NowC w w' c st F) (hK : Keeps (fun _ => False) w0 w) (hF : ∀ b, F b → w0.heap.size ≤ b) :
    ∃ F', Ca w' c st F' ∧ (∀ b, F' b → w0.heap.size ≤ b) ∧ Keeps (fun _ => False) w0 w' := by
  obtain ⟨⟨F', hS, hF'⟩, hK2⟩ := h
  refine ⟨F', hS, fun b hb => ?_, hK.trans hK2 fun b hb hf => by have := hF b hf; omega⟩
  rcases hF' b hb with h | h
  · exact hF b h
  · have := hK.size; omega

set_option maxRecDepth 20000 in
set_option maxHeartbeats 1000000 in
theorem names_any (w : World) : Calls Try.prog 8 #[] w fun r w' => r = .returned (.bool true) ∧ Keeps (fun _ => False) w w' := by
  have H0 : Hid (Calls _ _ _ _ _) := newC_any w
  obtain ⟨c, hc⟩ : ∃ c, c = w.heap.size := ⟨_, rfl⟩
  rw [← hc] at H0
  have HC : Hid (c = w.heap.size) := hc
  clear hc
  go_enter Try.func8, Try.ntmps8
  go_wp2_with fail
  refine H0.out.mono ?_
  rintro r w1 ⟨rfl, ⟨F, hF, hb⟩, hK⟩
  have H1 : Hid (Calls Try.prog 16 #[ptr c, .int .i64 5] w1 fun r w' => r = .returned (.tuple #[.int .i64 7, .int .i64 0]) ∧ Keeps (fun _ => False) w w') := by
    refine (touch_any c 5 _ F w1 hF (by omega)).mono ?_
    rintro r w' ⟨rfl, hN⟩
    refine ⟨rfl, hK.trans hN.2 fun b hlt hf => ?_⟩
    have := hb b hf
    have := HC.out
    omega
  clear H0 hF hb hK
  go_wp2_with fail
  refine H1.out.mono ?_
  rintro r w2 ⟨rfl, hK⟩
  have HK : Hid (Keeps (fun _ => False) w w2) := hK
  clear hK H1
  go_wp2
  go_ret
  exact ⟨rfl, HK.out⟩

end Go.Proofs.Ytajhkilclmicjaa
