import Derived.Test.YtomjodoimjiceaaDoorGI
namespace Go.Proofs.YtomjodoimjiceaaDoor.I
open Go.RowKit Go.Shelf
set_option linter.unusedVariables false
set_option maxRecDepth 6000

theorem Now.keeps {w w' : World} {s room : Nat} {kvs : List (Int × Value)} {F : Nat → Prop} (h : Now w w' s room kvs F) : Keeps F w w' := h.2

/-- A step on a shelf whose blocks are all new since w. -/
theorem Now.step {w0 w w' : World} {s room : Nat} {kvs : List (Int × Value)} {F : Nat → Prop} (h : Now w w' s room kvs F) (hK : Keeps (fun _ => False) w0 w) (hF : ∀ b, F b → w0.heap.size ≤ b) :
    ∃ F', Sf w' s room kvs F' ∧ (∀ b, F' b → w0.heap.size ≤ b) ∧ Keeps (fun _ => False) w0 w' := by
  obtain ⟨⟨F', hS, hF'⟩, hK2⟩ := h
  refine ⟨F', hS, fun b hb => ?_, hK.trans hK2 fun b hb hf => by have := hF b hf; omega⟩
  rcases hF' b hb with h | h
  · exact hF b h
  · have := hK.size; omega

set_option maxHeartbeats 1000000 in
theorem awake_any (w : World) : Calls Tryd.prog 7 #[] w fun r w' => r = .returned (.bool true) ∧ Keeps (fun _ => False) w w' := by
  have H0 : Hid (Calls _ _ _ _ _) := new_any 1 w (by omega) (by omega)
  go_enter Tryd.func7, Tryd.ntmps7
  go_wp2_with fail
  refine H0.out.mono ?_
  rintro r w1 ⟨rfl, ⟨F1, hS1, hF1⟩, hK1⟩
  have H1 : Hid (Calls _ _ _ _ _) := put_any (w.heap.size + 1) 1 [] F1 7 8 w1 hS1 (by omega)
  have HF : Hid (Keeps (fun _ => False) w w1 ∧ ∀ b, F1 b → w.heap.size ≤ b) := ⟨hK1, hF1⟩
  obtain ⟨s, hs⟩ : ∃ s, s = w.heap.size + 1 := ⟨_, rfl⟩
  rw [← hs] at H1 ⊢
  clear H0 hS1 hF1 hK1 hs
  go_wp2_with fail
  refine H1.out.mono ?_
  rintro r w2 ⟨rfl, hN⟩
  obtain ⟨F2, hS2, hF2, hK2⟩ := hN.step HF.out.1 HF.out.2
  have H2 : Hid (Calls _ _ _ _ _) := put_any s 1 _ F2 9 10 w2 hS2 (by omega)
  have HF2 : Hid (Keeps (fun _ => False) w w2 ∧ ∀ b, F2 b → w.heap.size ≤ b) := ⟨hK2, hF2⟩
  have e1 : putL 1 7 (.int .i64 8) [] = [(7, .int .i64 8)] := rfl
  have e2 : goneL 1 9 [(7, .int .i64 8)] = (7, true) := rfl
  have e3 : putL 1 9 (.int .i64 10) [(7, .int .i64 8)] = [(9, .int .i64 10)] := rfl
  rw [e1, e2, e3] at H2
  clear H1 HF hN hS2 hF2 hK2 e1 e2 e3
  go_wp2_with fail
  refine H2.out.mono ?_
  rintro r w3 ⟨rfl, hN⟩
  obtain ⟨F3, hS3, hF3, hK3⟩ := hN.step HF2.out.1 HF2.out.2
  have H3 : Hid (Calls _ _ _ _ _) := get_any s 1 _ F3 9 w3 hS3 (by omega)
  have HF3 : Hid (Keeps (fun _ => False) w w3 ∧ ∀ b, F3 b → w.heap.size ≤ b) := ⟨hK3, hF3⟩
  have e1 : look 9 [(9, .int .i64 10)] = some (.int .i64 10) := rfl
  have e2 : touch 9 [(9, .int .i64 10)] = [(9, .int .i64 10)] := rfl
  rw [e1, e2] at H3
  simp only [Option.getD_some, Option.isSome_some] at H3
  clear H2 HF2 hN hS3 hF3 hK3 e1 e2
  go_wp2_with fail
  refine H3.out.mono ?_
  rintro r w4 ⟨rfl, hN⟩
  obtain ⟨F4, hS4, hF4, hK4⟩ := hN.step HF3.out.1 HF3.out.2
  have H4 : Hid (Calls _ _ _ _ _) := len_any s 1 _ F4 w4 hS4
  have HF4 : Hid (Keeps (fun _ => False) w w4) := hK4
  clear H3 HF3 hN hS4 hF4 hK4
  go_wp2_with fail
  refine H4.out.mono ?_
  rintro r w5 ⟨rfl, rfl⟩
  clear H4
  go_wp2
  go_ret
  exact ⟨rfl, HF4.out⟩

end Go.Proofs.YtomjodoimjiceaaDoor.I
