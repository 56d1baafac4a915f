import Derived.Test.YtipejahmjdamjaaGreatDoorDh
namespace Go.Proofs.YtipejahmjdamjaaGreatDoor
open Go.RowKit Go.Shelf
set_option linter.unusedVariables false
set_option maxRecDepth 6000

theorem costAt_one : ∀ i : Nat, i < 31 → 1 ≤ i → 1 ≤ Is.costAt i := by decide
theorem costOf_one {k : Int} (h : 1 ≤ k ∧ k ≤ 30) : 1 ≤ Is.costOf k := by
  unfold Is.costOf
  rw [show Is.rowOf k = k.toNat by unfold Is.rowOf; rw [if_neg (by omega)]]
  exact costAt_one _ (by omega) (by omega)

/-- What an operation may change. -/
structure OpP (n : Nat) (M : Mc) (r : Nat × Mc) : Prop where
  rg : ∃ i v, r.2.t.rg = M.t.rg.set i v
  trap : r.1 ≠ 0 → r.2.t.rd = M.t.rd ∧ r.2.t.call = M.t.call ∧ r.2.xs = M.xs
  cost : r.2.t.cost = M.t.cost ∨ M.t.op = 19 ∨ M.t.op = 20
  xs : r.2.xs = M.xs ∨ (r.1 = 0 ∧ M.t.op = 20 ∧ ∃ P, rcP n M.xs M.t.root M.ls M.t.x 2 = some P ∧ r.2.xs = lay M.xs P [M.t.A])

theorem set_far (l : List UInt32) (v : UInt32) : l.set l.length v = l := List.set_eq_of_length_le (Nat.le_refl _)

theorem OpP.put (n : Nat) (t : Sp) (xs : List UInt32) (ls : List Tl.Lf) (st : Nat → List Int) (v : UInt32) : OpP n ⟨t, xs, ls, st⟩ (0, ⟨t.put v, xs, ls, st⟩) := ⟨⟨t.a, v, rfl⟩, fun h => absurd rfl h, .inl rfl, .inl rfl⟩
theorem OpP.none (n : Nat) (t t' : Sp) (xs : List UInt32) (ls ls' : List Tl.Lf) (st st' : Nat → List Int) (k : Nat) (h1 : t'.rg = t.rg) (h2 : k ≠ 0 → t'.rd = t.rd ∧ t'.call = t.call) (h3 : t'.cost = t.cost ∨ t.op = 19 ∨ t.op = 20) : OpP n ⟨t, xs, ls, st⟩ (k, ⟨t', xs, ls', st'⟩) :=
  ⟨⟨t.rg.length, 0, by rw [set_far]; exact h1⟩, fun h => ⟨(h2 h).1, (h2 h).2, rfl⟩, h3, .inl rfl⟩

theorem opM_P (n : Nat) (M : Mc) : OpP n M (opM n M) := by
  obtain ⟨t, xs, ls, st⟩ := M
  unfold opM
  dsimp only
  by_cases h : t.op = 2
  · rw [if_pos h]
    exact OpP.put n t xs ls st _
  rw [if_neg h]
  clear h
  by_cases h : t.op = 3
  · rw [if_pos h]
    exact OpP.put n t xs ls st _
  rw [if_neg h]
  clear h
  by_cases h : t.op = 4
  · rw [if_pos h]
    exact OpP.put n t xs ls st _
  rw [if_neg h]
  clear h
  by_cases h : 5 ≤ t.op ∧ t.op ≤ 17
  · rw [if_pos h]
    by_cases h' : Al.doE t.op t.D.toNat = 0
    · rw [if_pos h']; exact OpP.put n t xs ls st _
    · rw [if_neg h']; exact OpP.none n t _ xs ls ls st st _ rfl (fun _ => ⟨rfl, rfl⟩) (.inl rfl)
  rw [if_neg h]
  clear h
  by_cases h : t.op = 18
  · rw [if_pos h]
    exact OpP.put n t xs ls st _
  rw [if_neg h]
  clear h
  by_cases h : t.op = 19
  · rw [if_pos h]
    cases hP : rcP n xs t.root ls t.x 1 with
    | none => exact OpP.none n t _ xs ls _ st _ _ rfl (fun _ => ⟨rfl, rfl⟩) (.inr (.inl h))
    | some P => exact ⟨⟨t.a, _, rfl⟩, fun h => absurd rfl h, .inr (.inl h), .inl rfl⟩
  rw [if_neg h]
  clear h
  by_cases h : t.op = 20
  · rw [if_pos h]
    cases hP : rcP n xs t.root ls t.x 2 with
    | none => exact OpP.none n t _ xs ls _ st _ _ rfl (fun _ => ⟨rfl, rfl⟩) (.inr (.inr h))
    | some P => exact ⟨⟨t.rg.length, 0, by rw [set_far]; rfl⟩, fun h => absurd rfl h, .inr (.inr h), .inr ⟨rfl, h, P, hP, rfl⟩⟩
  rw [if_neg h]
  clear h
  by_cases h : 21 ≤ t.op ∧ t.op ≤ 25
  · rw [if_pos h]
    cases Al.takeV t.op t.A.toNat t.B.toNat with
    | false => exact OpP.none n t t xs ls ls st st _ rfl (fun _ => ⟨rfl, rfl⟩) (.inl rfl)
    | true => exact OpP.none n t (t.goes t.far) xs ls ls st st _ rfl (fun _ => ⟨rfl, rfl⟩) (.inl rfl)
  rw [if_neg h]
  clear h
  by_cases h : t.op = 26
  · rw [if_pos h]
    exact OpP.none n t _ xs ls ls st st _ rfl (fun _ => ⟨rfl, rfl⟩) (.inl rfl)
  rw [if_neg h]
  clear h
  by_cases h : t.op = 27
  · rw [if_pos h]
    exact ⟨⟨t.a, _, rfl⟩, fun h => absurd rfl h, .inl rfl, .inl rfl⟩
  rw [if_neg h]
  clear h
  by_cases h : t.op = 28
  · rw [if_pos h]
    exact OpP.none n t _ xs ls ls st st _ rfl (fun _ => ⟨rfl, rfl⟩) (.inl rfl)
  rw [if_neg h]
  clear h
  by_cases h : t.op = 29
  · rw [if_pos h]
    exact OpP.put n t xs ls st _
  rw [if_neg h]
  clear h
  by_cases h : t.op = 30
  · rw [if_pos h]
    by_cases h' : 0 ≤ t.imm ∧ t.imm < 8
    · rw [if_pos h']; exact OpP.none n t _ xs ls ls st st _ rfl (fun e => absurd rfl e) (.inl rfl)
    · rw [if_neg h']; exact OpP.none n t _ xs ls ls st st _ rfl (fun _ => ⟨rfl, rfl⟩) (.inl rfl)
  rw [if_neg h]
  clear h
  exact OpP.none n t _ xs ls ls st st _ rfl (fun _ => ⟨rfl, rfl⟩) (.inl rfl)

end Go.Proofs.YtipejahmjdamjaaGreatDoor
