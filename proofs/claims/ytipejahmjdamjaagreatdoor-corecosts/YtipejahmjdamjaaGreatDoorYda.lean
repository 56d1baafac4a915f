import Derived.Test.YtipejahmjdamjaaGreatDoorYa
namespace Go.Proofs.YtipejahmjdamjaaGreatDoor
open Go.RowKit Go.Shelf
set_option linter.unusedVariables false
set_option maxRecDepth 6000

/-- What lies there beside the cores. -/
structure Bd (w wr : World) (X b g b2 g2 n : Nat) (rg : List UInt32) (pc : Nat) (xs ys : List UInt32) : Prop where
  x : Blk wr X (ctx rg pc) 40
  m : Mn wr b g n xs
  q : Mn wr b2 g2 n ys
  t : Is.Tabs wr
  k : Keeps (fun _ => False) w wr
theorem Bd.kept {S : Nat → Prop} {w wr wr' : World} {X b g b2 g2 n : Nat} {rg : List UInt32} {pc : Nat} {xs ys : List UInt32} (h : Bd w wr X b g b2 g2 n rg pc xs ys) (hK : Keeps S wr wr') (hS : ∀ k, S k → k ≠ X ∧ k ≠ b ∧ k ≠ g ∧ k ≠ b2 ∧ k ≠ g2 ∧ 2 ≤ k ∧ w.heap.size ≤ k) : Bd w wr' X b g b2 g2 n rg pc xs ys :=
  ⟨h.x.kept hK fun e => (hS _ e).1 rfl, h.m.kept hK (fun e => (hS _ e).2.1 rfl) (fun e => (hS _ e).2.2.1 rfl), h.q.kept hK (fun e => (hS _ e).2.2.2.1 rfl) (fun e => (hS _ e).2.2.2.2.1 rfl), tabs_kept h.t hK fun k e => (hS k e).2.2.2.2.2.1, h.k.trans hK fun k hk e => by have := (hS k e).2.2.2.2.2.2; omega⟩
theorem Bd.grown {w wr wr' : World} {X b g b2 g2 n : Nat} {rg : List UInt32} {pc : Nat} {xs ys : List UInt32} (h : Bd w wr X b g b2 g2 n rg pc xs ys) (hK : Keeps (fun _ => False) wr wr') : Bd w wr' X b g b2 g2 n rg pc xs ys := h.kept hK fun _ e => e.elim

theorem Bd.first {w wr wr' : World} {X b g b2 g2 n c tb cb : Nat} {FT FC : Nat → Prop} {rg rg' : List UInt32} {pc pc' : Nat} {xs ys xs' : List UInt32} {ls : List Tl.Lf} {st : Nat → List Int} (h : Bd w wr X b g b2 g2 n rg pc xs ys) (hS : Stepped wr wr' c tb cb b g n FT FC rg' pc' xs' ls st)
    (hF : ∀ k, (k = c ∨ FT k ∨ FC k ∨ k = g) → k ≠ X ∧ k ≠ b2 ∧ k ≠ g2 ∧ 2 ≤ k ∧ w.heap.size ≤ k) : Bd w wr' X b g b2 g2 n rg pc xs' ys := by
  have hG : ∀ k, (k = c ∨ k = g ∨ FT k ∨ FC k) → k ≠ X ∧ k ≠ b2 ∧ k ≠ g2 ∧ 2 ≤ k ∧ w.heap.size ≤ k := fun k e => hF k (e.elim .inl fun e => e.elim (fun e => .inr (.inr (.inr e))) fun e => e.elim (fun e => .inr (.inl e)) fun e => .inr (.inr (.inl e)))
  exact ⟨h.x.kept hS.kp fun e => (hG _ e).1 rfl, hS.mn, h.q.kept hS.kp (fun e => (hG _ e).2.1 rfl) (fun e => (hG _ e).2.2.1 rfl), tabs_kept h.t hS.kp fun k e => (hG k e).2.2.2.1, h.k.trans hS.kp fun k hk e => by have := (hG k e).2.2.2.2; omega⟩

theorem Bd.second {w wr wr' : World} {X b g b2 g2 n c tb cb : Nat} {FT FC : Nat → Prop} {rg rg' : List UInt32} {pc pc' : Nat} {xs ys ys' : List UInt32} {ls : List Tl.Lf} {st : Nat → List Int} (h : Bd w wr X b g b2 g2 n rg pc xs ys) (hS : Stepped wr wr' c tb cb b2 g2 n FT FC rg' pc' ys' ls st)
    (hF : ∀ k, (k = c ∨ FT k ∨ FC k ∨ k = g2) → k ≠ X ∧ k ≠ b ∧ k ≠ g ∧ 2 ≤ k ∧ w.heap.size ≤ k) : Bd w wr' X b g b2 g2 n rg pc xs ys' := by
  have hG : ∀ k, (k = c ∨ k = g2 ∨ FT k ∨ FC k) → k ≠ X ∧ k ≠ b ∧ k ≠ g ∧ 2 ≤ k ∧ w.heap.size ≤ k := fun k e => hF k (e.elim .inl fun e => e.elim (fun e => .inr (.inr (.inr e))) fun e => e.elim (fun e => .inr (.inl e)) fun e => .inr (.inr (.inl e)))
  exact ⟨h.x.kept hS.kp fun e => (hG _ e).1 rfl, h.m.kept hS.kp (fun e => (hG _ e).2.1 rfl) (fun e => (hG _ e).2.2.1 rfl), hS.mn, tabs_kept h.t hS.kp fun k e => (hG k e).2.2.2.1, h.k.trans hS.kp fun k hk e => by have := (hG k e).2.2.2.2; omega⟩

theorem CoreAt.lt {w : World} {c tb cb : Nat} {rg : List UInt32} {pc : Nat} {ls : List Tl.Lf} {st : Nat → List Int} {FT FC : Nat → Prop} (h : CoreAt w c tb cb rg pc ls st FT FC) : ∀ k, (k = c ∨ FT k ∨ FC k) → k < w.heap.size := fun k e =>
  e.elim (fun e => by rw [e]; exact h.blk.lt) fun e => e.elim (fun e => h.tl.lt k e) fun e => h.ca.lt k e

theorem op_addr (n : Nat) (M : Mc) : (opM n M).2.t.addr = M.t.addr ∨ (opM n M).2.t.addr = M.t.x := by
  obtain ⟨t, xs, ls, st⟩ := M
  unfold opM
  dsimp only
  by_cases h : t.op = 2
  · rw [if_pos h]
    exact .inl rfl
  rw [if_neg h]
  clear h
  by_cases h : t.op = 3
  · rw [if_pos h]
    exact .inl rfl
  rw [if_neg h]
  clear h
  by_cases h : t.op = 4
  · rw [if_pos h]
    exact .inl rfl
  rw [if_neg h]
  clear h
  by_cases h : 5 ≤ t.op ∧ t.op ≤ 17
  · rw [if_pos h]
    by_cases h' : Al.doE t.op t.D.toNat = 0
    · rw [if_pos h']; exact .inl rfl
    · rw [if_neg h']; exact .inl rfl
  rw [if_neg h]
  clear h
  by_cases h : t.op = 18
  · rw [if_pos h]
    exact .inl rfl
  rw [if_neg h]
  clear h
  by_cases h : t.op = 19
  · rw [if_pos h]
    cases hP : rcP n xs t.root ls t.x 1 with
    | none => exact .inl rfl
    | some P => exact .inr rfl
  rw [if_neg h]
  clear h
  by_cases h : t.op = 20
  · rw [if_pos h]
    cases hP : rcP n xs t.root ls t.x 2 with
    | none => exact .inl rfl
    | some P => exact .inl rfl
  rw [if_neg h]
  clear h
  by_cases h : 21 ≤ t.op ∧ t.op ≤ 25
  · rw [if_pos h]
    cases Al.takeV t.op t.A.toNat t.B.toNat with
    | false => exact .inl rfl
    | true => exact .inl rfl
  rw [if_neg h]
  clear h
  by_cases h : t.op = 26
  · rw [if_pos h]
    exact .inl rfl
  rw [if_neg h]
  clear h
  by_cases h : t.op = 27
  · rw [if_pos h]
    exact .inl rfl
  rw [if_neg h]
  clear h
  by_cases h : t.op = 28
  · rw [if_pos h]
    exact .inl rfl
  rw [if_neg h]
  clear h
  by_cases h : t.op = 29
  · rw [if_pos h]
    exact .inl rfl
  rw [if_neg h]
  clear h
  by_cases h : t.op = 30
  · rw [if_pos h]
    by_cases h' : 0 ≤ t.imm ∧ t.imm < 8
    · rw [if_pos h']; exact .inl rfl
    · rw [if_neg h']; exact .inl rfl
  rw [if_neg h]
  clear h
  exact .inl rfl

theorem carry_addr_lt (n : Nat) (rg : List UInt32) (pc c b root clock : Nat) (xs : List UInt32) (ls : List Tl.Lf) (st : Nat → List Int) (R : Nat × Mc) (hR : R = carryM n ⟨sp0 rg pc c b root clock, xs, ls, st⟩) : R.2.t.addr < 4294967296 := by
  obtain ⟨t, et⟩ : ∃ t, t = sp0 rg pc c b root clock := ⟨_, rfl⟩
  have hc : t.addr = 0 := by rw [et]; rfl
  rw [hR, ← et]
  unfold carryM
  dsimp only
  cases hn : rcP n xs t.root ls t.pc 4 with
  | none => show t.addr < _; omega
  | some P =>
    dsimp only
    cases hd : Is.decOk (xs.getD P 0).toNat with
    | false => show t.addr < _; omega
    | true =>
      simp only [if_true]
      obtain ⟨M2, eM⟩ : ∃ M2 : Mc, M2 = ⟨((t.fetched (t.cost + rcW ls t.pc + Ch.cost (P / 4) st) (xs.getD P 0).toNat).dec (xs.getD P 0).toNat).goes (wd (t.pc + 1)), xs, rcL n xs t.root ls t.pc, Ch.step (P / 4) st⟩ := ⟨_, rfl⟩
      have hp2 : M2.t.addr = 0 := by rw [eM]; exact hc
      have hx : M2.t.x < 4294967296 := by unfold Sp.x; exact Al.wd_lt _
      rw [← eM]
      have hS := op_addr n M2
      have hS' : (opM n M2).2.t.addr < 4294967296 := by rcases hS with e | e <;> omega
      by_cases h0 : (opM n M2).1 = 0
      · rw [if_pos h0]; exact hS'
      · rw [if_neg h0]; exact hS'

end Go.Proofs.YtipejahmjdamjaaGreatDoor
