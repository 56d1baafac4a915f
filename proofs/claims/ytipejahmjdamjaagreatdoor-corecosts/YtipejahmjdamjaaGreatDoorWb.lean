import Derived.Test.YtipejahmjdamjaaGreatDoorDh
namespace Go.Proofs.YtipejahmjdamjaaGreatDoor
open Go.RowKit Go.Shelf
set_option linter.unusedVariables false
set_option maxRecDepth 6000

theorem costAt_one : ∀ i : Nat, i < 31 → 1 ≤ i → 1 ≤ Is.costAt i := by decide
theorem costOf_one {k : Int} (h : 1 ≤ k ∧ k ≤ 30) : 1 ≤ Is.costOf k := by
  unfold Is.costOf
  rw [show Is.rowOf k = k.toNat by unfold Is.rowOf; rw [if_neg (by omega)]]
  exact costAt_one _ (by omega) (by omega)

/-- What an operation may change. -/
structure OpP (n : Nat) (M : Mc) (r : Nat × Mc) : Prop where
  rg : ∃ i v, r.2.t.rg = M.t.rg.set i v
  trap : r.1 ≠ 0 → r.2.t.rd = M.t.rd ∧ r.2.t.call = M.t.call ∧ r.2.xs = M.xs
  cost : r.2.t.cost = M.t.cost ∨ M.t.op = 19 ∨ M.t.op = 20
  xs : r.2.xs = M.xs ∨ (r.1 = 0 ∧ M.t.op = 20 ∧ ∃ P, rcP n M.xs M.t.root M.ls M.t.x 2 = some P ∧ r.2.xs = lay M.xs P [M.t.A])

theorem set_far (l : List UInt32) (v : UInt32) : l.set l.length v = l := List.set_eq_of_length_le (Nat.le_refl _)

theorem OpP.put (n : Nat) (t : Sp) (xs : List UInt32) (ls : List Tl.Lf) (st : Nat → List Int) (v : UInt32) : OpP n ⟨t, xs, ls, st⟩ (0, ⟨t.put v, xs, ls, st⟩) := ⟨⟨t.a, v, rfl⟩, fun h => absurd rfl h, .inl rfl, .inl rfl⟩
theorem OpP.none (n : Nat) (t t' : Sp) (xs : List UInt32) (ls ls' : List Tl.Lf) (st st' : Nat → List Int) (k : Nat) (h1 : t'.rg = t.rg) (h2 : k ≠ 0 → t'.rd = t.rd ∧ t'.call = t.call) (h3 : t'.cost = t.cost ∨ t.op = 19 ∨ t.op = 20) : OpP n ⟨t, xs, ls, st⟩ (k, ⟨t', xs, ls', st'⟩) :=
  ⟨⟨t.rg.length, 0, by rw [set_far]; exact h1⟩, fun h => ⟨(h2 h).1, (h2 h).2, rfl⟩, h3, .inl rfl⟩

theorem opM_P (n : Nat) (M : Mc) : OpP n M (opM n M) := by
  obtain ⟨t, xs, ls, st⟩ := M
  unfold opM
  dsimp only
  by_cases h : t.op = 2
  · rw [if_pos h]
    exact OpP.put n t xs ls st _
  rw [if_neg h]
  clear h
  by_cases h : t.op = 3
  · rw [if_pos h]
    exact OpP.put n t xs ls st _
  rw [if_neg h]
  clear h
  by_cases h : t.op = 4
  · rw [if_pos h]
    exact OpP.put n t xs ls st _
  rw [if_neg h]
  clear h
  by_cases h : 5 ≤ t.op ∧ t.op ≤ 17
  · rw [if_pos h]
    by_cases h' : Al.doE t.op t.D.toNat = 0
    · rw [if_pos h']; exact OpP.put n t xs ls st _
    · rw [if_neg h']; exact OpP.none n t _ xs ls ls st st _ rfl (fun _ => ⟨rfl, rfl⟩) (.inl rfl)
  rw [if_neg h]
  clear h
  by_cases h : t.op = 18
  · rw [if_pos h]
    exact OpP.put n t xs ls st _
  rw [if_neg h]
  clear h
  by_cases h : t.op = 19
  · rw [if_pos h]
    cases hP : rcP n xs t.root ls t.x 1 with
    | none => exact OpP.none n t _ xs ls _ st _ _ rfl (fun _ => ⟨rfl, rfl⟩) (.inr (.inl h))
    | some P => exact ⟨⟨t.a, _, rfl⟩, fun h => absurd rfl h, .inr (.inl h), .inl rfl⟩
  rw [if_neg h]
  clear h
  by_cases h : t.op = 20
  · rw [if_pos h]
    cases hP : rcP n xs t.root ls t.x 2 with
    | none => exact OpP.none n t _ xs ls _ st _ _ rfl (fun _ => ⟨rfl, rfl⟩) (.inr (.inr h))
    | some P => exact ⟨⟨t.rg.length, 0, by rw [set_far]; rfl⟩, fun h => absurd rfl h, .inr (.inr h), .inr ⟨rfl, h, P, hP, rfl⟩⟩
  rw [if_neg h]
  clear h
  by_cases h : 21 ≤ t.op ∧ t.op ≤ 25
  · rw [if_pos h]
    cases Al.takeV t.op t.A.toNat t.B.toNat with
    | false => exact OpP.none n t t xs ls ls st st _ rfl (fun _ => ⟨rfl, rfl⟩) (.inl rfl)
    | true => exact OpP.none n t (t.goes t.far) xs ls ls st st _ rfl (fun _ => ⟨rfl, rfl⟩) (.inl rfl)
  rw [if_neg h]
  clear h
  by_cases h : t.op = 26
  · rw [if_pos h]
    exact OpP.none n t _ xs ls ls st st _ rfl (fun _ => ⟨rfl, rfl⟩) (.inl rfl)
  rw [if_neg h]
  clear h
  by_cases h : t.op = 27
  · rw [if_pos h]
    exact ⟨⟨t.a, _, rfl⟩, fun h => absurd rfl h, .inl rfl, .inl rfl⟩
  rw [if_neg h]
  clear h
  by_cases h : t.op = 28
  · rw [if_pos h]
    exact OpP.none n t _ xs ls ls st st _ rfl (fun _ => ⟨rfl, rfl⟩) (.inl rfl)
  rw [if_neg h]
  clear h
  by_cases h : t.op = 29
  · rw [if_pos h]
    exact OpP.put n t xs ls st _
  rw [if_neg h]
  clear h
  by_cases h : t.op = 30
  · rw [if_pos h]
    by_cases h' : 0 ≤ t.imm ∧ t.imm < 8
    · rw [if_pos h']; exact OpP.none n t _ xs ls ls st st _ rfl (fun e => absurd rfl e) (.inl rfl)
    · rw [if_neg h']; exact OpP.none n t _ xs ls ls st st _ rfl (fun _ => ⟨rfl, rfl⟩) (.inl rfl)
  rw [if_neg h]
  clear h
  exact OpP.none n t _ xs ls ls st st _ rfl (fun _ => ⟨rfl, rfl⟩) (.inl rfl)

end Go.Proofs.YtipejahmjdamjaaGreatDoor
namespace Go.Proofs.YtipejahmjdamjaaGreatDoor
open Go.RowKit Go.Shelf
set_option linter.unusedVariables false
set_option maxRecDepth 6000

/-- Each leaf is what the tables tell. -/
def Fresh (n : Nat) (xs : List UInt32) (root : Nat) (ls : List Tl.Lf) : Prop := ∀ l ∈ ls, ∃ p : Nat, walkE n xs root p = 0 ∧ l = toT (walkL n xs root p)

theorem walkL_page {n : Nat} {xs : List UInt32} {root p : Nat} (h : walkE n xs root p = 0) : (walkL n xs root p).page = p := by unfold walkL; rw [if_pos h]; rfl

theorem trL_fresh {n : Nat} {xs : List UInt32} {root : Nat} {ls : List Tl.Lf} {p : Nat} {l : Tl.Lf} (hF : Fresh n xs root ls) (h : trL n xs root ls p = some l) : walkE n xs root p = 0 ∧ l = toT (walkL n xs root p) := by
  unfold trL at h
  cases hf : Tl.findT p ls with
  | some y =>
    rw [hf] at h
    obtain rfl := Option.some.inj h
    obtain ⟨q, hq, e⟩ := hF y (List.mem_of_find?_eq_some hf)
    have hp := List.find?_some hf
    have : y.p = p := by simpa using hp
    have hy : y.p = (q : Int) := by rw [e]; show ((walkL n xs root q).page : Int) = q; rw [walkL_page hq]
    obtain rfl : q = p := by omega
    exact ⟨hq, e⟩
  | none =>
    rw [hf] at h
    dsimp only at h
    split at h
    · rename_i hw; exact ⟨hw, (Option.some.inj h).symm⟩
    · cases h

theorem trS_fresh {n : Nat} {xs : List UInt32} {root : Nat} {ls : List Tl.Lf} {p : Nat} (hF : Fresh n xs root ls) : Fresh n xs root (trS n xs root ls p) := by
  unfold trS
  cases hf : Tl.findT p ls with
  | some y =>
    dsimp only
    intro l hl
    unfold Tl.touchT at hl
    rw [hf] at hl
    dsimp only at hl
    rcases List.mem_append.1 hl with e | e
    · exact hF l (List.mem_filter.1 e).1
    · rw [List.mem_singleton.1 e]; exact hF y (List.mem_of_find?_eq_some hf)
  | none =>
    dsimp only
    split
    · rename_i hw
      intro l hl
      have h0 : ∀ l ∈ Tl.wo (toT (walkL n xs root p)).p ls ++ [toT (walkL n xs root p)], ∃ p : Nat, walkE n xs root p = 0 ∧ l = toT (walkL n xs root p) := fun l hl => by
        rcases List.mem_append.1 hl with e | e
        · exact hF l (List.mem_filter.1 e).1
        · rw [List.mem_singleton.1 e]; exact ⟨p, hw, rfl⟩
      unfold Tl.putT at hl
      split at hl
      · exact h0 l (List.mem_of_mem_tail hl)
      · exact h0 l hl
    · exact hF

theorem rcL_fresh {n : Nat} {xs : List UInt32} {root : Nat} {ls : List Tl.Lf} {a : Nat} (hF : Fresh n xs root ls) : Fresh n xs root (rcL n xs root ls a) := by
  unfold rcL
  split
  · exact hF
  · exact trS_fresh hF

theorem okR_sub : ∀ r : Nat, r < 8 → okR (r : Int) 2 = true → subR 2 r = true := by decide

/-- A place that is reached with the right to write is the one that the tables give. -/
theorem rcP_addr {n : Nat} {xs : List UInt32} {root : Nat} {ls : List Tl.Lf} {a P : Nat} (hF : Fresh n xs root ls) (hr : root < n) (h : rcP n xs root ls a 2 = some P) : addrE n xs root a 2 = 0 ∧ addrV n xs root a 2 = P := by
  unfold rcP at h
  split at h
  · cases h
  · rename_i h4
    cases ht : trL n xs root ls (a / 16) with
    | none => rw [ht] at h; cases h
    | some l =>
      rw [ht] at h
      dsimp only at h
      split at h
      · rename_i hc
        obtain ⟨hw, e⟩ := trL_fresh hF ht
        obtain rfl := Option.some.inj h
        have hi : ((a / 16 : Nat) : Int) = (a : Int) / 16 := by omega
        rw [hi] at hw e
        have hE : addrE n xs root a 2 = 0 := by
          unfold addrE
          rw [if_neg (by omega), if_neg (by omega), if_neg (by omega), if_neg (by omega), if_pos]
          refine okR_sub _ (walkL_rights _ _ _ _) ?_
          have := hc.2
          rw [e] at this
          exact this
        refine ⟨hE, ?_⟩
        unfold addrV
        rw [if_pos hE, e]
        show _ = 16 * ((walkL n xs root ((a : Int) / 16)).frame : Int).toNat + a % 16
        omega
      · cases h

def toW (rg : List UInt32) (x : Nat) : Nat := wd ((rg.getD (x / 262144 % 16) 0).toNat + wd (Is.sgn18 ((x % 262144 : Nat) : Int)))

theorem st_fields {x : Nat} (h : (Is.rdOp x).toNat = 20) : (Is.rdA x).toNat = x / 4194304 % 16 ∧ (Is.rdB x).toNat = x / 262144 % 16 ∧ Is.rdI x = Is.sgn18 ((x % 262144 : Nat) : Int) ∧ x / 67108864 = 20 := by
  have h0 : Is.rdOp x = 20 := by unfold Is.rdOp at h ⊢; omega
  have hf : Is.formOf 20 = 6 := by decide
  unfold Is.rdA Is.rdB Is.rdI
  rw [h0, hf]
  refine ⟨?_, ?_, ?_, ?_⟩
  · rw [show Is.hasA 6 = true from rfl, if_pos rfl]; omega
  · rw [show Is.hasB 6 = true from rfl, if_pos rfl]; omega
  · rw [show Is.hasI 6 = true from rfl, if_pos rfl]; congr 1
  · unfold Is.rdOp at h0; omega

/-- What a step of a core that holds nothing may change. -/
structure StepP (n : Nat) (xs : List UInt32) (root : Nat) (rg : List UInt32) (R : Nat × Mc) : Prop where
  rgs : ∃ i v, R.2.t.rg = rg.set i v
  trap : R.1 ≠ 0 → R.2.t.rd = false ∧ R.2.t.call = -1 ∧ R.2.xs = xs
  lo : 2 ≤ R.2.t.cost + (if R.1 = 0 then 0 else 10)
  hi : R.2.t.cost + (if R.1 = 0 then 0 else 10) ≤ 37
  ws : R.2.xs = xs ∨ (R.1 = 0 ∧ R.2.t.word / 67108864 = 20 ∧ ∃ P, addrE n xs root (toW rg R.2.t.word) 2 = 0 ∧ addrV n xs root (toW rg R.2.t.word) 2 = P ∧ P < n * 16 ∧ R.2.xs = lay xs P [rg.getD (R.2.t.word / 4194304 % 16) 0])

theorem costOf_mem {k : Int} (h : k = 19 ∨ k = 20) : Is.costOf k = 1 := by rcases h with rfl | rfl <;> decide

theorem carry_P (n : Nat) (rg : List UInt32) (pc c b root clock : Nat) (xs : List UInt32) (st : Nat → List Int) (hr : root < n) : StepP n xs root rg (carryM n ⟨sp0 rg pc c b root clock, xs, [], st⟩) := by
  obtain ⟨t, et⟩ : ∃ t, t = sp0 rg pc c b root clock := ⟨_, rfl⟩
  have e1 : t.rg = rg ∧ t.cost = 0 ∧ t.rd = false ∧ t.call = -1 ∧ t.root = root := by rw [et]; exact ⟨rfl, rfl, rfl, rfl, rfl⟩
  rw [← et]
  obtain ⟨e1, e2, e3, e4, e5⟩ := e1
  have hW := rcW_bd [] t.pc
  have hF : Fresh n xs root [] := fun l hl => by cases hl
  unfold carryM
  dsimp only
  cases hn : rcP n xs t.root [] t.pc 4 with
  | none =>
    refine ⟨⟨rg.length, 0, by rw [set_far]; exact e1⟩, fun _ => ⟨e3, e4, rfl⟩, ?_, ?_, .inl rfl⟩
    · simp only [Sp.pay, Nat.one_ne_zero, if_false]; omega
    · simp only [Sp.pay, Nat.one_ne_zero, if_false]; omega
  | some P =>
    have hC := toC_bd (some P) st
    have hC1 : 1 ≤ Ch.cost (P / 4) st := by unfold Ch.cost; split <;> omega
    simp only [toC] at hC
    dsimp only
    cases hd : Is.decOk (xs.getD P 0).toNat with
    | false =>
      refine ⟨⟨rg.length, 0, by rw [set_far]; exact e1⟩, fun _ => ⟨e3, e4, rfl⟩, ?_, ?_, .inl rfl⟩
      · simp only [Bool.false_eq_true, if_false, Sp.fetched, show ((2 : Nat) = 0) = False by simp]; omega
      · simp only [Bool.false_eq_true, if_false, Sp.fetched, show ((2 : Nat) = 0) = False by simp]; omega
    | true =>
      simp only [if_true]
      obtain ⟨x, ex⟩ : ∃ x, x = (xs.getD P 0).toNat := ⟨_, rfl⟩
      rw [← ex] at hd ⊢
      obtain ⟨M2, eM⟩ : ∃ M2 : Mc, M2 = ⟨((t.fetched (t.cost + rcW [] t.pc + Ch.cost (P / 4) st) x).dec x).goes (wd (t.pc + 1)), xs, rcL n xs t.root [] t.pc, Ch.step (P / 4) st⟩ := ⟨_, rfl⟩
      have m1 : M2.t.rg = rg ∧ M2.t.rd = false ∧ M2.t.call = -1 ∧ M2.xs = xs ∧ M2.t.root = root ∧ M2.t.word = x ∧ M2.ls = rcL n xs root [] t.pc := by rw [eM]; exact ⟨e1, e3, e4, rfl, e5, rfl, by rw [← e5]⟩
      have m2 : M2.t.cost = t.cost + rcW [] t.pc + Ch.cost (P / 4) st := by rw [eM]; rfl
      have m3 : M2.t.op = (Is.rdOp x).toNat := by rw [eM]; rfl
      have m4 : M2.t.a = (Is.rdA x).toNat ∧ M2.t.b = (Is.rdB x).toNat ∧ M2.t.imm = Is.rdI x := by rw [eM]; exact ⟨rfl, rfl, rfl⟩
      rw [← eM]
      clear eM
      obtain ⟨f1, f2, f3, f4, f5, f6, f7⟩ := m1
      have hP := opM_P n M2
      have hS := (opM_same n M2).1
      obtain ⟨⟨o1, o2⟩, _, _, _⟩ := dec_bd hd
      have c1 := costOf_one ⟨o1, o2⟩
      have c2 := costOf_bd (Is.rdOp x)
      have hlo := hS.lo
      have hhi := hS.hi
      have hw := hS.word
      obtain ⟨i, v, hrg⟩ := hP.rg
      rw [f1] at hrg
      have hxs : (opM n M2).2.xs = xs ∨ ((opM n M2).1 = 0 ∧ (opM n M2).2.t.word / 67108864 = 20 ∧ ∃ P, addrE n xs root (toW rg (opM n M2).2.t.word) 2 = 0 ∧ addrV n xs root (toW rg (opM n M2).2.t.word) 2 = P ∧ P < n * 16 ∧ (opM n M2).2.xs = lay xs P [rg.getD ((opM n M2).2.t.word / 4194304 % 16) 0]) := by
        rcases hP.xs with e | ⟨e0, e1', Q, hQ, e⟩
        · exact .inl (by rw [e, f4])
        · refine .inr ⟨e0, ?_⟩
          rw [m3] at e1'
          obtain ⟨s1, s2, s3, s4⟩ := st_fields e1'
          rw [hw, f6]
          have hx : M2.t.x = toW rg x := by unfold Sp.x toW; rw [f1, m4.2.1, m4.2.2, s2, s3]
          rw [f4, f5, f7, hx] at hQ
          have hg : ∀ l ∈ rcL n xs root [] t.pc, Tl.mayB l = true := fun l hl => by
            obtain ⟨p, hp, rfl⟩ := rcL_fresh (a := t.pc) hF l hl
            exact toT_may n xs root p hp
          obtain ⟨q1, q2⟩ := rcP_addr (rcL_fresh hF) hr hQ
          refine ⟨s4, Q, q1, q2, rcP_lt hg hQ, ?_⟩
          rw [e, f4]
          unfold Sp.A
          rw [f1, m4.1, s1]
      by_cases h0 : (opM n M2).1 = 0
      · rw [if_pos h0]
        have hcost : (opM n M2).2.t.cost + Is.costOf (Is.rdOp x) ≤ 37 := by
          rcases hP.cost with e | e | e
          · omega
          · have := costOf_mem (k := Is.rdOp x) (by omega); omega
          · have := costOf_mem (k := Is.rdOp x) (by omega); omega
        refine ⟨⟨i, v, hrg⟩, fun e => absurd rfl e, ?_, ?_, ?_⟩
        · simp only [Sp.pay, if_true]; omega
        · simp only [Sp.pay, if_true]; omega
        · rcases hxs with e | ⟨_, e⟩
          · exact .inl e
          · exact .inr ⟨rfl, e⟩
      · rw [if_neg h0]
        refine ⟨⟨i, v, hrg⟩, fun e => ⟨by rw [(hP.trap e).1, f2], by rw [(hP.trap e).2.1, f3], by rw [(hP.trap e).2.2, f4]⟩, ?_, ?_, hxs⟩
        · rw [if_neg h0]; omega
        · rw [if_neg h0]; omega

end Go.Proofs.YtipejahmjdamjaaGreatDoor
