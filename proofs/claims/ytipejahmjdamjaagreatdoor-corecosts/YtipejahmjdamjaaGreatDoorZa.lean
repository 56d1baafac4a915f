import Derived.Test.YtipejahmjdamjaaGreatDoorYa
namespace Go.Proofs.YtipejahmjdamjaaGreatDoor
open Go.RowKit Go.Shelf
set_option linter.unusedVariables false
set_option maxRecDepth 6000

/-- Whatever the cold one holds, the warm one holds. -/
structure Warm (ls ls' : List Tl.Lf) (st st' : Nat → List Int) : Prop where
  tl : ∀ p : Nat, (Tl.findT p ls').isSome = true → (Tl.findT p ls).isSome = true
  ca : ∀ l : Nat, (l : Int) ∈ st' (l % 4) → (l : Int) ∈ st (l % 4)

theorem Warm.none (ls : List Tl.Lf) (st : Nat → List Int) : Warm ls [] st fun _ => [] := ⟨fun p h => by simp [Tl.findT] at h, fun l h => by simp at h⟩

theorem Warm.way {ls ls' : List Tl.Lf} {st st' : Nat → List Int} (h : Warm ls ls' st st') (a : Nat) : rcW ls a ≤ rcW ls' a := by
  unfold rcW trC
  split
  · omega
  · by_cases e : (Tl.findT ((a / 16 : Nat) : Int) ls').isSome = true
    · rw [if_pos e, if_pos (h.tl _ e)]; omega
    · rw [if_neg e]; split <;> omega

theorem Warm.cost {ls ls' : List Tl.Lf} {st st' : Nat → List Int} (h : Warm ls ls' st st') (l : Nat) : Ch.cost l st ≤ Ch.cost l st' := by
  unfold Ch.cost
  by_cases e : (l : Int) ∈ st' (l % 4)
  · rw [if_pos e, if_pos (h.ca _ e)]; omega
  · rw [if_neg e]; split <;> omega

theorem trL_warm {n : Nat} {xs : List UInt32} {root : Nat} {ls : List Tl.Lf} (hF : Fresh n xs root ls) (p : Nat) : trL n xs root ls p = if walkE n xs root p = 0 then some (toT (walkL n xs root p)) else none := by
  cases ht : trL n xs root ls p with
  | some l =>
    obtain ⟨h1, h2⟩ := trL_fresh hF ht
    rw [if_pos h1, h2]
  | none =>
    unfold trL at ht
    cases hf : Tl.findT p ls with
    | some y => rw [hf] at ht; cases ht
    | none =>
      rw [hf] at ht
      dsimp only at ht
      exact ht.symm

theorem rcP_warm {n : Nat} {xs : List UInt32} {root : Nat} {ls ls' : List Tl.Lf} (hF : Fresh n xs root ls) (hF' : Fresh n xs root ls') (a : Nat) (r : Int) : rcP n xs root ls' a r = rcP n xs root ls a r := by
  unfold rcP
  rw [trL_warm hF, trL_warm hF']

theorem mem_putT (l : Tl.Lf) (ls : List Tl.Lf) : l ∈ Tl.putT l ls := by
  unfold Tl.putT
  cases e : Tl.wo l.p ls with
  | nil => simp
  | cons a r => split <;> simp

theorem find_mem {p : Int} {ls : List Tl.Lf} {l : Tl.Lf} (h : l ∈ ls) (hp : l.p = p) : (Tl.findT p ls).isSome = true := by
  unfold Tl.findT
  rw [List.find?_isSome]
  exact ⟨l, h, by simp [hp]⟩

theorem trS_has {n : Nat} {xs : List UInt32} {root : Nat} {ls : List Tl.Lf} {p : Nat} (h : walkE n xs root p = 0) : (Tl.findT p (trS n xs root ls p)).isSome = true := by
  unfold trS
  cases hf : Tl.findT p ls with
  | some y =>
    dsimp only
    have hp : y.p = p := by simpa using List.find?_some hf
    refine find_mem (l := y) ?_ hp
    unfold Tl.touchT
    rw [hf]
    simp
  | none =>
    dsimp only
    rw [if_pos h]
    exact find_mem (mem_putT _ _) (by show ((walkL n xs root p).page : Int) = p; rw [walkL_page h])

theorem mem_putL (room : Nat) (k : Int) (ks : List Int) : k ∈ Ch.putL room k ks := by
  unfold Ch.putL
  split
  · simp
  · split <;> simp

theorem Warm.fetch {n : Nat} {xs : List UInt32} {root : Nat} (ls : List Tl.Lf) (a L : Nat) (st : Nat → List Int) : Warm (rcL n xs root ls a) (rcL n xs root [] a) (Ch.step L st) (Ch.step L fun _ => []) := by
  constructor
  · intro p hp
    unfold rcL at hp ⊢
    by_cases h4 : 4096 ≤ a
    · rw [if_pos h4] at hp; simp [Tl.findT] at hp
    · rw [if_neg h4] at hp ⊢
      unfold trS at hp
      have hn : Tl.findT ((a / 16 : Nat) : Int) [] = Option.none := rfl
      rw [hn] at hp
      dsimp only at hp
      by_cases hw : walkE n xs root (a / 16 : Nat) = 0
      · rw [if_pos hw] at hp
        have e : Tl.putT (toT (walkL n xs root (a / 16 : Nat))) [] = [toT (walkL n xs root (a / 16 : Nat))] := by
          unfold Tl.putT Tl.wo; simp
        rw [e] at hp
        unfold Tl.findT at hp
        rw [List.find?_isSome] at hp
        obtain ⟨y, hy, hpy⟩ := hp
        obtain rfl := List.mem_singleton.1 hy
        have h1 : (toT (walkL n xs root (a / 16 : Nat))).p = (p : Int) := by simpa using hpy
        have h2 : (toT (walkL n xs root (a / 16 : Nat))).p = ((a / 16 : Nat) : Int) := by show ((walkL n xs root (a / 16 : Nat)).page : Int) = _; rw [walkL_page hw]
        obtain rfl : p = a / 16 := by omega
        exact trS_has hw
      · rw [if_neg hw] at hp; simp [Tl.findT] at hp
  · intro l hl
    unfold Ch.step at hl ⊢
    by_cases e : l % 4 = L % 4
    · rw [if_pos e] at hl ⊢
      have : (l : Int) = L := by
        unfold Ch.putL at hl
        simpa using hl
      rw [this]
      exact mem_putL _ _ _
    · rw [if_neg e] at hl; simp at hl

def Sp.asc (t : Sp) (c m : Nat) (k : Int) : Sp := { t with c := c, m := m, cost := k }

structure OpW (c m : Nat) (r r' : Nat × Mc) : Prop where
  trap : r'.1 = r.1
  ws : r'.2.xs = r.2.xs
  t : ∃ k : Int, r.2.t.cost ≤ k ∧ r'.2.t = r.2.t.asc c m k

theorem op_warm {n : Nat} {t : Sp} {xs : List UInt32} {ls ls' : List Tl.Lf} {st st' : Nat → List Int} (c m : Nat) (k : Int) (hk : t.cost ≤ k) (hF : Fresh n xs t.root ls) (hF' : Fresh n xs t.root ls') (hW : Warm ls ls' st st') :
    OpW c m (opM n ⟨t, xs, ls, st⟩) (opM n ⟨t.asc c m k, xs, ls', st'⟩) := by
  have hrc : ∀ r, rcP n xs (t.asc c m k).root ls' (t.asc c m k).x r = rcP n xs t.root ls t.x r := fun r => rcP_warm hF hF' t.x r
  have hop : (t.asc c m k).op = t.op := rfl
  have hw1 := hW.way t.x
  unfold opM
  dsimp only
  rw [hop]
  by_cases h : t.op = 2
  · rw [if_pos h, if_pos h]; exact ⟨rfl, rfl, k, hk, rfl⟩
  rw [if_neg h, if_neg h]
  clear h
  by_cases h : t.op = 3
  · rw [if_pos h, if_pos h]; exact ⟨rfl, rfl, k, hk, rfl⟩
  rw [if_neg h, if_neg h]
  clear h
  by_cases h : t.op = 4
  · rw [if_pos h, if_pos h]; exact ⟨rfl, rfl, k, hk, rfl⟩
  rw [if_neg h, if_neg h]
  clear h
  by_cases h : 5 ≤ t.op ∧ t.op ≤ 17
  · rw [if_pos h, if_pos h]
    have hD : (t.asc c m k).D = t.D := rfl
    rw [hD]
    by_cases h' : Al.doE t.op t.D.toNat = 0
    · rw [if_pos h', if_pos h']; exact ⟨rfl, rfl, k, hk, rfl⟩
    · rw [if_neg h', if_neg h']; exact ⟨rfl, rfl, k, hk, rfl⟩
  rw [if_neg h, if_neg h]
  clear h
  by_cases h : t.op = 18
  · rw [if_pos h, if_pos h]; exact ⟨rfl, rfl, k, hk, rfl⟩
  rw [if_neg h, if_neg h]
  clear h
  by_cases h : t.op = 19
  · rw [if_pos h, if_pos h, hrc]
    cases hP : rcP n xs t.root ls t.x 1 with
    | none => exact ⟨rfl, rfl, k + rcW ls' t.x, by show t.cost + rcW ls t.x ≤ _; omega, rfl⟩
    | some P =>
      have hw2 := hW.cost (P / 4)
      exact ⟨rfl, rfl, k + rcW ls' t.x + Ch.cost (P / 4) st', by show t.cost + rcW ls t.x + Ch.cost (P / 4) st ≤ _; omega, rfl⟩
  rw [if_neg h, if_neg h]
  clear h
  by_cases h : t.op = 20
  · rw [if_pos h, if_pos h, hrc]
    cases hP : rcP n xs t.root ls t.x 2 with
    | none => exact ⟨rfl, rfl, k + rcW ls' t.x, by show t.cost + rcW ls t.x ≤ _; omega, rfl⟩
    | some P =>
      have hw2 := hW.cost (P / 4)
      exact ⟨rfl, rfl, k + rcW ls' t.x + Ch.cost (P / 4) st', by show t.cost + rcW ls t.x + Ch.cost (P / 4) st ≤ _; omega, rfl⟩
  rw [if_neg h, if_neg h]
  clear h
  by_cases h : 21 ≤ t.op ∧ t.op ≤ 25
  · rw [if_pos h, if_pos h]
    have hA : (t.asc c m k).A = t.A := rfl
    have hB : (t.asc c m k).B = t.B := rfl
    rw [hA, hB]
    cases Al.takeV t.op t.A.toNat t.B.toNat with
    | false => exact ⟨rfl, rfl, k, hk, rfl⟩
    | true => exact ⟨rfl, rfl, k, hk, rfl⟩
  rw [if_neg h, if_neg h]
  clear h
  by_cases h : t.op = 26
  · rw [if_pos h, if_pos h]; exact ⟨rfl, rfl, k, hk, rfl⟩
  rw [if_neg h, if_neg h]
  clear h
  by_cases h : t.op = 27
  · rw [if_pos h, if_pos h]; exact ⟨rfl, rfl, k, hk, rfl⟩
  rw [if_neg h, if_neg h]
  clear h
  by_cases h : t.op = 28
  · rw [if_pos h, if_pos h]; exact ⟨rfl, rfl, k, hk, rfl⟩
  rw [if_neg h, if_neg h]
  clear h
  by_cases h : t.op = 29
  · rw [if_pos h, if_pos h]; exact ⟨rfl, rfl, k, hk, rfl⟩
  rw [if_neg h, if_neg h]
  clear h
  by_cases h : t.op = 30
  · rw [if_pos h, if_pos h]
    have hi : (t.asc c m k).imm = t.imm := rfl
    rw [hi]
    by_cases h' : 0 ≤ t.imm ∧ t.imm < 8
    · rw [if_pos h', if_pos h']; exact ⟨rfl, rfl, k, hk, rfl⟩
    · rw [if_neg h', if_neg h']; exact ⟨rfl, rfl, k, hk, rfl⟩
  rw [if_neg h, if_neg h]
  exact ⟨rfl, rfl, k, hk, rfl⟩

theorem carry_warm (n : Nat) (rg : List UInt32) (pc c b c' b' root clock : Nat) (xs : List UInt32) (ls : List Tl.Lf) (st : Nat → List Int) (hF : Fresh n xs root ls) :
    OpW c' b' (carryM n ⟨sp0 rg pc c b root clock, xs, ls, st⟩) (carryM n ⟨sp0 rg pc c' b' root clock, xs, [], fun _ => []⟩) := by
  have hF0 : Fresh n xs root [] := fun l hl => by cases hl
  obtain ⟨t, et⟩ : ∃ t, t = sp0 rg pc c b root clock := ⟨_, rfl⟩
  have et' : sp0 rg pc c' b' root clock = t.asc c' b' t.cost := by rw [et]; rfl
  have e5 : t.root = root := by rw [et]; rfl
  rw [← et, et']
  clear et et'
  rw [← e5] at hF hF0
  have hw0 := (Warm.none ls st).way t.pc
  unfold carryM
  dsimp only
  have hrc : rcP n xs (t.asc c' b' t.cost).root [] (t.asc c' b' t.cost).pc 4 = rcP n xs t.root ls t.pc 4 := rcP_warm hF hF0 t.pc 4
  rw [hrc]
  cases hn : rcP n xs t.root ls t.pc 4 with
  | none => exact ⟨rfl, rfl, t.cost + rcW [] t.pc, by show t.cost + rcW ls t.pc ≤ _; omega, rfl⟩
  | some P =>
    have hw1 := (Warm.none ls st).cost (P / 4)
    dsimp only
    cases hd : Is.decOk (xs.getD P 0).toNat with
    | false => exact ⟨rfl, rfl, t.cost + rcW [] t.pc + Ch.cost (P / 4) fun _ => [], by show t.cost + rcW ls t.pc + Ch.cost (P / 4) st ≤ _; omega, rfl⟩
    | true =>
      simp only [if_true]
      obtain ⟨x, ex⟩ : ∃ x, x = (xs.getD P 0).toNat := ⟨_, rfl⟩
      rw [← ex] at hd ⊢
      obtain ⟨t2, e2⟩ : ∃ t2, t2 = ((t.fetched (t.cost + rcW ls t.pc + Ch.cost (P / 4) st) x).dec x).goes (wd (t.pc + 1)) := ⟨_, rfl⟩
      obtain ⟨k2, ek⟩ : ∃ k2 : Int, k2 = t.cost + rcW [] t.pc + Ch.cost (P / 4) fun _ => [] := ⟨_, rfl⟩
      have e2' : (((t.asc c' b' t.cost).fetched ((t.asc c' b' t.cost).cost + rcW [] (t.asc c' b' t.cost).pc + Ch.cost (P / 4) fun _ => []) x).dec x).goes (wd ((t.asc c' b' t.cost).pc + 1)) = t2.asc c' b' k2 := by rw [e2, ek]; rfl
      have m5 : t2.root = t.root := by rw [e2]; rfl
      have m6 : t2.cost = t.cost + rcW ls t.pc + Ch.cost (P / 4) st := by rw [e2]; rfl
      have m7 : rcL n xs (t.asc c' b' t.cost).root [] (t.asc c' b' t.cost).pc = rcL n xs t.root [] t.pc := rfl
      rw [e2', m7, ← e2]
      clear e2 e2' m7
      obtain ⟨b1, b2, k3, b3, b4⟩ := op_warm (n := n) (t := t2) (xs := xs) (ls := rcL n xs t.root ls t.pc) (ls' := rcL n xs t.root [] t.pc) (st := Ch.step (P / 4) st) (st' := Ch.step (P / 4) fun _ => []) c' b' k2 (by omega) (by rw [m5]; exact rcL_fresh hF) (by rw [m5]; exact rcL_fresh hF0) (Warm.fetch ls t.pc (P / 4) st)
      rw [b1]
      by_cases h0 : (opM n ⟨t2, xs, rcL n xs t.root ls t.pc, Ch.step (P / 4) st⟩).1 = 0
      · rw [if_pos h0, if_pos h0]
        refine ⟨rfl, b2, k3 + Is.costOf (Is.rdOp x), ?_, ?_⟩
        · show _ + Is.costOf (Is.rdOp x) ≤ _; omega
        · show Sp.pay _ _ = _
          rw [b4]
          rfl
      · rw [if_neg h0, if_neg h0]
        exact ⟨b1, b2, k3, b3, b4⟩

theorem carry_lo (n : Nat) (rg : List UInt32) (pc c b root clock : Nat) (xs : List UInt32) (ls : List Tl.Lf) (st : Nat → List Int) :
    2 ≤ (carryM n ⟨sp0 rg pc c b root clock, xs, ls, st⟩).2.t.cost + (if (carryM n ⟨sp0 rg pc c b root clock, xs, ls, st⟩).1 = 0 then 0 else 10) := by
  have h0 := (carry_cost n rg pc c b root clock xs ls st).1
  obtain ⟨t, et⟩ : ∃ t, t = sp0 rg pc c b root clock := ⟨_, rfl⟩
  have hc : t.cost = 0 := by rw [et]; rfl
  rw [← et] at h0 ⊢
  by_cases hz : (carryM n ⟨t, xs, ls, st⟩).1 = 0
  · rw [if_pos hz]
    clear h0
    have hW := rcW_bd ls t.pc
    unfold carryM at hz ⊢
    dsimp only at hz ⊢
    cases hn : rcP n xs t.root ls t.pc 4 with
    | none => rw [hn] at hz; simp at hz
    | some P =>
      have hC1 : 1 ≤ Ch.cost (P / 4) st := by unfold Ch.cost; split <;> omega
      rw [hn] at hz
      dsimp only at hz ⊢
      cases hd : Is.decOk (xs.getD P 0).toNat with
      | false => rw [hd] at hz; simp at hz
      | true =>
        rw [hd] at hz
        simp only [if_true] at hz ⊢
        obtain ⟨M2, eM⟩ : ∃ M2 : Mc, M2 = ⟨((t.fetched (t.cost + rcW ls t.pc + Ch.cost (P / 4) st) (xs.getD P 0).toNat).dec (xs.getD P 0).toNat).goes (wd (t.pc + 1)), xs, rcL n xs t.root ls t.pc, Ch.step (P / 4) st⟩ := ⟨_, rfl⟩
        have e1 : M2.t.cost = t.cost + rcW ls t.pc + Ch.cost (P / 4) st := by rw [eM]; rfl
        rw [← eM] at hz ⊢
        have h1 := (opM_same n M2).1.lo
        obtain ⟨⟨o1, o2⟩, _, _, _⟩ := dec_bd hd
        have c1 := costOf_one ⟨o1, o2⟩
        by_cases h0 : (opM n M2).1 = 0
        · rw [if_pos h0]; simp only [Sp.pay]; omega
        · rw [if_neg h0] at hz; exact absurd hz h0
  · rw [if_neg hz]; omega

end Go.Proofs.YtipejahmjdamjaaGreatDoor
