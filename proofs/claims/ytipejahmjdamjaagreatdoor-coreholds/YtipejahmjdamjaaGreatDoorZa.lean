import Derived.Test.YtipejahmjdamjaaGreatDoorWx
namespace Go.Proofs.YtipejahmjdamjaaGreatDoor
open Go.RowKit Go.Shelf
set_option linter.unusedVariables false
set_option maxRecDepth 6000

/-- A place beside a root and the tables that it names. -/
structure Beside (xs : List UInt32) (root q : Nat) : Prop where
  rt : q / 16 ≠ root
  tab : ∀ i, i < 16 → isT (xs.getD (16 * root + i) 0).toNat = true → q / 16 ≠ frm (xs.getD (16 * root + i) 0).toNat

theorem walkT_beside {n : Nat} {xs : List UInt32} {root q : Nat} {v : UInt32} (hq : q < xs.length) (h : Beside xs root q) (p : Nat) (hp : p < 256) : walkT n (lay xs q [v]) root p = walkT n xs root p := by
  unfold walkT
  rw [lay_other xs q _ v hq]
  have := h.rt
  simp only [Int.toNat_natCast]
  omega

theorem walkB_beside {n : Nat} {xs : List UInt32} {root q : Nat} {v : UInt32} (hq : q < xs.length) (h : Beside xs root q) (p : Nat) (hp : p < 256) (ht : isT (walkT n xs root p) = true) : walkB n (lay xs q [v]) root p = walkB n xs root p := by
  unfold walkB
  rw [walkT_beside hq h p hp, lay_other xs q _ v hq]
  have h1 := h.tab (p / 16) (by omega)
  unfold walkT at ht ⊢
  simp only [Int.toNat_natCast] at ht ⊢
  have h2 := h1 ht
  omega

theorem walk_beside {n : Nat} {xs : List UInt32} {root q : Nat} {v : UInt32} (hq : q < xs.length) (h : Beside xs root q) (p : Nat) : walkE n (lay xs q [v]) root p = walkE n xs root p ∧ walkL n (lay xs q [v]) root p = walkL n xs root p := by
  have hE : walkE n (lay xs q [v]) root p = walkE n xs root p := by
    unfold walkE
    by_cases hp : (0 : Int) ≤ p ∧ (p : Int) < 256
    · have hp' : p < 256 := by omega
      rw [walkT_beside hq h p hp']
      by_cases h0 : nmE n (walkT n xs root p) = 0
      · have ht : isT (walkT n xs root p) = true := by
          unfold nmE at h0
          split at h0
          · assumption
          · omega
        rw [walkB_beside hq h p hp' ht]
      · simp only [if_neg h0]
    · simp only [hp, not_false_eq_true, if_true]
  refine ⟨hE, ?_⟩
  unfold walkL
  rw [hE]
  by_cases h0 : walkE n xs root p = 0
  · rw [if_pos h0, if_pos h0]
    have hp : p < 256 ∧ isT (walkT n xs root p) = true := by
      unfold walkE at h0
      by_cases hr : (0 : Int) ≤ root ∧ (root : Int) < n
      · rw [if_neg (by simpa using hr)] at h0
        by_cases hp : (0 : Int) ≤ p ∧ (p : Int) < 256
        · rw [if_neg (by simpa using hp)] at h0
          refine ⟨by omega, ?_⟩
          by_cases h1 : nmE n (walkT n xs root p) = 0
          · unfold nmE at h1
            split at h1
            · assumption
            · omega
          · rw [if_neg h1] at h0; exact absurd h0 h1
        · rw [if_pos (by simpa using hp)] at h0; omega
      · rw [if_pos (by simpa using hr)] at h0; omega
    rw [walkB_beside hq h p hp.1 hp.2]
  · rw [if_neg h0, if_neg h0]

theorem tr_beside {n : Nat} {xs : List UInt32} {root q : Nat} {v : UInt32} (hq : q < xs.length) (h : Beside xs root q) (ls : List Tl.Lf) (p : Nat) : trL n (lay xs q [v]) root ls p = trL n xs root ls p ∧ trS n (lay xs q [v]) root ls p = trS n xs root ls p := by
  obtain ⟨h1, h2⟩ := walk_beside (n := n) (v := v) hq h p
  unfold trL trS
  rw [h1, h2]
  exact ⟨rfl, rfl⟩
theorem rcP_beside {n : Nat} {xs : List UInt32} {root q : Nat} {v : UInt32} (hq : q < xs.length) (h : Beside xs root q) (ls : List Tl.Lf) (a : Nat) (r : Int) : rcP n (lay xs q [v]) root ls a r = rcP n xs root ls a r := by
  unfold rcP
  rw [(tr_beside hq h ls (a / 16)).1]
theorem rcL_beside {n : Nat} {xs : List UInt32} {root q : Nat} {v : UInt32} (hq : q < xs.length) (h : Beside xs root q) (ls : List Tl.Lf) (a : Nat) : rcL n (lay xs q [v]) root ls a = rcL n xs root ls a := by
  unfold rcL
  rw [(tr_beside hq h ls (a / 16)).2]
theorem addr_beside {n : Nat} {xs : List UInt32} {root q : Nat} {v : UInt32} (hq : q < xs.length) (h : Beside xs root q) (a : Nat) (r : Int) : addrE n (lay xs q [v]) root a r = addrE n xs root a r ∧ addrV n (lay xs q [v]) root a r = addrV n xs root a r := by
  obtain ⟨h1, h2⟩ := walk_beside (n := n) (v := v) hq h (a / 16)
  have hi : ((a / 16 : Nat) : Int) = (a : Int) / 16 := by omega
  rw [hi] at h1 h2
  have h3 : addrE n (lay xs q [v]) root a r = addrE n xs root a r := by unfold addrE; rw [h1, h2]
  exact ⟨h3, by unfold addrV; rw [h3, h2]⟩

/-- A place that is reached is the one that the tables give. -/
theorem rcP_addr0 {n : Nat} {xs : List UInt32} {root : Nat} {ls : List Tl.Lf} {a P : Nat} {right : Int} (hF : Fresh n xs root ls) (hr : root < n) (h : rcP n xs root ls a right = some P) : addrE n xs root a 0 = 0 ∧ addrV n xs root a 0 = P := by
  unfold rcP at h
  split at h
  · cases h
  · rename_i h4
    cases ht : trL n xs root ls (a / 16) with
    | none => rw [ht] at h; cases h
    | some l =>
      rw [ht] at h
      dsimp only at h
      split at h
      · rename_i hc
        obtain ⟨hw, e⟩ := trL_fresh hF ht
        obtain rfl := Option.some.inj h
        have hi : ((a / 16 : Nat) : Int) = (a : Int) / 16 := by omega
        rw [hi] at hw e
        have hE : addrE n xs root a 0 = 0 := by
          unfold addrE
          rw [if_neg (by omega), if_neg (by omega), if_neg (by omega), if_neg (by omega), if_pos]
          have := walkL_rights n xs root ((a : Int) / 16)
          revert this
          generalize (walkL n xs root ((a : Int) / 16)).rights = r
          revert r
          decide
        refine ⟨hE, ?_⟩
        unfold addrV
        rw [if_pos hE, e]
        show _ = 16 * ((walkL n xs root ((a : Int) / 16)).frame : Int).toNat + a % 16
        omega
      · cases h

def Sp.as (t : Sp) (c m : Nat) : Sp := { t with c := c, m := m }

/-- The words behind: the same writes. -/
def Like (n : Nat) (xs : List UInt32) (q : Nat) (v : UInt32) (us vs : List UInt32) : Prop :=
  (us = xs ∧ vs = lay xs q [v]) ∨ ∃ P u, P < n * 16 ∧ us = lay xs P [u] ∧ vs = lay (lay xs q [v]) P [u]

structure OpB (n : Nat) (xs : List UInt32) (q : Nat) (v : UInt32) (c m : Nat) (r r' : Nat × Mc) : Prop where
  trap : r'.1 = r.1
  t : r'.2.t = r.2.t.as c m
  ws : Like n xs q v r.2.xs r'.2.xs

theorem op_beside {n : Nat} {t : Sp} {xs : List UInt32} {ls : List Tl.Lf} {st : Nat → List Int} {q : Nat} {v : UInt32} (c m : Nat) (hq : q < xs.length) (h : Beside xs t.root q) (hg : ∀ l ∈ ls, Tl.mayB l = true)
    (hl : t.op = 19 → ∀ P, rcP n xs t.root ls t.x 1 = some P → P ≠ q) : OpB n xs q v c m (opM n ⟨t, xs, ls, st⟩) (opM n ⟨t.as c m, lay xs q [v], ls, st⟩) := by
  have hw : Like n xs q v xs (lay xs q [v]) := .inl ⟨rfl, rfl⟩
  have hrc : ∀ r, rcP n (lay xs q [v]) (t.as c m).root ls (t.as c m).x r = rcP n xs t.root ls t.x r := fun r => rcP_beside hq h ls t.x r
  have hop : (t.as c m).op = t.op := rfl
  unfold opM
  dsimp only
  rw [hop]
  by_cases h : t.op = 2
  · rw [if_pos h, if_pos h]; exact ⟨rfl, rfl, hw⟩
  rw [if_neg h, if_neg h]
  clear h
  by_cases h : t.op = 3
  · rw [if_pos h, if_pos h]; exact ⟨rfl, rfl, hw⟩
  rw [if_neg h, if_neg h]
  clear h
  by_cases h : t.op = 4
  · rw [if_pos h, if_pos h]; exact ⟨rfl, rfl, hw⟩
  rw [if_neg h, if_neg h]
  clear h
  by_cases h : 5 ≤ t.op ∧ t.op ≤ 17
  · rw [if_pos h, if_pos h]
    have hD : (t.as c m).D = t.D := rfl
    rw [hD]
    by_cases h' : Al.doE t.op t.D.toNat = 0
    · rw [if_pos h', if_pos h']; exact ⟨rfl, rfl, hw⟩
    · rw [if_neg h', if_neg h']; exact ⟨rfl, rfl, hw⟩
  rw [if_neg h, if_neg h]
  clear h
  by_cases h : t.op = 18
  · rw [if_pos h, if_pos h]; exact ⟨rfl, rfl, hw⟩
  rw [if_neg h, if_neg h]
  clear h
  by_cases h : t.op = 19
  · rw [if_pos h, if_pos h, hrc]
    cases hP : rcP n xs t.root ls t.x 1 with
    | none => exact ⟨rfl, rfl, hw⟩
    | some P =>
      have hv := lay_other xs q P v hq (hl h P hP)
      dsimp only
      rw [hv]
      exact ⟨rfl, rfl, hw⟩
  rw [if_neg h, if_neg h]
  clear h
  by_cases h : t.op = 20
  · rw [if_pos h, if_pos h, hrc]
    cases hP : rcP n xs t.root ls t.x 2 with
    | none => exact ⟨rfl, rfl, hw⟩
    | some P => exact ⟨rfl, rfl, .inr ⟨P, t.A, rcP_lt hg hP, rfl, rfl⟩⟩
  rw [if_neg h, if_neg h]
  clear h
  by_cases h : 21 ≤ t.op ∧ t.op ≤ 25
  · rw [if_pos h, if_pos h]
    have hA : (t.as c m).A = t.A := rfl
    have hB : (t.as c m).B = t.B := rfl
    rw [hA, hB]
    cases Al.takeV t.op t.A.toNat t.B.toNat with
    | false => exact ⟨rfl, rfl, hw⟩
    | true => exact ⟨rfl, rfl, hw⟩
  rw [if_neg h, if_neg h]
  clear h
  by_cases h : t.op = 26
  · rw [if_pos h, if_pos h]; exact ⟨rfl, rfl, hw⟩
  rw [if_neg h, if_neg h]
  clear h
  by_cases h : t.op = 27
  · rw [if_pos h, if_pos h]; exact ⟨rfl, rfl, hw⟩
  rw [if_neg h, if_neg h]
  clear h
  by_cases h : t.op = 28
  · rw [if_pos h, if_pos h]; exact ⟨rfl, rfl, hw⟩
  rw [if_neg h, if_neg h]
  clear h
  by_cases h : t.op = 29
  · rw [if_pos h, if_pos h]; exact ⟨rfl, rfl, hw⟩
  rw [if_neg h, if_neg h]
  clear h
  by_cases h : t.op = 30
  · rw [if_pos h, if_pos h]
    have hi : (t.as c m).imm = t.imm := rfl
    rw [hi]
    by_cases h' : 0 ≤ t.imm ∧ t.imm < 8
    · rw [if_pos h', if_pos h']; exact ⟨rfl, rfl, hw⟩
    · rw [if_neg h', if_neg h']; exact ⟨rfl, rfl, hw⟩
  rw [if_neg h, if_neg h]
  exact ⟨rfl, rfl, hw⟩

/-- An ld that reads tells so, and where. -/
theorem op_ld {n : Nat} {t : Sp} {xs : List UInt32} {ls : List Tl.Lf} {st : Nat → List Int} {P : Nat} (h : t.op = 19) (hP : rcP n xs t.root ls t.x 1 = some P) : (opM n ⟨t, xs, ls, st⟩).1 = 0 ∧ (opM n ⟨t, xs, ls, st⟩).2.t.rd = true ∧ (opM n ⟨t, xs, ls, st⟩).2.t.addr = t.x := by
  unfold opM
  dsimp only
  rw [if_neg (by omega), if_neg (by omega), if_neg (by omega), if_neg (by omega), if_neg (by omega), if_pos h, hP]
  exact ⟨rfl, rfl, rfl⟩

theorem carry_beside (n : Nat) (rg : List UInt32) (pc c b c' b' root clock : Nat) (xs : List UInt32) (st : Nat → List Int) (q : Nat) (v : UInt32) (hr : root < n) (hq : q < xs.length) (h : Beside xs root q)
    (hpc : addrE n xs root pc 0 = 0 → addrV n xs root pc 0 ≠ q)
    (hld : (carryM n ⟨sp0 rg pc c b root clock, xs, [], st⟩).2.t.rd = true → addrE n xs root (carryM n ⟨sp0 rg pc c b root clock, xs, [], st⟩).2.t.addr 0 = 0 → addrV n xs root (carryM n ⟨sp0 rg pc c b root clock, xs, [], st⟩).2.t.addr 0 ≠ q) :
    OpB n xs q v c' b' (carryM n ⟨sp0 rg pc c b root clock, xs, [], st⟩) (carryM n ⟨sp0 rg pc c' b' root clock, lay xs q [v], [], st⟩) := by
  have hF : Fresh n xs root [] := fun l hl => by cases hl
  obtain ⟨t, et⟩ : ∃ t, t = sp0 rg pc c b root clock := ⟨_, rfl⟩
  have et' : sp0 rg pc c' b' root clock = t.as c' b' := by rw [et]; rfl
  have e5 : t.root = root ∧ t.pc = pc := by rw [et]; exact ⟨rfl, rfl⟩
  rw [← et] at hld ⊢
  rw [et']
  clear et et'
  obtain ⟨e5, e6⟩ := e5
  unfold carryM at hld ⊢
  dsimp only at hld ⊢
  have hrc : rcP n (lay xs q [v]) (t.as c' b').root [] (t.as c' b').pc 4 = rcP n xs t.root [] t.pc 4 := rcP_beside (root := t.root) hq (by rw [e5]; exact h) [] t.pc 4
  have hrl : rcL n (lay xs q [v]) (t.as c' b').root [] (t.as c' b').pc = rcL n xs t.root [] t.pc := rcL_beside (root := t.root) hq (by rw [e5]; exact h) [] t.pc
  rw [hrc, hrl]
  cases hn : rcP n xs t.root [] t.pc 4 with
  | none => exact ⟨rfl, rfl, .inl ⟨rfl, rfl⟩⟩
  | some P =>
    rw [hn] at hld
    dsimp only at hld ⊢
    have hPq : P ≠ q := by
      rw [e5, e6] at hn
      obtain ⟨a1, a2⟩ := rcP_addr0 hF hr hn
      rw [← a2]; exact hpc a1
    rw [lay_other xs q P v hq hPq]
    cases hd : Is.decOk (xs.getD P 0).toNat with
    | false => exact ⟨rfl, rfl, .inl ⟨rfl, rfl⟩⟩
    | true =>
      rw [hd] at hld
      simp only [if_true] at hld ⊢
      obtain ⟨x, ex⟩ : ∃ x, x = (xs.getD P 0).toNat := ⟨_, rfl⟩
      rw [← ex] at hd hld ⊢
      obtain ⟨t2, e2⟩ : ∃ t2, t2 = ((t.fetched (t.cost + rcW [] t.pc + Ch.cost (P / 4) st) x).dec x).goes (wd (t.pc + 1)) := ⟨_, rfl⟩
      have e2' : (((t.as c' b').fetched ((t.as c' b').cost + rcW [] (t.as c' b').pc + Ch.cost (P / 4) st) x).dec x).goes (wd ((t.as c' b').pc + 1)) = t2.as c' b' := by rw [e2]; rfl
      have m5 : t2.root = root := by rw [e2]; exact e5
      rw [e2']
      rw [← e2] at hld ⊢
      clear e2 e2'
      have hF2 : Fresh n xs root (rcL n xs t.root [] t.pc) := by rw [e5]; exact rcL_fresh hF
      have hg : ∀ l ∈ rcL n xs t.root [] t.pc, Tl.mayB l = true := fun l hl => by
        obtain ⟨p, hp, rfl⟩ := hF2 l hl
        exact toT_may n xs root p hp
      have hB := op_beside (n := n) (t := t2) (xs := xs) (ls := rcL n xs t.root [] t.pc) (st := Ch.step (P / 4) st) (q := q) (v := v) c' b' hq (by rw [m5]; exact h) hg (fun h19 P' hP' => by
        obtain ⟨z0, z1, z2⟩ := op_ld (st := Ch.step (P / 4) st) h19 hP'
        rw [if_pos z0] at hld
        simp only [Sp.pay] at hld
        rw [z1, z2] at hld
        rw [m5] at hP'
        obtain ⟨a1, a2⟩ := rcP_addr0 hF2 hr hP'
        rw [← a2]; exact hld rfl a1)
      clear hld
      obtain ⟨b1, b2, b3⟩ := hB
      rw [b1]
      by_cases h0 : (opM n ⟨t2, xs, rcL n xs t.root [] t.pc, Ch.step (P / 4) st⟩).1 = 0
      · rw [if_pos h0, if_pos h0]
        refine ⟨rfl, ?_, b3⟩
        show Sp.pay _ _ = _
        rw [b2]
        rfl
      · rw [if_neg h0, if_neg h0]
        exact ⟨b1, b2, b3⟩

/-- Behind: the words are the same but at q, and there the new one or the same. -/
theorem Like.get {n : Nat} {xs us vs : List UInt32} {q : Nat} {v : UInt32} (h : Like n xs q v us vs) (hn : xs.length = n * 16) (hq : q < xs.length) : us.length = n * 16 ∧ vs.length = n * 16 ∧ (∀ i, i ≠ q → us.getD i 0 = vs.getD i 0) ∧ (vs.getD q 0 = v ∨ vs.getD q 0 = us.getD q 0) := by
  rcases h with ⟨rfl, rfl⟩ | ⟨P, u, hP, rfl, rfl⟩
  · exact ⟨hn, by rw [lay_length _ _ _ (by simp; omega)]; exact hn, fun i hi => (lay_other _ q i v hq hi).symm, .inl (lay_at _ q v hq)⟩
  · have hl : (lay xs q [v]).length = xs.length := lay_length _ _ _ (by simp; omega)
    refine ⟨by rw [lay_length _ _ _ (by simp; omega)]; exact hn, by rw [lay_length _ _ _ (by simp; omega), hl]; exact hn, fun i hi => ?_, ?_⟩
    · by_cases e : i = P
      · rw [e, lay_at xs P u (by omega), lay_at _ P u (by omega)]
      · rw [lay_other xs P i u (by omega) e, lay_other _ P i u (by omega) e, lay_other xs q i v hq hi]
    · by_cases e : P = q
      · subst e; right; rw [lay_at xs P u (by omega), lay_at _ P u (by omega)]
      · left; rw [lay_other _ P q u (by omega) (Ne.symm e), lay_at xs q v hq]

end Go.Proofs.YtipejahmjdamjaaGreatDoor
namespace Go.Proofs.YtipejahmjdamjaaGreatDoor
open Go.RowKit Go.Shelf
set_option linter.unusedVariables false
set_option maxRecDepth 6000

/-- Whatever the cold one holds, the warm one holds. -/
structure Warm (ls ls' : List Tl.Lf) (st st' : Nat → List Int) : Prop where
  tl : ∀ p : Nat, (Tl.findT p ls').isSome = true → (Tl.findT p ls).isSome = true
  ca : ∀ l : Nat, (l : Int) ∈ st' (l % 4) → (l : Int) ∈ st (l % 4)

theorem Warm.none (ls : List Tl.Lf) (st : Nat → List Int) : Warm ls [] st fun _ => [] := ⟨fun p h => by simp [Tl.findT] at h, fun l h => by simp at h⟩

theorem Warm.way {ls ls' : List Tl.Lf} {st st' : Nat → List Int} (h : Warm ls ls' st st') (a : Nat) : rcW ls a ≤ rcW ls' a := by
  unfold rcW trC
  split
  · omega
  · by_cases e : (Tl.findT ((a / 16 : Nat) : Int) ls').isSome = true
    · rw [if_pos e, if_pos (h.tl _ e)]; omega
    · rw [if_neg e]; split <;> omega

theorem Warm.cost {ls ls' : List Tl.Lf} {st st' : Nat → List Int} (h : Warm ls ls' st st') (l : Nat) : Ch.cost l st ≤ Ch.cost l st' := by
  unfold Ch.cost
  by_cases e : (l : Int) ∈ st' (l % 4)
  · rw [if_pos e, if_pos (h.ca _ e)]; omega
  · rw [if_neg e]; split <;> omega

theorem trL_warm {n : Nat} {xs : List UInt32} {root : Nat} {ls : List Tl.Lf} (hF : Fresh n xs root ls) (p : Nat) : trL n xs root ls p = if walkE n xs root p = 0 then some (toT (walkL n xs root p)) else none := by
  cases ht : trL n xs root ls p with
  | some l =>
    obtain ⟨h1, h2⟩ := trL_fresh hF ht
    rw [if_pos h1, h2]
  | none =>
    unfold trL at ht
    cases hf : Tl.findT p ls with
    | some y => rw [hf] at ht; cases ht
    | none =>
      rw [hf] at ht
      dsimp only at ht
      exact ht.symm

theorem rcP_warm {n : Nat} {xs : List UInt32} {root : Nat} {ls ls' : List Tl.Lf} (hF : Fresh n xs root ls) (hF' : Fresh n xs root ls') (a : Nat) (r : Int) : rcP n xs root ls' a r = rcP n xs root ls a r := by
  unfold rcP
  rw [trL_warm hF, trL_warm hF']

theorem mem_putT (l : Tl.Lf) (ls : List Tl.Lf) : l ∈ Tl.putT l ls := by
  unfold Tl.putT
  cases e : Tl.wo l.p ls with
  | nil => simp
  | cons a r => split <;> simp

theorem find_mem {p : Int} {ls : List Tl.Lf} {l : Tl.Lf} (h : l ∈ ls) (hp : l.p = p) : (Tl.findT p ls).isSome = true := by
  unfold Tl.findT
  rw [List.find?_isSome]
  exact ⟨l, h, by simp [hp]⟩

theorem trS_has {n : Nat} {xs : List UInt32} {root : Nat} {ls : List Tl.Lf} {p : Nat} (h : walkE n xs root p = 0) : (Tl.findT p (trS n xs root ls p)).isSome = true := by
  unfold trS
  cases hf : Tl.findT p ls with
  | some y =>
    dsimp only
    have hp : y.p = p := by simpa using List.find?_some hf
    refine find_mem (l := y) ?_ hp
    unfold Tl.touchT
    rw [hf]
    simp
  | none =>
    dsimp only
    rw [if_pos h]
    exact find_mem (mem_putT _ _) (by show ((walkL n xs root p).page : Int) = p; rw [walkL_page h])

theorem mem_putL (room : Nat) (k : Int) (ks : List Int) : k ∈ Ch.putL room k ks := by
  unfold Ch.putL
  split
  · simp
  · split <;> simp

theorem Warm.fetch {n : Nat} {xs : List UInt32} {root : Nat} (ls : List Tl.Lf) (a L : Nat) (st : Nat → List Int) : Warm (rcL n xs root ls a) (rcL n xs root [] a) (Ch.step L st) (Ch.step L fun _ => []) := by
  constructor
  · intro p hp
    unfold rcL at hp ⊢
    by_cases h4 : 4096 ≤ a
    · rw [if_pos h4] at hp; simp [Tl.findT] at hp
    · rw [if_neg h4] at hp ⊢
      unfold trS at hp
      have hn : Tl.findT ((a / 16 : Nat) : Int) [] = Option.none := rfl
      rw [hn] at hp
      dsimp only at hp
      by_cases hw : walkE n xs root (a / 16 : Nat) = 0
      · rw [if_pos hw] at hp
        have e : Tl.putT (toT (walkL n xs root (a / 16 : Nat))) [] = [toT (walkL n xs root (a / 16 : Nat))] := by
          unfold Tl.putT Tl.wo; simp
        rw [e] at hp
        unfold Tl.findT at hp
        rw [List.find?_isSome] at hp
        obtain ⟨y, hy, hpy⟩ := hp
        obtain rfl := List.mem_singleton.1 hy
        have h1 : (toT (walkL n xs root (a / 16 : Nat))).p = (p : Int) := by simpa using hpy
        have h2 : (toT (walkL n xs root (a / 16 : Nat))).p = ((a / 16 : Nat) : Int) := by show ((walkL n xs root (a / 16 : Nat)).page : Int) = _; rw [walkL_page hw]
        obtain rfl : p = a / 16 := by omega
        exact trS_has hw
      · rw [if_neg hw] at hp; simp [Tl.findT] at hp
  · intro l hl
    unfold Ch.step at hl ⊢
    by_cases e : l % 4 = L % 4
    · rw [if_pos e] at hl ⊢
      have : (l : Int) = L := by
        unfold Ch.putL at hl
        simpa using hl
      rw [this]
      exact mem_putL _ _ _
    · rw [if_neg e] at hl; simp at hl

def Sp.asc (t : Sp) (c m : Nat) (k : Int) : Sp := { t with c := c, m := m, cost := k }

structure OpW (c m : Nat) (r r' : Nat × Mc) : Prop where
  trap : r'.1 = r.1
  ws : r'.2.xs = r.2.xs
  t : ∃ k : Int, r.2.t.cost ≤ k ∧ r'.2.t = r.2.t.asc c m k

theorem op_warm {n : Nat} {t : Sp} {xs : List UInt32} {ls ls' : List Tl.Lf} {st st' : Nat → List Int} (c m : Nat) (k : Int) (hk : t.cost ≤ k) (hF : Fresh n xs t.root ls) (hF' : Fresh n xs t.root ls') (hW : Warm ls ls' st st') :
    OpW c m (opM n ⟨t, xs, ls, st⟩) (opM n ⟨t.asc c m k, xs, ls', st'⟩) := by
  have hrc : ∀ r, rcP n xs (t.asc c m k).root ls' (t.asc c m k).x r = rcP n xs t.root ls t.x r := fun r => rcP_warm hF hF' t.x r
  have hop : (t.asc c m k).op = t.op := rfl
  have hw1 := hW.way t.x
  unfold opM
  dsimp only
  rw [hop]
  by_cases h : t.op = 2
  · rw [if_pos h, if_pos h]; exact ⟨rfl, rfl, k, hk, rfl⟩
  rw [if_neg h, if_neg h]
  clear h
  by_cases h : t.op = 3
  · rw [if_pos h, if_pos h]; exact ⟨rfl, rfl, k, hk, rfl⟩
  rw [if_neg h, if_neg h]
  clear h
  by_cases h : t.op = 4
  · rw [if_pos h, if_pos h]; exact ⟨rfl, rfl, k, hk, rfl⟩
  rw [if_neg h, if_neg h]
  clear h
  by_cases h : 5 ≤ t.op ∧ t.op ≤ 17
  · rw [if_pos h, if_pos h]
    have hD : (t.asc c m k).D = t.D := rfl
    rw [hD]
    by_cases h' : Al.doE t.op t.D.toNat = 0
    · rw [if_pos h', if_pos h']; exact ⟨rfl, rfl, k, hk, rfl⟩
    · rw [if_neg h', if_neg h']; exact ⟨rfl, rfl, k, hk, rfl⟩
  rw [if_neg h, if_neg h]
  clear h
  by_cases h : t.op = 18
  · rw [if_pos h, if_pos h]; exact ⟨rfl, rfl, k, hk, rfl⟩
  rw [if_neg h, if_neg h]
  clear h
  by_cases h : t.op = 19
  · rw [if_pos h, if_pos h, hrc]
    cases hP : rcP n xs t.root ls t.x 1 with
    | none => exact ⟨rfl, rfl, k + rcW ls' t.x, by show t.cost + rcW ls t.x ≤ _; omega, rfl⟩
    | some P =>
      have hw2 := hW.cost (P / 4)
      exact ⟨rfl, rfl, k + rcW ls' t.x + Ch.cost (P / 4) st', by show t.cost + rcW ls t.x + Ch.cost (P / 4) st ≤ _; omega, rfl⟩
  rw [if_neg h, if_neg h]
  clear h
  by_cases h : t.op = 20
  · rw [if_pos h, if_pos h, hrc]
    cases hP : rcP n xs t.root ls t.x 2 with
    | none => exact ⟨rfl, rfl, k + rcW ls' t.x, by show t.cost + rcW ls t.x ≤ _; omega, rfl⟩
    | some P =>
      have hw2 := hW.cost (P / 4)
      exact ⟨rfl, rfl, k + rcW ls' t.x + Ch.cost (P / 4) st', by show t.cost + rcW ls t.x + Ch.cost (P / 4) st ≤ _; omega, rfl⟩
  rw [if_neg h, if_neg h]
  clear h
  by_cases h : 21 ≤ t.op ∧ t.op ≤ 25
  · rw [if_pos h, if_pos h]
    have hA : (t.asc c m k).A = t.A := rfl
    have hB : (t.asc c m k).B = t.B := rfl
    rw [hA, hB]
    cases Al.takeV t.op t.A.toNat t.B.toNat with
    | false => exact ⟨rfl, rfl, k, hk, rfl⟩
    | true => exact ⟨rfl, rfl, k, hk, rfl⟩
  rw [if_neg h, if_neg h]
  clear h
  by_cases h : t.op = 26
  · rw [if_pos h, if_pos h]; exact ⟨rfl, rfl, k, hk, rfl⟩
  rw [if_neg h, if_neg h]
  clear h
  by_cases h : t.op = 27
  · rw [if_pos h, if_pos h]; exact ⟨rfl, rfl, k, hk, rfl⟩
  rw [if_neg h, if_neg h]
  clear h
  by_cases h : t.op = 28
  · rw [if_pos h, if_pos h]; exact ⟨rfl, rfl, k, hk, rfl⟩
  rw [if_neg h, if_neg h]
  clear h
  by_cases h : t.op = 29
  · rw [if_pos h, if_pos h]; exact ⟨rfl, rfl, k, hk, rfl⟩
  rw [if_neg h, if_neg h]
  clear h
  by_cases h : t.op = 30
  · rw [if_pos h, if_pos h]
    have hi : (t.asc c m k).imm = t.imm := rfl
    rw [hi]
    by_cases h' : 0 ≤ t.imm ∧ t.imm < 8
    · rw [if_pos h', if_pos h']; exact ⟨rfl, rfl, k, hk, rfl⟩
    · rw [if_neg h', if_neg h']; exact ⟨rfl, rfl, k, hk, rfl⟩
  rw [if_neg h, if_neg h]
  exact ⟨rfl, rfl, k, hk, rfl⟩

theorem carry_warm (n : Nat) (rg : List UInt32) (pc c b c' b' root clock : Nat) (xs : List UInt32) (ls : List Tl.Lf) (st : Nat → List Int) (hF : Fresh n xs root ls) :
    OpW c' b' (carryM n ⟨sp0 rg pc c b root clock, xs, ls, st⟩) (carryM n ⟨sp0 rg pc c' b' root clock, xs, [], fun _ => []⟩) := by
  have hF0 : Fresh n xs root [] := fun l hl => by cases hl
  obtain ⟨t, et⟩ : ∃ t, t = sp0 rg pc c b root clock := ⟨_, rfl⟩
  have et' : sp0 rg pc c' b' root clock = t.asc c' b' t.cost := by rw [et]; rfl
  have e5 : t.root = root := by rw [et]; rfl
  rw [← et, et']
  clear et et'
  rw [← e5] at hF hF0
  have hw0 := (Warm.none ls st).way t.pc
  unfold carryM
  dsimp only
  have hrc : rcP n xs (t.asc c' b' t.cost).root [] (t.asc c' b' t.cost).pc 4 = rcP n xs t.root ls t.pc 4 := rcP_warm hF hF0 t.pc 4
  rw [hrc]
  cases hn : rcP n xs t.root ls t.pc 4 with
  | none => exact ⟨rfl, rfl, t.cost + rcW [] t.pc, by show t.cost + rcW ls t.pc ≤ _; omega, rfl⟩
  | some P =>
    have hw1 := (Warm.none ls st).cost (P / 4)
    dsimp only
    cases hd : Is.decOk (xs.getD P 0).toNat with
    | false => exact ⟨rfl, rfl, t.cost + rcW [] t.pc + Ch.cost (P / 4) fun _ => [], by show t.cost + rcW ls t.pc + Ch.cost (P / 4) st ≤ _; omega, rfl⟩
    | true =>
      simp only [if_true]
      obtain ⟨x, ex⟩ : ∃ x, x = (xs.getD P 0).toNat := ⟨_, rfl⟩
      rw [← ex] at hd ⊢
      obtain ⟨t2, e2⟩ : ∃ t2, t2 = ((t.fetched (t.cost + rcW ls t.pc + Ch.cost (P / 4) st) x).dec x).goes (wd (t.pc + 1)) := ⟨_, rfl⟩
      obtain ⟨k2, ek⟩ : ∃ k2 : Int, k2 = t.cost + rcW [] t.pc + Ch.cost (P / 4) fun _ => [] := ⟨_, rfl⟩
      have e2' : (((t.asc c' b' t.cost).fetched ((t.asc c' b' t.cost).cost + rcW [] (t.asc c' b' t.cost).pc + Ch.cost (P / 4) fun _ => []) x).dec x).goes (wd ((t.asc c' b' t.cost).pc + 1)) = t2.asc c' b' k2 := by rw [e2, ek]; rfl
      have m5 : t2.root = t.root := by rw [e2]; rfl
      have m6 : t2.cost = t.cost + rcW ls t.pc + Ch.cost (P / 4) st := by rw [e2]; rfl
      have m7 : rcL n xs (t.asc c' b' t.cost).root [] (t.asc c' b' t.cost).pc = rcL n xs t.root [] t.pc := rfl
      rw [e2', m7, ← e2]
      clear e2 e2' m7
      obtain ⟨b1, b2, k3, b3, b4⟩ := op_warm (n := n) (t := t2) (xs := xs) (ls := rcL n xs t.root ls t.pc) (ls' := rcL n xs t.root [] t.pc) (st := Ch.step (P / 4) st) (st' := Ch.step (P / 4) fun _ => []) c' b' k2 (by omega) (by rw [m5]; exact rcL_fresh hF) (by rw [m5]; exact rcL_fresh hF0) (Warm.fetch ls t.pc (P / 4) st)
      rw [b1]
      by_cases h0 : (opM n ⟨t2, xs, rcL n xs t.root ls t.pc, Ch.step (P / 4) st⟩).1 = 0
      · rw [if_pos h0, if_pos h0]
        refine ⟨rfl, b2, k3 + Is.costOf (Is.rdOp x), ?_, ?_⟩
        · show _ + Is.costOf (Is.rdOp x) ≤ _; omega
        · show Sp.pay _ _ = _
          rw [b4]
          rfl
      · rw [if_neg h0, if_neg h0]
        exact ⟨b1, b2, k3, b3, b4⟩

theorem carry_lo (n : Nat) (rg : List UInt32) (pc c b root clock : Nat) (xs : List UInt32) (ls : List Tl.Lf) (st : Nat → List Int) :
    2 ≤ (carryM n ⟨sp0 rg pc c b root clock, xs, ls, st⟩).2.t.cost + (if (carryM n ⟨sp0 rg pc c b root clock, xs, ls, st⟩).1 = 0 then 0 else 10) := by
  have h0 := (carry_cost n rg pc c b root clock xs ls st).1
  obtain ⟨t, et⟩ : ∃ t, t = sp0 rg pc c b root clock := ⟨_, rfl⟩
  have hc : t.cost = 0 := by rw [et]; rfl
  rw [← et] at h0 ⊢
  by_cases hz : (carryM n ⟨t, xs, ls, st⟩).1 = 0
  · rw [if_pos hz]
    clear h0
    have hW := rcW_bd ls t.pc
    unfold carryM at hz ⊢
    dsimp only at hz ⊢
    cases hn : rcP n xs t.root ls t.pc 4 with
    | none => rw [hn] at hz; simp at hz
    | some P =>
      have hC1 : 1 ≤ Ch.cost (P / 4) st := by unfold Ch.cost; split <;> omega
      rw [hn] at hz
      dsimp only at hz ⊢
      cases hd : Is.decOk (xs.getD P 0).toNat with
      | false => rw [hd] at hz; simp at hz
      | true =>
        rw [hd] at hz
        simp only [if_true] at hz ⊢
        obtain ⟨M2, eM⟩ : ∃ M2 : Mc, M2 = ⟨((t.fetched (t.cost + rcW ls t.pc + Ch.cost (P / 4) st) (xs.getD P 0).toNat).dec (xs.getD P 0).toNat).goes (wd (t.pc + 1)), xs, rcL n xs t.root ls t.pc, Ch.step (P / 4) st⟩ := ⟨_, rfl⟩
        have e1 : M2.t.cost = t.cost + rcW ls t.pc + Ch.cost (P / 4) st := by rw [eM]; rfl
        rw [← eM] at hz ⊢
        have h1 := (opM_same n M2).1.lo
        obtain ⟨⟨o1, o2⟩, _, _, _⟩ := dec_bd hd
        have c1 := costOf_one ⟨o1, o2⟩
        by_cases h0 : (opM n M2).1 = 0
        · rw [if_pos h0]; simp only [Sp.pay]; omega
        · rw [if_neg h0] at hz; exact absurd hz h0
  · rw [if_neg hz]; omega

end Go.Proofs.YtipejahmjdamjaaGreatDoor
