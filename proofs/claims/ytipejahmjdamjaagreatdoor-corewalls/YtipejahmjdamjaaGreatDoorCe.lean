import Derived.Test.YtipejahmjdamjaaGreatDoorCq
namespace Go.Proofs.YtipejahmjdamjaaGreatDoor
open Go.RowKit Go.Shelf
set_option linter.unusedVariables false
set_option maxRecDepth 6000

/-- The leaf that the tables tell, as the TLB holds it. -/
def toT (l : Lf) : Tl.Lf := ⟨l.page, l.frame, l.rights⟩

/-- All that an instruction under way works on: its own block s, the core's block with its TLB tb and its cache cb, the memory. -/
structure Env (w : World) (s tb cb g n : Nat) (cs : List Value) (t : Sp) (xs : List UInt32) (ls : List Tl.Lf) (st : Nat → List Int) (FT FC : Nat → Prop) : Prop where
  sp : SpAt w s t
  core : Blk w t.c cs 91
  h17 : cs[17]? = some (ptr tb)
  h18 : cs[18]? = some (ptr cb)
  mn : Mn w t.m g n xs
  tl : Tl.Tl w tb ls FT
  ca : Ch.Ca w cb st FC
  sc : s ≠ t.c
  sm : s ≠ t.m
  sg : s ≠ g
  cm : t.c ≠ t.m
  cg : t.c ≠ g
  ft : ∀ k, FT k → k ≠ s ∧ k ≠ t.c ∧ k ≠ t.m ∧ k ≠ g ∧ ¬ FC k
  fc : ∀ k, FC k → k ≠ s ∧ k ≠ t.c ∧ k ≠ t.m ∧ k ≠ g
  good : ∀ l ∈ ls, Tl.mayB l = true

/-- What a piece of an instruction leaves. -/
def Moved (w w' : World) (s tb cb g n : Nat) (cs : List Value) (FT FC : Nat → Prop) (t : Sp) (xs : List UInt32) (ls : List Tl.Lf) (st : Nat → List Int) : Prop :=
  ∃ FT' FC', Env w' s tb cb g n cs t xs ls st FT' FC' ∧ (∀ k, FT' k → FT k ∨ w.heap.size ≤ k) ∧ (∀ k, FC' k → FC k ∨ w.heap.size ≤ k) ∧ Keeps (fun k => k = s ∨ k = g ∨ FT k ∨ FC k) w w'

theorem Moved.trans {w w1 w2 : World} {s tb cb g n : Nat} {cs : List Value} {FT FC F1 F2 : Nat → Prop} {t2 : Sp} {xs2 : List UInt32} {ls2 : List Tl.Lf} {st2 : Nat → List Int}
    (h1 : (∀ k, F1 k → FT k ∨ w.heap.size ≤ k) ∧ (∀ k, F2 k → FC k ∨ w.heap.size ≤ k) ∧ Keeps (fun k => k = s ∨ k = g ∨ FT k ∨ FC k) w w1)
    (h2 : Moved w1 w2 s tb cb g n cs F1 F2 t2 xs2 ls2 st2) : Moved w w2 s tb cb g n cs FT FC t2 xs2 ls2 st2 := by
  obtain ⟨a1, a2, a3⟩ := h1
  obtain ⟨G1, G2, e, b1, b2, b3⟩ := h2
  have hs := a3.size
  refine ⟨G1, G2, e, fun k hk => ?_, fun k hk => ?_, a3.trans b3 fun k hk h => ?_⟩
  · rcases b1 k hk with h | h
    · exact a1 k h
    · exact .inr (by omega)
  · rcases b2 k hk with h | h
    · exact a2 k h
    · exact .inr (by omega)
  · rcases h with h | h | h | h
    · exact .inl h
    · exact .inr (.inl h)
    · rcases a1 k h with h | h
      · exact .inr (.inr (.inl h))
      · omega
    · rcases a2 k h with h | h
      · exact .inr (.inr (.inr h))
      · omega

theorem Env.grown {w w' : World} {s tb cb g n : Nat} {cs : List Value} {t : Sp} {xs : List UInt32} {ls : List Tl.Lf} {st : Nat → List Int} {FT FC : Nat → Prop} (h : Env w s tb cb g n cs t xs ls st FT FC) (hK : Keeps (fun _ => False) w w') :
    Env w' s tb cb g n cs t xs ls st FT FC :=
  { h with sp := h.sp.kept hK fun h => h, core := h.core.kept hK fun h => h, mn := h.mn.grown hK, tl := h.tl.kept hK fun _ _ h => h, ca := h.ca.kept hK fun _ _ h => h }

theorem Env.grow {w w' : World} {s tb cb g n : Nat} {cs : List Value} {t : Sp} {xs : List UInt32} {ls : List Tl.Lf} {st : Nat → List Int} {FT FC : Nat → Prop} (h : Env w s tb cb g n cs t xs ls st FT FC) (hK : Keeps (fun _ => False) w w') :
    Moved w w' s tb cb g n cs FT FC t xs ls st :=
  ⟨FT, FC, h.grown hK, fun _ h => .inl h, fun _ h => .inl h, hK.mono fun _ _ h => h.elim⟩

theorem Env.turned {w w' : World} {s tb cb g n : Nat} {cs : List Value} {t t' : Sp} {xs : List UInt32} {ls : List Tl.Lf} {st : Nat → List Int} {FT FC : Nat → Prop} (h : Env w s tb cb g n cs t xs ls st FT FC) (hS : SpAt w' s t') (hK : Keeps (· = s) w w')
    (hc : t'.c = t.c) (hm : t'.m = t.m) : Moved w w' s tb cb g n cs FT FC t' xs ls st := by
  refine ⟨FT, FC, { sp := hS, core := ?_, h17 := h.h17, h18 := h.h18, mn := ?_, tl := h.tl.kept hK fun k hk => (h.ft k hk).1, ca := h.ca.kept hK fun k hk => (h.fc k hk).1, sc := ?_, sm := ?_, sg := h.sg, cm := ?_, cg := ?_, ft := ?_, fc := ?_, good := h.good }, fun _ h => .inl h, fun _ h => .inl h, hK.mono fun _ _ h => .inl h⟩
  · rw [hc]; exact h.core.kept hK fun e => h.sc e.symm
  · rw [hm]; exact h.mn.kept hK (fun e => h.sm e.symm) fun e => h.sg e.symm
  · rw [hc]; exact h.sc
  · rw [hm]; exact h.sm
  · rw [hc, hm]; exact h.cm
  · rw [hc]; exact h.cg
  · rw [hc, hm]; exact h.ft
  · rw [hc, hm]; exact h.fc

theorem Env.lt {w : World} {s tb cb g n : Nat} {cs : List Value} {t : Sp} {xs : List UInt32} {ls : List Tl.Lf} {st : Nat → List Int} {FT FC : Nat → Prop} (h : Env w s tb cb g n cs t xs ls st FT FC) :
    s < w.heap.size ∧ t.c < w.heap.size ∧ t.m < w.heap.size ∧ g < w.heap.size := ⟨h.sp.blk.lt, h.core.lt, h.mn.mm.blk.lt, h.mn.mm.row.lt⟩

theorem Env.known {w w' : World} {s tb cb g n : Nat} {cs : List Value} {t : Sp} {xs : List UInt32} {ls ls' : List Tl.Lf} {st : Nat → List Int} {FT FC : Nat → Prop} (h : Env w s tb cb g n cs t xs ls st FT FC) (hN : Tl.NowT w w' tb ls' FT)
    (hg : ∀ l ∈ ls', Tl.mayB l = true) : Moved w w' s tb cb g n cs FT FC t xs ls' st := by
  obtain ⟨⟨F', h1, h2⟩, hK⟩ := hN
  obtain ⟨l1, l2, l3, l4⟩ := h.lt
  refine ⟨F', FC, { h with sp := h.sp.kept hK fun e => (h.ft _ e).1 rfl, core := h.core.kept hK fun e => (h.ft _ e).2.1 rfl, mn := h.mn.kept hK (fun e => (h.ft _ e).2.2.1 rfl) (fun e => (h.ft _ e).2.2.2.1 rfl), tl := h1, ca := h.ca.kept hK fun k hk e => (h.ft _ e).2.2.2.2 hk, ft := ?_, good := hg }, h2, fun _ h => .inl h, hK.mono fun _ _ h => .inr (.inr (.inl h))⟩
  intro k hk
  rcases h2 k hk with e | e
  · exact h.ft k e
  · have := h.ca.lt k
    exact ⟨by omega, by omega, by omega, by omega, fun e => by have := this e; omega⟩

theorem Env.touched {w w' : World} {s tb cb g n : Nat} {cs : List Value} {t : Sp} {xs : List UInt32} {ls : List Tl.Lf} {st st' : Nat → List Int} {FT FC : Nat → Prop} (h : Env w s tb cb g n cs t xs ls st FT FC) (hN : Ch.NowC w w' cb st' FC) :
    Moved w w' s tb cb g n cs FT FC t xs ls st' := by
  obtain ⟨⟨F', h1, h2⟩, hK⟩ := hN
  obtain ⟨l1, l2, l3, l4⟩ := h.lt
  refine ⟨FT, F', { h with sp := h.sp.kept hK fun e => (h.fc _ e).1 rfl, core := h.core.kept hK fun e => (h.fc _ e).2.1 rfl, mn := h.mn.kept hK (fun e => (h.fc _ e).2.2.1 rfl) (fun e => (h.fc _ e).2.2.2 rfl), tl := h.tl.kept hK fun k hk e => (h.ft _ hk).2.2.2.2 e, ca := h1, ft := ?_, fc := ?_ }, fun _ h => .inl h, h2, hK.mono fun _ _ h => .inr (.inr (.inr h))⟩
  · intro k hk
    have a := h.ft k hk
    refine ⟨a.1, a.2.1, a.2.2.1, a.2.2.2.1, fun e => ?_⟩
    rcases h2 k e with e | e
    · exact a.2.2.2.2 e
    · have := h.tl.lt k hk; omega
  · intro k hk
    rcases h2 k hk with e | e
    · exact h.fc k e
    · exact ⟨by omega, by omega, by omega, by omega⟩

theorem Env.written {w w' : World} {s tb cb g n : Nat} {cs : List Value} {t : Sp} {xs xs' : List UInt32} {ls : List Tl.Lf} {st : Nat → List Int} {FT FC : Nat → Prop} (h : Env w s tb cb g n cs t xs ls st FT FC) (hM : Mm w' t.m g xs') (hl : xs'.length = xs.length)
    (hK : Keeps (· = g) w w') : Moved w w' s tb cb g n cs FT FC t xs' ls st :=
  ⟨FT, FC, { h with sp := h.sp.kept hK h.sg, core := h.core.kept hK h.cg, mn := ⟨hM, by rw [hl]; exact h.mn.len⟩, tl := h.tl.kept hK fun k hk => (h.ft k hk).2.2.2.1, ca := h.ca.kept hK fun k hk => (h.fc k hk).2.2.2 }, fun _ h => .inl h, fun _ h => .inl h, hK.mono fun _ _ h => .inr (.inl h)⟩

/-! ## To translate -/
def trL (n : Nat) (xs : List UInt32) (root : Nat) (ls : List Tl.Lf) (p : Nat) : Option Tl.Lf :=
  match Tl.findT p ls with
  | some l => some l
  | none => if walkE n xs root p = 0 then some (toT (walkL n xs root p)) else none
def trS (n : Nat) (xs : List UInt32) (root : Nat) (ls : List Tl.Lf) (p : Nat) : List Tl.Lf :=
  match Tl.findT p ls with
  | some _ => Tl.touchT p ls
  | none => if walkE n xs root p = 0 then Tl.putT (toT (walkL n xs root p)) ls else ls
def trC (ls : List Tl.Lf) (p : Nat) : Int := if (Tl.findT p ls).isSome then 0 else 6

theorem toT_may (n : Nat) (xs : List UInt32) (root : Nat) (p : Nat) (h : walkE n xs root p = 0) : Tl.mayB (toT (walkL n xs root p)) = true := by
  have h1 := walkL_frame n xs root p
  have h2 := walkL_rights n xs root p
  have h3 : (walkL n xs root p).page = p ∧ p < 256 := by
    refine ⟨by rw [walkL, if_pos h]; rfl, ?_⟩
    by_cases hp : (0 : Int) ≤ p ∧ (p : Int) < 256
    · omega
    · unfold walkE at h
      split at h
      · omega
      · omega
  simp [Tl.mayB, Tl.inB, toT, h3.1]
  omega

theorem touchT_good {p : Int} {ls : List Tl.Lf} (h : ∀ l ∈ ls, Tl.mayB l = true) : ∀ l ∈ Tl.touchT p ls, Tl.mayB l = true := by
  intro l hl
  unfold Tl.touchT at hl
  split at hl
  · rename_i x hx
    rcases List.mem_append.1 hl with e | e
    · exact h l (List.mem_filter.1 e).1
    · rw [List.mem_singleton.1 e]; exact h x (List.mem_of_find?_eq_some hx)
  · exact h l hl

theorem putT_good {x : Tl.Lf} {ls : List Tl.Lf} (h : ∀ l ∈ ls, Tl.mayB l = true) (hx : Tl.mayB x = true) : ∀ l ∈ Tl.putT x ls, Tl.mayB l = true := by
  have h0 : ∀ l ∈ Tl.wo x.p ls ++ [x], Tl.mayB l = true := fun l hl => by
    rcases List.mem_append.1 hl with e | e
    · exact h l (List.mem_filter.1 e).1
    · rw [List.mem_singleton.1 e]; exact hx
  intro l hl
  unfold Tl.putT at hl
  split at hl
  · exact h0 l (List.mem_of_mem_tail hl)
  · exact h0 l hl

theorem trL_good {n : Nat} {xs : List UInt32} {root : Nat} {ls : List Tl.Lf} {p : Nat} (h : ∀ l ∈ ls, Tl.mayB l = true) {x : Tl.Lf} (hx : trL n xs root ls p = some x) : Tl.mayB x = true := by
  unfold trL at hx
  split at hx
  · rename_i y hy
    obtain rfl := Option.some.inj hx
    exact h _ (List.mem_of_find?_eq_some hy)
  · split at hx
    · rename_i hw; cases hx; exact toT_may n xs root p hw
    · cases hx

end Go.Proofs.YtipejahmjdamjaaGreatDoor
