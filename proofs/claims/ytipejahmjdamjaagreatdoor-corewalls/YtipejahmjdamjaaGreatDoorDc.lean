import Derived.Test.YtipejahmjdamjaaGreatDoorDb
namespace Go.Proofs.YtipejahmjdamjaaGreatDoor
open Go.RowKit Go.Shelf
set_option linter.unusedVariables false
set_option maxRecDepth 6000

theorem wpList_build_to {P : Program} {ops : Array Oper} {rest : List Oper} {o : Oper} {a : Act} {w : World} {Q : Exit → Act → World → Prop} (hg : o.guard = none) (t : TypeId) (parts : Array (Nat × Operand)) (ho : o.op = .build t parts) (cs : Array Value)
    (hf : P.built t (parts.map fun (i, x) => (i, a.eval x)).toList = some cs) (h : wpList P ops Q rest (a.put o.dst (.agg cs)) w) : wpList P ops Q (o :: rest) a w :=
  wpList_build hg t parts ho (by rw [hf]; rfl) (by rw [hf]; exact h)

theorem keeps_setCells (b : Nat) : ∀ (vs : List Value) (o : Nat) (w : World), Keeps (· = b) w (w.setCells b o vs)
  | [], _, w => Keeps.refl _ w
  | v :: r, o, w => by
    rw [World.setCells]
    exact ((Keeps.refl (· = b) w).setCell _ _ fun _ => rfl).trans (keeps_setCells b r (o + 1) _) fun _ _ h => h

theorem blk_setCells {b : Nat} {t : TypeId} : ∀ (vs old pre post : List Value) (w : World), Blk w b (pre ++ (old ++ post)) t → old.length = vs.length → Blk (w.setCells b pre.length vs) b (pre ++ (vs ++ post)) t
  | [], [], pre, post, w, h, _ => h
  | [], _ :: _, _, _, _, _, e => by cases e
  | _ :: _, [], _, _, _, _, e => by cases e
  | v :: r, u :: old, pre, post, w, h, e => by
    rw [World.setCells]
    have h1 := h.setCell pre.length v
    rw [List.set_append_right _ _ (Nat.le_refl _), Nat.sub_self] at h1
    have h2 := blk_setCells r old (pre ++ [v]) post _ (by simpa using h1) (by simpa using e)
    simpa using h2

theorem SpAt.range {w : World} {s : Nat} {t : Sp} (h : SpAt w s t) : w.rangeAt s 0 (ctx t.rg t.pc) := fun j v hv => by
  rw [Nat.zero_add]
  refine h.blk.cell ?_
  have e : t.cells = ctx t.rg t.pc ++ t.tail.tail := by simp [Sp.cells, ctx, Sp.tail]
  rw [e, List.getElem?_append_left (List.getElem?_eq_some_iff.1 hv).1]
  exact hv

theorem ctx_len {rg : List UInt32} (h : rg.length = 16) (pc : Nat) : (ctx rg pc).length = 17 := by simp [ctx, wvs_length, h]
theorem ctx_one (rg : List UInt32) (pc : Nat) : ∀ v ∈ ctx rg pc, v.oneCell' = true := fun v hv => by
  rcases List.mem_append.1 hv with e | e
  · exact wvs_one _ v e
  · rw [List.mem_singleton.1 e]; rfl

theorem info89 {rg : List UInt32} (h : rg.length = 16) (pc : Nat) : (Tryz.prog.info? 89).map (·.size) = some (ctx rg pc).length := by rw [ctx_len h]; kernel_rfl

theorem CoreAt.range {w : World} {c tb cb : Nat} {rg : List UInt32} {pc : Nat} {ls : List Tl.Lf} {st : Nat → List Int} {FT FC : Nat → Prop} (h : CoreAt w c tb cb rg pc ls st FT FC) : w.rangeAt c 0 (ctx rg pc) := fun j v hv => by
  rw [Nat.zero_add]
  refine h.blk.cell ?_
  rw [coreCells, List.getElem?_append_left (List.getElem?_eq_some_iff.1 hv).1]
  exact hv

/-- The new instruction's block, and all else. -/
theorem env_of {w : World} {c tb cb b g n s : Nat} {rg : List UInt32} {pc : Nat} {ls : List Tl.Lf} {st : Nat → List Int} {FT FC : Nat → Prop} {xs : List UInt32} {t : Sp} (h : CoreAt w c tb cb rg pc ls st FT FC) (hM : Mn w b g n xs)
    (hap : ∀ k, (k = c ∨ FT k ∨ FC k) → k ≠ b ∧ k ≠ g) (hs : SpAt w s t) (hsn : ∀ k, (k = c ∨ FT k ∨ FC k) → k ≠ s) (sb : s ≠ b) (sg : s ≠ g) (tc : t.c = c) (tm : t.m = b) :
    Env w s tb cb g n (coreCells rg pc tb cb) t xs ls st FT FC := by
  have hc := cs17 rg pc tb cb h.len
  subst tc; subst tm
  exact { sp := hs, core := h.blk, h17 := hc.1, h18 := hc.2.1, mn := hM, tl := h.tl, ca := h.ca, sc := fun e => hsn t.c (.inl rfl) e.symm, sm := sb, sg := sg, cm := (hap t.c (.inl rfl)).1, cg := (hap t.c (.inl rfl)).2, ft := fun k hk => ⟨hsn k (.inr (.inl hk)), (h.ft k hk).1, (hap k (.inr (.inl hk))).1, (hap k (.inr (.inl hk))).2, (h.ft k hk).2⟩, fc := fun k hk => ⟨hsn k (.inr (.inr hk)), h.fc k hk, (hap k (.inr (.inr hk))).1, (hap k (.inr (.inr hk))).2⟩, good := h.good }

/-- What a step leaves. -/
structure Stepped (w w' : World) (c tb cb b g n : Nat) (FT FC : Nat → Prop) (rg : List UInt32) (pc : Nat) (xs : List UInt32) (ls : List Tl.Lf) (st : Nat → List Int) : Prop where
  ex : ∃ FT' FC', CoreAt w' c tb cb rg pc ls st FT' FC' ∧ (∀ k, FT' k → FT k ∨ w.heap.size ≤ k) ∧ (∀ k, FC' k → FC k ∨ w.heap.size ≤ k) ∧ ∀ k, (k = c ∨ FT' k ∨ FC' k) → k ≠ b ∧ k ≠ g
  mn : Mn w' b g n xs
  kp : Keeps (fun k => k = c ∨ k = g ∨ FT k ∨ FC k) w w'

end Go.Proofs.YtipejahmjdamjaaGreatDoor
