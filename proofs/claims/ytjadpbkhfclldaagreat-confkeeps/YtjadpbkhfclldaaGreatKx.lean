import Derived.Test.YtjadpbkhfclldaaGreatKw
namespace Go.Proofs.YtjadpbkhfclldaaGreat
open Go.RowKit
set_option linter.unusedVariables false
set_option linter.unusedSimpArgs false
set_option maxRecDepth 6000

/-- What stands in the lists of a copy. -/
structure CQ (y : Cfg) (j1 j2 : Nat) (hs : List Chn) (O : Nat → Nat → ObG) : Prop where
  c0n : (O 0 0).n = j1
  c0 : (O 0 0).xs = apN (fun i => [(O 1 i).u]) j1
  c2n : (O 0 2).n = j2
  c2 : (O 0 2).xs = apN (fun i => parC y i (O 2 i).u (O 3 i).u) j2
  c5n : (O 0 5).n = hs.length
  c5 : (O 0 5).xs = hs.flatMap Chn.vs
  i1 : ∀ i, i < j1 → (O 1 i).n = (wsO y i).length ∧ (O 1 i).xs = (wsO y i).flatMap Win.vs
  i2 : ∀ i, i < j2 → (O 2 i).n = (rsO y i).length ∧ (O 2 i).xs = (rsO y i).flatMap Rgn.vs
  i3 : ∀ i, i < j2 → (O 3 i).n = (psO y i).length ∧ (O 3 i).xs = (psO y i).flatMap Prt.vs
  z1 : ∀ i, j1 ≤ i → O 1 i = ObG.nil
  z2 : ∀ i, j2 ≤ i → O 2 i = ObG.nil
  z3 : ∀ i, j2 ≤ i → O 3 i = ObG.nil
theorem CQ.start (y : Cfg) : CQ y 0 0 [] (fun _ _ => ObG.nil) :=
  ⟨rfl, rfl, rfl, rfl, rfl, rfl, fun i hi => by omega, fun i hi => by omega, fun i hi => by omega, fun _ _ => rfl, fun _ _ => rfl, fun _ _ => rfl⟩
theorem CQ.core {y : Cfg} {j j2 : Nat} {hs : List Chn} {O : Nat → Nat → ObG} (h : CQ y j j2 hs O) {l : ObG} {uC : Value} (hn : l.n = (wsO y j).length) (hx : l.xs = (wsO y j).flatMap Win.vs) :
    CQ y (j + 1) j2 hs (updG (updG O 1 j l) 0 0 ⟨uC, (O 0 0).n + 1, (O 0 0).xs ++ [l.u]⟩) := by
  obtain ⟨c0n, c0, c2n, c2, c5n, c5, i1, i2, i3, z1, z2, z3⟩ := h
  refine ⟨?_, ?_, ?_, ?_, ?_, ?_, fun i hi => ?_, fun i hi => ?_, fun i hi => ?_, fun i hi => ?_, fun i hi => ?_, fun i hi => ?_⟩
  all_goals simp only [updG, Nat.zero_ne_one, Nat.one_ne_zero, Nat.reduceEqDiff, false_and, and_false, and_true, true_and, if_false, if_true, Nat.succ_ne_zero, reduceIte]
  · omega
  · rw [c0]
    simp only [apN_succ, if_pos rfl]
    congr 1
    exact apN_congr fun i hi => by rw [if_neg (by omega)]
  · exact c2n
  · exact c2
  · exact c5n
  · exact c5
  · by_cases e : i = j
    · subst e
      rw [if_pos rfl]
      exact ⟨hn, hx⟩
    · rw [if_neg e]
      exact i1 i (by omega)
  · exact i2 i hi
  · exact i3 i hi
  · rw [if_neg (by omega)]
    exact z1 i (by omega)
  · exact z2 i hi
  · exact z3 i hi
theorem CQ.par {y : Cfg} {j1 j : Nat} {hs : List Chn} {O : Nat → Nat → ObG} (h : CQ y j1 j hs O) {l q : ObG} {uP : Value} (hn : l.n = (rsO y j).length) (hx : l.xs = (rsO y j).flatMap Rgn.vs) (qn : q.n = (psO y j).length) (qx : q.xs = (psO y j).flatMap Prt.vs) :
    CQ y j1 (j + 1) hs (updG (updG (updG O 2 j l) 3 j q) 0 2 ⟨uP, (O 0 2).n + 1, (O 0 2).xs ++ parC y j l.u q.u⟩) := by
  obtain ⟨c0n, c0, c2n, c2, c5n, c5, i1, i2, i3, z1, z2, z3⟩ := h
  refine ⟨?_, ?_, ?_, ?_, ?_, ?_, fun i hi => ?_, fun i hi => ?_, fun i hi => ?_, fun i hi => ?_, fun i hi => ?_, fun i hi => ?_⟩
  all_goals simp only [updG, Nat.zero_ne_one, Nat.one_ne_zero, Nat.reduceEqDiff, false_and, and_false, and_true, true_and, if_false, if_true, Nat.succ_ne_zero, reduceIte]
  · exact c0n
  · exact c0
  · omega
  · rw [c2]
    simp only [apN_succ, if_pos rfl]
    congr 1
    exact apN_congr fun i hi => by rw [if_neg (by omega), if_neg (by omega)]
  · exact c5n
  · exact c5
  · exact i1 i hi
  · by_cases e : i = j
    · subst e
      rw [if_pos rfl]
      exact ⟨hn, hx⟩
    · rw [if_neg e]
      exact i2 i (by omega)
  · by_cases e : i = j
    · subst e
      rw [if_pos rfl]
      exact ⟨qn, qx⟩
    · rw [if_neg e]
      exact i3 i (by omega)
  · exact z1 i hi
  · rw [if_neg (by omega)]
    exact z2 i (by omega)
  · rw [if_neg (by omega)]
    exact z3 i (by omega)
theorem CQ.chs {y : Cfg} {j1 j2 : Nat} {O : Nat → Nat → ObG} (h : CQ y j1 j2 [] O) (hs : List Chn) (u : Value) : CQ y j1 j2 hs (updG O 0 5 ⟨u, hs.length, hs.flatMap Chn.vs⟩) := by
  obtain ⟨c0n, c0, c2n, c2, c5n, c5, i1, i2, i3, z1, z2, z3⟩ := h
  refine ⟨?_, ?_, ?_, ?_, ?_, ?_, fun i hi => ?_, fun i hi => ?_, fun i hi => ?_, fun i hi => ?_, fun i hi => ?_, fun i hi => ?_⟩
  all_goals simp only [updG, Nat.zero_ne_one, Nat.one_ne_zero, Nat.reduceEqDiff, false_and, and_false, and_true, true_and, if_false, if_true, Nat.succ_ne_zero, reduceIte]
  · exact c0n
  · exact c0
  · exact c2n
  · exact c2
  · exact i1 i hi
  · exact i2 i hi
  · exact i3 i hi
  · exact z1 i hi
  · exact z2 i hi
  · exact z3 i hi

/-! ### A configuration out of the rows -/
theorem pure_len {x y : Cfg} (h : x.pure = y.pure) : x.cs.length = y.cs.length ∧ x.ps.length = y.ps.length ∧ x.hs.length = y.hs.length := by
  have h1 := congrArg (fun p => p.cs.length) h
  have h2 := congrArg (fun p => p.ps.length) h
  have h3 := congrArg (fun p => p.hs.length) h
  simp [Cfg.pure] at h1 h2 h3
  exact ⟨h1, h2, h3⟩
theorem flat_core (ys : List Core) : ys.flatMap Core.vs = ys.map Core.v := by
  induction ys with
  | nil => rfl
  | cons y ys ih => rw [List.flatMap_cons, ih]; rfl
/-- The address and the room of a slice. -/
def adO : Value → Option Addr
  | .slice a _ _ => a
  | _ => none
def cpO : Value → Nat
  | .slice _ _ c => c
  | _ => 0
theorem map_range {α : Type} (xs : List α) (f : Nat → α) (h : ∀ j x, xs[j]? = some x → f j = x) : (List.range xs.length).map f = xs := by
  apply List.ext_getElem?
  intro j
  rw [List.getElem?_map]
  by_cases hj : j < xs.length
  · rw [List.getElem?_range hj]
    exact (congrArg some (h j _ (List.getElem?_eq_getElem hj))).trans (List.getElem?_eq_getElem hj).symm
  · rw [List.getElem?_eq_none (by simpa using hj), List.getElem?_eq_none (by omega)]
    rfl
def coreO (y : Cfg) (O : Nat → Nat → ObG) (i : Nat) : Core := ⟨adO (O 1 i).u, cpO (O 1 i).u, wsO y i⟩
def parO (y : Cfg) (O : Nat → Nat → ObG) (i : Nat) : Par := match y.ps[i]? with | some P => ⟨P.name, P.entry, P.action, P.restarts, P.inputs, P.outputs, adO (O 2 i).u, cpO (O 2 i).u, P.rs, adO (O 3 i).u, cpO (O 3 i).u, P.ps⟩ | none => ⟨{ data := #[] }, 0, 0, 0, 0, 0, none, 0, [], none, 0, []⟩
theorem parO_some {y : Cfg} {O : Nat → Nat → ObG} {i : Nat} {P : Par} (h : y.ps[i]? = some P) : parO y O i = ⟨P.name, P.entry, P.action, P.restarts, P.inputs, P.outputs, adO (O 2 i).u, cpO (O 2 i).u, P.rs, adO (O 3 i).u, cpO (O 3 i).u, P.ps⟩ := by unfold parO; rw [h]
/-- The configuration whose lists these rows are (or begin). -/
def cfgO (y : Cfg) (O : Nat → Nat → ObG) : Cfg := ⟨y.frames, y.major, y.kernel, y.room, adO (O 0 0).u, cpO (O 0 0).u, (List.range y.cs.length).map (coreO y O), adO (O 0 2).u, cpO (O 0 2).u, (List.range y.ps.length).map (parO y O), adO (O 0 5).u, cpO (O 0 5).u, y.hs⟩
theorem cfgO_pure (y : Cfg) (O : Nat → Nat → ObG) : (cfgO y O).pure = y.pure := by
  unfold Cfg.pure cfgO
  simp only [PCfg.mk.injEq, true_and, and_true]
  refine ⟨?_, ?_⟩
  · rw [List.map_map]
    have : y.cs.length = (y.cs.map Core.ws).length := by simp
    rw [this]
    refine map_range _ _ fun j l hl => ?_
    rw [List.getElem?_map] at hl
    obtain ⟨X, hX, rfl⟩ := Option.map_eq_some_iff.1 hl
    exact wsO_some hX
  · rw [List.map_map]
    have : y.ps.length = (y.ps.map Par.pure).length := by simp
    rw [this]
    refine map_range _ _ fun j l hl => ?_
    rw [List.getElem?_map] at hl
    obtain ⟨P, hP, rfl⟩ := Option.map_eq_some_iff.1 hl
    show (parO y O j).pure = P.pure
    rw [parO_some hP]
    rfl

/-- The rows begin with what the configuration has. -/
structure Beg (y : Cfg) (w : World) (O : Nat → Nat → ObG) : Prop where
  c0 : ∀ j, j < y.cs.length → ∃ g, adO (O 0 0).u = some ⟨g, 0, none⟩ ∧ w.cell? ⟨g, j, none⟩ = some (coreO y O j).v
  c0l : y.cs.length ≤ cpO (O 0 0).u ∧ cpO (O 0 0).u ≤ maxLen
  c2 : ∀ j, j < y.ps.length → ∃ g, adO (O 0 2).u = some ⟨g, 0, none⟩ ∧ ∀ i v, (parO y O j).vs[i]? = some v → w.cell? ⟨g, j * 8 + i, none⟩ = some v
  c2l : y.ps.length ≤ cpO (O 0 2).u ∧ cpO (O 0 2).u ≤ maxLen
  c5 : SegA Chn.vs 3 w (adO (O 0 5).u) y.hs
  c5l : y.hs.length ≤ cpO (O 0 5).u ∧ cpO (O 0 5).u ≤ maxLen
  i1 : ∀ j X, y.cs[j]? = some X → SegA Win.vs 3 w (adO (O 1 j).u) X.ws ∧ X.ws.length ≤ cpO (O 1 j).u ∧ cpO (O 1 j).u ≤ maxLen
  i2 : ∀ j P, y.ps[j]? = some P → (SegA Rgn.vs 4 w (adO (O 2 j).u) P.rs ∧ P.rs.length ≤ cpO (O 2 j).u ∧ cpO (O 2 j).u ≤ maxLen) ∧ SegA Prt.vs 2 w (adO (O 3 j).u) P.ps ∧ P.ps.length ≤ cpO (O 3 j).u ∧ cpO (O 3 j).u ≤ maxLen
theorem Beg.in {y : Cfg} {w w0 : World} {O : Nat → Nat → ObG} {N : Nat} (h : Beg y w O) (hy : y.In w0 N) : (cfgO y O).In w w.heap.size := by
  have hl1 : (cfgO y O).cs.length = y.cs.length := by simp [cfgO]
  have hl2 : (cfgO y O).ps.length = y.ps.length := by simp [cfgO]
  have g1 : ∀ j X, (cfgO y O).cs[j]? = some X → j < y.cs.length ∧ X = coreO y O j := fun j X hX => by
    have hj : j < y.cs.length := by rw [← hl1]; exact get_lt hX
    refine ⟨hj, ?_⟩
    simp [cfgO, hj] at hX
    exact hX.symm
  have g2 : ∀ j P, (cfgO y O).ps[j]? = some P → j < y.ps.length ∧ P = parO y O j := fun j P hP => by
    have hj : j < y.ps.length := by rw [← hl2]; exact get_lt hP
    refine ⟨hj, ?_⟩
    simp [cfgO, hj] at hP
    exact hP.symm
  have s0 : SegA Core.vs 1 w (cfgO y O).ca (cfgO y O).cs := by
    by_cases h0 : y.cs.length = 0
    · exact .inl (List.eq_nil_of_length_eq_zero (by rw [hl1]; exact h0))
    · obtain ⟨g, ea, _⟩ := h.c0 0 (by omega)
      refine .inr ⟨g, 0, ea, fun j X hX i v hv => ?_⟩
      obtain ⟨hj, rfl⟩ := g1 j X hX
      obtain ⟨g', ea', hc⟩ := h.c0 j hj
      rw [ea] at ea'
      cases ea'
      have hi : i = 0 := by have := get_lt hv; simp at this; exact this
      subst hi
      cases hv
      simpa using hc
  have s2 : SegA Par.vs 8 w (cfgO y O).pa (cfgO y O).ps := by
    by_cases h0 : y.ps.length = 0
    · exact .inl (List.eq_nil_of_length_eq_zero (by rw [hl2]; exact h0))
    · obtain ⟨g, ea, _⟩ := h.c2 0 (by omega)
      refine .inr ⟨g, 0, ea, fun j X hX i v hv => ?_⟩
      obtain ⟨hj, rfl⟩ := g2 j X hX
      obtain ⟨g', ea', hc⟩ := h.c2 j hj
      rw [ea] at ea'
      cases ea'
      rw [Nat.zero_add]
      exact hc i v hv
  refine ⟨s0, fun hn a ha => segA_lt s0 (fun _ => by simp) hn a ha, by rw [hl1]; exact h.c0l, fun X hX => ?_, s2, fun hn a ha => segA_lt s2 (fun _ => by simp) hn a ha, by rw [hl2]; exact h.c2l, fun P hP => ?_, h.c5, fun hn a ha => segA_lt h.c5 (fun _ => by simp) hn a ha, h.c5l, hy.hfine, hy.ns⟩
  · obtain ⟨j, hj⟩ := List.getElem?_of_mem hX
    obtain ⟨hjl, rfl⟩ := g1 j X hj
    obtain ⟨Y, hY⟩ : ∃ Y, y.cs[j]? = some Y := ⟨_, List.getElem?_eq_getElem hjl⟩
    have hw := wsO_some hY
    obtain ⟨a1, a2, a3⟩ := h.i1 j Y hY
    have a1' : SegA Win.vs 3 w (coreO y O j).a (coreO y O j).ws := by unfold coreO; rw [hw]; exact a1
    exact ⟨a1', fun hn a ha => segA_lt a1' (fun _ => by simp) hn a ha, by unfold coreO; rw [hw]; exact ⟨a2, a3⟩, by unfold coreO; rw [hw]; exact (hy.cin Y (List.mem_of_getElem? hY)).fine⟩
  · obtain ⟨j, hj⟩ := List.getElem?_of_mem hP
    obtain ⟨hjl, rfl⟩ := g2 j P hj
    obtain ⟨Y, hY⟩ : ∃ Y, y.ps[j]? = some Y := ⟨_, List.getElem?_eq_getElem hjl⟩
    obtain ⟨⟨a1, a2, a3⟩, b1, b2, b3⟩ := h.i2 j Y hY
    have hyp := hy.pin Y (List.mem_of_getElem? hY)
    rw [parO_some hY]
    exact ⟨a1, fun hn a ha => segA_lt a1 (fun _ => by simp) hn a ha, ⟨a2, a3⟩, hyp.rfine, b1, fun hn a ha => segA_lt b1 (fun _ => by simp) hn a ha, ⟨b2, b3⟩, hyp.pfine, hyp.ns, hyp.name⟩
/-- The rows' own forms. -/
theorem Fam.ad {ty : Nat → Nat → TypeId × Nat} {lo : Nat} {w : World} {O : Nat → Nat → ObG} (h : Fam ty lo w O) (a b : Nat) : (O a b).u = .slice (adO (O a b).u) (O a b).n (cpO (O a b).u) ∧ (O a b).n ≤ cpO (O a b).u ∧ cpO (O a b).u ≤ maxLen := by
  obtain ⟨d, c, e, h1, h2⟩ := h.form a b
  rw [e]
  exact ⟨rfl, h1, h2⟩
/-- What a row begins with can be read. -/
theorem Fam.seg {α : Type} (E : Elem α) {ty : Nat → Nat → TypeId × Nat} {lo : Nat} {w : World} {O : Nat → Nat → ObG} (h : Fam ty lo w O) (a b : Nat) (ls : List α) (rest : List Value) (hx : (O a b).xs = ls.flatMap E.vs ++ rest) (hn : ls.length ≤ (O a b).n) : SegA E.vs E.k w (adO (O a b).u) ls := by
  by_cases h0 : (O a b).n = 0
  · exact .inl (List.eq_nil_of_length_eq_zero (by omega))
  · obtain ⟨g, cap, e, _, _, hc⟩ := h.row a b rfl (by omega)
    rw [e]
    refine seg_flat E fun i v hv => hc i v ?_
    rw [hx, List.getElem?_append_left (get_lt hv)]
    exact hv
theorem RP.beg {y : Cfg} {lo : Nat} {w : World} {O : Nat → Nat → ObG} (hF : FamO lo w O) (h : RP y y.cs.length y.ps.length y.hs 12 O) : Beg y w O := by
  refine ⟨fun j hj => ?_, ⟨?_, (hF.ad 0 0).2.2⟩, fun j hj => ?_, ⟨?_, (hF.ad 0 2).2.2⟩, ?_, ⟨?_, (hF.ad 0 5).2.2⟩, fun j X hX => ?_, fun j P hP => ?_⟩
  · obtain ⟨g, p, e, _, _, hc⟩ := hF.row 0 0 h.c0n (by omega)
    refine ⟨g, by rw [e]; rfl, hc j _ ?_⟩
    obtain ⟨X, hX⟩ : ∃ X, y.cs[j]? = some X := ⟨_, List.getElem?_eq_getElem hj⟩
    have hl : (apN (fun i => [cut (wsO y i).length (O 1 i).u]) y.cs.length).length = y.cs.length := by rw [apN_len (s := 1) fun _ _ => rfl]; omega
    rw [h.c0, List.getElem?_append_left (by omega)]
    have := apN_get (f := fun i => [cut (wsO y i).length (O 1 i).u]) (s := 1) (fun _ _ => rfl) hj (i := 0) (by omega)
    have e1 := (hF.ad 1 j).1
    simp only [Nat.mul_one, Nat.add_zero] at this
    rw [this, e1]
    rfl
  · have := (hF.ad 0 0).2.1; have := h.c0n; omega
  · obtain ⟨g, p, e, _, _, hc⟩ := hF.row 0 2 h.c2n (by omega)
    refine ⟨g, by rw [e]; rfl, fun i v hv => hc _ _ ?_⟩
    obtain ⟨P, hP⟩ : ∃ P, y.ps[j]? = some P := ⟨_, List.getElem?_eq_getElem hj⟩
    have hf : ∀ i, i < y.ps.length → (parC y i (cut (rsO y i).length (O 2 i).u) (cut (psO y i).length (O 3 i).u)).length = 8 := fun i hi => by
      obtain ⟨P, hP⟩ : ∃ P, y.ps[i]? = some P := ⟨_, List.getElem?_eq_getElem hi⟩
      rw [parC_some hP]; rfl
    have hl := apN_len hf
    have h8 : i < 8 := get_lt hv
    have : j * 8 + i < y.ps.length * 8 := by omega
    rw [h.c2, List.getElem?_append_left (by rw [hl]; exact this), apN_get hf hj h8, parC_some hP, (hF.ad 2 j).1, (hF.ad 3 j).1, rsO_some hP, psO_some hP]
    rw [parO_some hP] at hv
    exact hv
  · have := (hF.ad 0 2).2.1; have := h.c2n; omega
  · exact hF.seg eChn 0 5 y.hs _ h.c5 (by have := h.c5n; omega)
  · have := (hF.ad 0 5).2.1; have := h.c5n; omega
  · have hj := get_lt hX
    have hi := h.i1 j hj
    rw [wsO_some hX] at hi
    exact ⟨hF.seg eWin 1 j X.ws _ hi.2 (by omega), by have := (hF.ad 1 j).2.1; omega, (hF.ad 1 j).2.2⟩
  · have hj := get_lt hP
    have hi := h.i2 j hj
    have hi3 := h.i3 j hj
    rw [rsO_some hP] at hi
    rw [psO_some hP] at hi3
    exact ⟨⟨hF.seg eRgn 2 j P.rs _ hi.2 (by omega), by have := (hF.ad 2 j).2.1; omega, (hF.ad 2 j).2.2⟩, hF.seg ePrt 3 j P.ps _ hi3.2 (by omega), by have := (hF.ad 3 j).2.1; omega, (hF.ad 3 j).2.2⟩
theorem CQ.beg {y : Cfg} {lo : Nat} {w : World} {O : Nat → Nat → ObG} (hF : FamO lo w O) (h : CQ y y.cs.length y.ps.length y.hs O) : Beg y w O := by
  refine ⟨fun j hj => ?_, ⟨?_, (hF.ad 0 0).2.2⟩, fun j hj => ?_, ⟨?_, (hF.ad 0 2).2.2⟩, ?_, ⟨?_, (hF.ad 0 5).2.2⟩, fun j X hX => ?_, fun j P hP => ?_⟩
  · obtain ⟨g, p, e, _, _, hc⟩ := hF.row 0 0 h.c0n (by omega)
    refine ⟨g, by rw [e]; rfl, hc j _ ?_⟩
    rw [h.c0]
    have := apN_get (f := fun i => [(O 1 i).u]) (s := 1) (fun _ _ => rfl) hj (i := 0) (by omega)
    have e1 := (hF.ad 1 j).1
    simp only [Nat.mul_one, Nat.add_zero] at this
    rw [this, e1, (h.i1 j hj).1]
    rfl
  · have := (hF.ad 0 0).2.1; have := h.c0n; omega
  · obtain ⟨g, p, e, _, _, hc⟩ := hF.row 0 2 h.c2n (by omega)
    refine ⟨g, by rw [e]; rfl, fun i v hv => hc _ _ ?_⟩
    obtain ⟨P, hP⟩ : ∃ P, y.ps[j]? = some P := ⟨_, List.getElem?_eq_getElem hj⟩
    have hf : ∀ i, i < y.ps.length → (parC y i (O 2 i).u (O 3 i).u).length = 8 := fun i hi => by
      obtain ⟨P, hP⟩ : ∃ P, y.ps[i]? = some P := ⟨_, List.getElem?_eq_getElem hi⟩
      rw [parC_some hP]; rfl
    have h8 : i < 8 := get_lt hv
    rw [h.c2, apN_get hf hj h8, parC_some hP, (hF.ad 2 j).1, (hF.ad 3 j).1, (h.i2 j hj).1, (h.i3 j hj).1, rsO_some hP, psO_some hP]
    rw [parO_some hP] at hv
    exact hv
  · have := (hF.ad 0 2).2.1; have := h.c2n; omega
  · exact hF.seg eChn 0 5 y.hs [] (by rw [h.c5]; simp; rfl) (by have := h.c5n; omega)
  · have := (hF.ad 0 5).2.1; have := h.c5n; omega
  · have hj := get_lt hX
    have hi := h.i1 j hj
    rw [wsO_some hX] at hi
    exact ⟨hF.seg eWin 1 j X.ws [] (by rw [hi.2]; simp; rfl) (by omega), by have := (hF.ad 1 j).2.1; omega, (hF.ad 1 j).2.2⟩
  · have hj := get_lt hP
    have hi := h.i2 j hj
    have hi3 := h.i3 j hj
    rw [rsO_some hP] at hi
    rw [psO_some hP] at hi3
    exact ⟨⟨hF.seg eRgn 2 j P.rs [] (by rw [hi.2]; simp; rfl) (by omega), by have := (hF.ad 2 j).2.1; omega, (hF.ad 2 j).2.2⟩, hF.seg ePrt 3 j P.ps [] (by rw [hi3.2]; simp; rfl) (by omega), by have := (hF.ad 3 j).2.1; omega, (hF.ad 3 j).2.2⟩
end Go.Proofs.YtjadpbkhfclldaaGreat
