import Derived.Test.YtofjbkoojimmhaaGreatCk
namespace Go.Proofs.YtofjbkoojimmhaaGreat
open Go.RowKit
set_option linter.unusedVariables false
set_option linter.unusedSimpArgs false
set_option maxRecDepth 6000

/-- What holds of a partition of one that holds together. -/
structure GP (x : Cfg) (p : Nat) (P : Par) : Prop where
  name : nameB P.name = true
  other : ∀ Q ∈ x.ps.take p, (Q.name.toList == P.name.toList) = false
  act : inR P.action 0 2 = true ∧ inR P.restarts 0 15 = true
  dev : inR P.inputs 0 16 = true ∧ inR P.outputs 0 16 = true
  rlen : 1 ≤ P.rs.length ∧ P.rs.length ≤ 8
  rok : ∀ r ∈ P.rs, r.okB x.frames = true
  pages : P.rs.Pairwise fun s r => s.pg.meets r.pg = false
  frames : P.rs.Pairwise fun s r => s.fr.meets r.fr = false
  ahead : ∀ Q ∈ x.ps.take p, ∀ s ∈ Q.rs, ∀ r ∈ P.rs, s.fr.meets r.fr = false
  beg : P.begB = true
  plen : P.ps.length ≤ 8
  pch : ∀ t ∈ P.ps, 0 ≤ t.ch ∧ t.ch < x.hs.length
structure GH (x : Cfg) (n : Nat) (h : Chn) : Prop where
  ok : h.okB = true
  src : cntQ ⟨n, true⟩ x.ps = 1
  dst : 1 ≤ cntQ ⟨n, false⟩ x.ps ∧ (cntQ ⟨n, false⟩ x.ps : Int) ≤ h.most
structure GC (x : Cfg) (n : Nat) (X : Core) : Prop where
  len : 1 ≤ X.ws.length ∧ X.ws.length ≤ 16
  par : ∀ y ∈ X.ws, -1 ≤ y.p ∧ y.p < x.ps.length
  use : ∀ y ∈ X.ws, 1 ≤ y.u ∧ y.u ≤ 16384
  slk : ∀ y ∈ X.ws, 82 ≤ y.s ∧ y.s ≤ 16384
  one : ∀ y ∈ X.ws, hasW y.p (x.cs.take n) = false
  sum : cyc X.ws = x.major
/-- It holds together. -/
structure Gd (x : Cfg) : Prop where
  frames : 1 ≤ x.frames ∧ x.frames ≤ 1024
  major : 1 ≤ x.major ∧ x.major ≤ 16384
  cs : 1 ≤ x.cs.length ∧ x.cs.length ≤ 4
  ps : 1 ≤ x.ps.length ∧ x.ps.length ≤ 8
  hs : x.hs.length ≤ 16
  gp : ∀ (p : Nat) (P : Par), x.ps[p]? = some P → GP x p P
  gh : ∀ (n : Nat) (h : Chn), x.hs[n]? = some h → GH x n h
  gc : ∀ (n : Nat) (X : Core), x.cs[n]? = some X → GC x n X
  ker : x.kerB = true

theorem firstF_range {n : Nat} {f : Nat → Flt} : (firstF ((List.range n).map f)).n = 0 ↔ ∀ i, i < n → (f i).n = 0 := by
  rw [firstF_eq0]
  constructor
  · intro h i hi
    exact h _ (List.mem_map.2 ⟨i, List.mem_range.2 hi, rfl⟩)
  · intro h g hg
    obtain ⟨i, hi, rfl⟩ := List.mem_map.1 hg
    exact h i (List.mem_range.1 hi)
theorem pairwise_take {α : Type} {R : α → α → Prop} {l : List α} : l.Pairwise R ↔ ∀ (i : Nat) (r : α), l[i]? = some r → ∀ s ∈ l.take i, R s r := by
  rw [List.pairwise_iff_getElem]
  constructor
  · intro h i r hr s hs
    obtain ⟨hi, rfl⟩ := List.getElem?_eq_some_iff.1 hr
    obtain ⟨j, hj, rfl⟩ := List.getElem_of_mem hs
    rw [List.length_take] at hj
    rw [List.getElem_take]
    exact h j i (by omega) hi (by omega)
  · intro h i j hi hj hij
    refine h j l[j] (List.getElem?_eq_getElem hj) _ ?_
    have : (l.take j)[i]'(by rw [List.length_take]; omega) = l[i] := List.getElem_take
    rw [← this]
    exact List.getElem_mem _
theorem rgnF_n {x : Cfg} {p : Nat} {P : Par} {i : Nat} {r : Rgn} : (firstF (rgnF x p P i r)).n = 0 ↔ r.okB x.frames = true ∧ (∀ s ∈ P.rs.take i, s.pg.meets r.pg = false) ∧ (∀ s ∈ P.rs.take i, s.fr.meets r.fr = false) ∧ (∀ Q ∈ x.ps.take p, ∀ s ∈ Q.rs, s.fr.meets r.fr = false) := by
  rw [firstF_eq0]
  simp only [rgnF, List.mem_cons, List.not_mem_nil, or_false, forall_eq_or_imp, forall_eq]
  rw [unl_n (by simp), unl_n (by simp), unl_n (by simp), unl_n (by simp)]
  simp only [Bool.not_eq_true', List.any_eq_false, Bool.not_eq_true]
theorem rgnsF_n {x : Cfg} {p : Nat} {P : Par} : (rgnsF x p P).n = 0 ↔ (∀ r ∈ P.rs, r.okB x.frames = true) ∧ (P.rs.Pairwise fun s r => s.pg.meets r.pg = false) ∧ (P.rs.Pairwise fun s r => s.fr.meets r.fr = false) ∧ (∀ Q ∈ x.ps.take p, ∀ s ∈ Q.rs, ∀ r ∈ P.rs, s.fr.meets r.fr = false) := by
  unfold rgnsF
  rw [firstF_range, pairwise_take, pairwise_take]
  constructor
  · intro h
    have h' : ∀ (i : Nat) (r : Rgn), P.rs[i]? = some r → (firstF (rgnF x p P i r)).n = 0 := fun i r hr => by
      have := h i (List.getElem?_eq_some_iff.1 hr).1
      unfold rgnF' at this
      rw [hr] at this
      exact this
    refine ⟨fun r hr => ?_, fun i r hr => (rgnF_n.1 (h' i r hr)).2.1, fun i r hr => (rgnF_n.1 (h' i r hr)).2.2.1, fun Q hQ s hs r hr => ?_⟩
    · obtain ⟨i, hi⟩ := List.getElem?_of_mem hr
      exact (rgnF_n.1 (h' i r hi)).1
    · obtain ⟨i, hi⟩ := List.getElem?_of_mem hr
      exact (rgnF_n.1 (h' i r hi)).2.2.2 Q hQ s hs
  · rintro ⟨h1, h2, h3, h4⟩ i hi
    obtain ⟨r, hr⟩ : ∃ r, P.rs[i]? = some r := ⟨_, List.getElem?_eq_getElem hi⟩
    unfold rgnF'
    rw [hr]
    have hm := List.mem_of_getElem? hr
    exact rgnF_n.2 ⟨h1 r hm, h2 i r hr, h3 i r hr, fun Q hQ s hs => h4 Q hQ s hs r hm⟩
theorem prtsF_n {x : Cfg} {p : Nat} {P : Par} : (prtsF x p P).n = 0 ↔ ∀ t ∈ P.ps, 0 ≤ t.ch ∧ t.ch < x.hs.length := by
  unfold prtsF
  rw [firstF_range]
  have key : ∀ (i : Nat) (t : Prt), P.ps[i]? = some t → ((firstF (prtF' x p P i)).n = 0 ↔ 0 ≤ t.ch ∧ t.ch < x.hs.length) := fun i t ht => by
    unfold prtF'
    rw [ht]
    show (firstF (prtF x p i t)).n = 0 ↔ _
    rw [firstF_eq0]
    simp only [prtF, List.mem_cons, List.not_mem_nil, or_false, forall_eq]
    rw [unl_n (by simp), inR_iff]
    omega
  constructor
  · intro h t ht
    obtain ⟨i, hi⟩ := List.getElem?_of_mem ht
    exact (key i t hi).1 (h i (List.getElem?_eq_some_iff.1 hi).1)
  · intro h i hi
    obtain ⟨t, ht⟩ : ∃ t, P.ps[i]? = some t := ⟨_, List.getElem?_eq_getElem hi⟩
    exact (key i t ht).2 (h t (List.mem_of_getElem? ht))
theorem parF_n {x : Cfg} {p : Nat} {P : Par} : (firstF (parF x p P)).n = 0 ↔ GP x p P := by
  rw [firstF_eq0]
  simp only [parF, List.mem_cons, List.not_mem_nil, or_false, forall_eq_or_imp, forall_eq]
  rw [unl_n (by simp), unl_n (by simp), unl_n (by simp), unl_n (by simp), unl_n (by simp), unl_n (by simp), rgnsF_n, prtsF_n]
  simp only [Bool.and_eq_true, Bool.not_eq_true', List.any_eq_false, Bool.not_eq_true, inR_iff, decide_eq_true_eq]
  constructor
  · rintro ⟨⟨a1, a2⟩, a3, a4, a5, ⟨a6, a7, a8, a9⟩, a10, a11, a12⟩
    exact ⟨a1, a2, ⟨inR_iff.2 a3.1, inR_iff.2 a3.2⟩, ⟨inR_iff.2 a4.1, inR_iff.2 a4.2⟩, by omega, a6, a7, a8, a9, a10, by omega, a12⟩
  · intro h
    exact ⟨⟨h.name, h.other⟩, ⟨inR_iff.1 h.act.1, inR_iff.1 h.act.2⟩, ⟨inR_iff.1 h.dev.1, inR_iff.1 h.dev.2⟩, by have := h.rlen; omega, ⟨h.rok, h.pages, h.frames, h.ahead⟩, h.beg, by have := h.plen; omega, h.pch⟩
theorem chnF_n {x : Cfg} {n : Nat} {h : Chn} : (firstF (chnF x n h)).n = 0 ↔ GH x n h := by
  rw [firstF_eq0]
  simp only [chnF, List.mem_cons, List.not_mem_nil, or_false, forall_eq_or_imp, forall_eq]
  rw [unl_n (by simp), unl_n (by simp), unl_n (by simp), beq_iff_eq, inR_iff]
  constructor
  · rintro ⟨a1, a2, a3⟩
    exact ⟨a1, by omega, by omega, a3.2⟩
  · intro h
    exact ⟨h.ok, by have := h.src; omega, by have := h.dst; omega, h.dst.2⟩
theorem winF_n {x : Cfg} {n i : Nat} {y : Win} : (firstF (winF x n i y)).n = 0 ↔ (-1 ≤ y.p ∧ y.p < x.ps.length) ∧ (1 ≤ y.u ∧ y.u ≤ 16384) ∧ (82 ≤ y.s ∧ y.s ≤ 16384) ∧ hasW y.p (x.cs.take n) = false := by
  rw [firstF_eq0]
  simp only [winF, List.mem_cons, List.not_mem_nil, or_false, forall_eq_or_imp, forall_eq]
  rw [unl_n (by simp), unl_n (by simp), unl_n (by simp), Bool.and_eq_true, inR_iff, inR_iff, inR_iff, Bool.not_eq_true']
  constructor
  · rintro ⟨⟨a1, a2⟩, a3, a4⟩
    exact ⟨by omega, a2, a3, a4⟩
  · rintro ⟨a1, a2, a3, a4⟩
    exact ⟨⟨by omega, a2⟩, a3, a4⟩
theorem corF_n {x : Cfg} {n : Nat} {X : Core} : (firstF (corF x n X)).n = 0 ↔ GC x n X := by
  have key : (winsF x n X).n = 0 ↔ ∀ y ∈ X.ws, (-1 ≤ y.p ∧ y.p < x.ps.length) ∧ (1 ≤ y.u ∧ y.u ≤ 16384) ∧ (82 ≤ y.s ∧ y.s ≤ 16384) ∧ hasW y.p (x.cs.take n) = false := by
    unfold winsF
    rw [firstF_range]
    have key2 : ∀ (i : Nat) (y : Win), X.ws[i]? = some y → ((firstF (winF' x n X i)).n = 0 ↔ (-1 ≤ y.p ∧ y.p < x.ps.length) ∧ (1 ≤ y.u ∧ y.u ≤ 16384) ∧ (82 ≤ y.s ∧ y.s ≤ 16384) ∧ hasW y.p (x.cs.take n) = false) := fun i y hy => by
      unfold winF'
      rw [hy]
      exact winF_n (i := i)
    constructor
    · intro h y hy
      obtain ⟨i, hi⟩ := List.getElem?_of_mem hy
      exact (key2 i y hi).1 (h i (List.getElem?_eq_some_iff.1 hi).1)
    · intro h i hi
      obtain ⟨y, hy⟩ : ∃ y, X.ws[i]? = some y := ⟨_, List.getElem?_eq_getElem hi⟩
      exact (key2 i y hy).2 (h y (List.mem_of_getElem? hy))
  rw [firstF_eq0]
  simp only [corF, List.mem_cons, List.not_mem_nil, or_false, forall_eq_or_imp, forall_eq]
  rw [unl_n (by simp), unl_n (by simp), key, beq_iff_eq, inR_iff]
  constructor
  · rintro ⟨a1, a2, a3⟩
    exact ⟨by omega, fun y hy => (a2 y hy).1, fun y hy => (a2 y hy).2.1, fun y hy => (a2 y hy).2.2.1, fun y hy => (a2 y hy).2.2.2, a3⟩
  · intro h
    exact ⟨by have := h.len; omega, fun y hy => ⟨h.par y hy, h.use y hy, h.slk y hy, h.one y hy⟩, h.sum⟩
theorem chk_n {x : Cfg} : (chk x).n = 0 ↔ Gd x := by
  unfold chk
  rw [firstF_eq0]
  simp only [cfgF, List.mem_cons, List.not_mem_nil, or_false, forall_eq_or_imp, forall_eq]
  rw [unl_n (by simp), unl_n (by simp), unl_n (by simp), unl_n (by simp), unl_n (by simp), unl_n (by simp), inR_iff, inR_iff, inR_iff, inR_iff, decide_eq_true_eq]
  unfold parsF chnsF corsF
  rw [firstF_range, firstF_range, firstF_range]
  have e1 : (∀ i, i < x.ps.length → (firstF (parF' x i)).n = 0) ↔ ∀ (p : Nat) (P : Par), x.ps[p]? = some P → GP x p P := by
    constructor
    · intro h p P hP
      have := h p (List.getElem?_eq_some_iff.1 hP).1
      unfold parF' at this
      rw [hP] at this
      exact parF_n.1 this
    · intro h p hp
      obtain ⟨P, hP⟩ : ∃ P, x.ps[p]? = some P := ⟨_, List.getElem?_eq_getElem hp⟩
      unfold parF'
      rw [hP]
      exact parF_n.2 (h p P hP)
  have e2 : (∀ i, i < x.hs.length → (firstF (chnF' x i)).n = 0) ↔ ∀ (p : Nat) (P : Chn), x.hs[p]? = some P → GH x p P := by
    constructor
    · intro h p P hP
      have := h p (List.getElem?_eq_some_iff.1 hP).1
      unfold chnF' at this
      rw [hP] at this
      exact chnF_n.1 this
    · intro h p hp
      obtain ⟨P, hP⟩ : ∃ P, x.hs[p]? = some P := ⟨_, List.getElem?_eq_getElem hp⟩
      unfold chnF'
      rw [hP]
      exact chnF_n.2 (h p P hP)
  have e3 : (∀ i, i < x.cs.length → (firstF (corF' x i)).n = 0) ↔ ∀ (p : Nat) (P : Core), x.cs[p]? = some P → GC x p P := by
    constructor
    · intro h p P hP
      have := h p (List.getElem?_eq_some_iff.1 hP).1
      unfold corF' at this
      rw [hP] at this
      exact corF_n.1 this
    · intro h p hp
      obtain ⟨P, hP⟩ : ∃ P, x.cs[p]? = some P := ⟨_, List.getElem?_eq_getElem hp⟩
      unfold corF'
      rw [hP]
      exact corF_n.2 (h p P hP)
  rw [e1, e2, e3]
  constructor
  · rintro ⟨a1, a2, a3, a4, a5, a6, a7, a8, a9⟩
    exact ⟨a1, a2, by omega, by omega, by omega, a6, a7, a8, a9⟩
  · intro h
    exact ⟨h.frames, h.major, by have := h.cs; omega, by have := h.ps; omega, by have := h.hs; omega, h.gp, h.gh, h.gc, h.ker⟩
end Go.Proofs.YtofjbkoojimmhaaGreat
