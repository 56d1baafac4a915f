import Derived.Test.YtljhdijledclhaaOwn
namespace Go.Proofs.Ytljhdijledclhaa
open Go.RowKit
set_option linter.unusedVariables false
set_option linter.unusedSimpArgs false

def ptr (b : Nat) : Value := .pointer (some ⟨b, 0, none⟩)

/-- A pair of memories: the program's, the document's, their words. -/
structure Pr where
  b : Nat
  g : Nat
  rb : Nat
  rg : Nat
  xs : List UInt32
def Pr.vs (p : Pr) : List Value := [ptr p.b, ptr p.rb]
/-- An iterator that was kept: its captured cells, of which two memories. -/
structure It where
  c : Nat
  d : Nat
  i : Nat
  j : Nat
def It.vs (t : It) : List Value := [.func (.func 54) #[] #[ptr t.c, ptr t.d], .int .i64 t.i, .int .i64 t.j]
/-- A list that was kept, and what it must hold. -/
structure Kp where
  a : Option Addr
  v : Value
  xs : List UInt32
def Kp.vs (e : Kp) : List Value := [.slice e.a e.xs.length e.xs.length, e.v, .slice none 0 0, .slice none 0 0]

/-- Where everything stands in the play. -/
structure GS where
  X : Nat
  sl : Value
  si : Value
  sk : Value
  P : List Pr
  I : List It
  K : List Kp

structure Rel (s : Nat × Nat → Ob) (g : GS) (w0 : World) : Prop where
  base : s (0, 0) = .base w0
  x : s (1, 0) = .blk g.X [g.sl, g.si, g.sk] 38
  rl : s (2, 0) = .row 85 2 g.sl g.P.length (g.P.flatMap Pr.vs)
  ri : s (3, 0) = .row 96 3 g.si g.I.length (g.I.flatMap It.vs)
  rk : s (4, 0) = .row 101 4 g.sk g.K.length (g.K.flatMap Kp.vs)
  mm : ∀ (i : Nat) (p : Pr), g.P[i]? = some p → s (5, i) = .mm p.b p.g p.xs ∧ s (6, i) = .rm p.rb p.rg p.xs
  it : ∀ (i : Nat) (t : It), g.I[i]? = some t → ∃ p q, g.P[t.i]? = some p ∧ g.P[t.j]? = some q ∧ s (7, i) = .blk t.c [ptr p.b] 42 ∧ s (8, i) = .blk t.d [ptr q.b] 42
  lw : ∀ (i : Nat) (e : Kp), g.K[i]? = some e → s (9, i) = .row 26 1 (.slice e.a e.xs.length e.xs.length) e.xs.length (wvs e.xs) ∧ s (10, i) = .row 26 1 e.v e.xs.length (wvs e.xs)

/-- How much there is, at most. -/
structure Small (g : GS) (T : Nat) : Prop where
  p1 : 1 ≤ g.P.length
  p12 : g.P.length ≤ 12
  px : ∀ (i : Nat) (p : Pr), g.P[i]? = some p → ∃ n, 1 ≤ n ∧ n ≤ 1024 ∧ p.xs.length = n * 16
  i : g.I.length ≤ T
  k : g.K.length ≤ T
  ks : ∀ (i : Nat) (e : Kp), g.K[i]? = some e → e.xs.length ≤ 16384

structure Game (w0 w : World) (X T : Nat) : Prop where
  out : ∃ s g, Has s w ∧ Rel s g w0 ∧ Small g T ∧ g.X = X

theorem Small.mono {g : GS} {T T' : Nat} (h : Small g T) (hT : T ≤ T') : Small g T' := ⟨h.p1, h.p12, h.px, by have := h.i; omega, by have := h.k; omega, h.ks⟩

/-- What an update of keys that the play does not use leaves. -/
theorem Rel.other {s : Nat × Nat → Ob} {g : GS} {w0 : World} (h : Rel s g w0) (i j : Nat) (hi : 11 ≤ i) (ob : Ob) : Rel (upd s (i, j) ob) g w0 := by
  have ne : ∀ a b, a < 11 → upd s (i, j) ob (a, b) = s (a, b) := fun a b ha => upd_ne _ _ _ _ (by intro e; cases e; omega)
  refine ⟨?_, ?_, ?_, ?_, ?_, fun i p hp => ?_, fun i t ht => ?_, fun i e he => ?_⟩
  · rw [ne _ _ (by omega)]; exact h.base
  · rw [ne _ _ (by omega)]; exact h.x
  · rw [ne _ _ (by omega)]; exact h.rl
  · rw [ne _ _ (by omega)]; exact h.ri
  · rw [ne _ _ (by omega)]; exact h.rk
  · rw [ne _ _ (by omega), ne _ _ (by omega)]; exact h.mm i p hp
  · rw [ne _ _ (by omega), ne _ _ (by omega)]; exact h.it i t ht
  · rw [ne _ _ (by omega), ne _ _ (by omega)]; exact h.lw i e he

theorem owns_cellK {w : World} {e : TypeId} {size n c : Nat} {a : Option Addr} {vs : List Value} (h : w.ownsRow 0 e size (.slice a n c) n vs) {j : Nat} {v : Value} (hv : vs[j]? = some v) : ∃ g, a = some ⟨g, 0, none⟩ ∧ w.cell? ⟨g, j, none⟩ = some v := by
  rcases h.2 with ⟨h0, hn⟩ | ⟨g, cap, cur, h0, hb, hg, hnc, hcm, hcs, htake⟩
  · have := h.1
    rw [hn, Nat.zero_mul] at this
    rw [List.eq_nil_of_length_eq_zero this] at hv
    simp at hv
  · cases h0
    refine ⟨g, rfl, ?_⟩
    have hB : Blk w g cur.toList e := by unfold Blk; rw [hg, Array.toArray_toList]
    refine hB.cell ?_
    rw [← htake, List.getElem?_take] at hv
    split at hv
    · exact hv
    · cases hv

theorem pvs_get (P : List Pr) (i : Nat) (p : Pr) (h : P[i]? = some p) : (P.flatMap Pr.vs)[i * 2]? = some (ptr p.b) ∧ (P.flatMap Pr.vs)[i * 2 + 1]? = some (ptr p.rb) := by
  induction P generalizing i with
  | nil => simp at h
  | cons q P ih =>
    cases i with
    | zero => simp at h; subst h; exact ⟨rfl, rfl⟩
    | succ i =>
      have h' : P[i]? = some p := by simpa using h
      have := ih i h'
      rw [List.flatMap_cons]
      have hl : q.vs.length = 2 := rfl
      rw [List.getElem?_append_right (by omega), List.getElem?_append_right (by omega), hl, show (i + 1) * 2 - 2 = i * 2 by omega, show (i + 1) * 2 + 1 - 2 = i * 2 + 1 by omega]
      exact this

/-- One pair's words are others now. -/
def GS.setP (g : GS) (i : Nat) (p : Pr) (xs : List UInt32) : GS := { g with P := g.P.set i { p with xs := xs } }

theorem pvs_set (P : List Pr) (i : Nat) (p : Pr) (xs : List UInt32) (h : P[i]? = some p) : (P.set i { p with xs := xs }).flatMap Pr.vs = P.flatMap Pr.vs := by
  induction P generalizing i with
  | nil => simp at h
  | cons q P ih =>
    cases i with
    | zero => simp at h; subst h; rfl
    | succ i => rw [List.set_cons_succ, List.flatMap_cons, List.flatMap_cons, ih i (by simpa using h)]

theorem Rel.setP {s : Nat × Nat → Ob} {g : GS} {w0 : World} (h : Rel s g w0) {i : Nat} {p : Pr} (hp : g.P[i]? = some p) (xs : List UInt32) :
    Rel (upd (upd s (5, i) (.mm p.b p.g xs)) (6, i) (.rm p.rb p.rg xs)) (g.setP i p xs) w0 := by
  have ne : ∀ a b, (a < 5 ∨ 6 < a) → upd (upd s (5, i) (.mm p.b p.g xs)) (6, i) (.rm p.rb p.rg xs) (a, b) = s (a, b) := fun a b ha => by
    rw [upd_ne _ _ _ _ (by intro e; cases e; omega), upd_ne _ _ _ _ (by intro e; cases e; omega)]
  have hlt := (List.getElem?_eq_some_iff.1 hp).1
  refine ⟨?_, ?_, ?_, ?_, ?_, fun k q hq => ?_, fun k t ht => ?_, fun k e he => ?_⟩
  · rw [ne _ _ (by omega)]; exact h.base
  · rw [ne _ _ (by omega)]; exact h.x
  · rw [ne _ _ (by omega)]
    show _ = Ob.row 85 2 g.sl (g.P.set i { p with xs := xs }).length ((g.P.set i { p with xs := xs }).flatMap Pr.vs)
    rw [List.length_set, pvs_set g.P i p xs hp]
    exact h.rl
  · rw [ne _ _ (by omega)]; exact h.ri
  · rw [ne _ _ (by omega)]; exact h.rk
  · have hq' : (g.P.set i { p with xs := xs })[k]? = some q := hq
    by_cases hk : k = i
    · subst hk
      rw [List.getElem?_set_self hlt] at hq'
      cases hq'
      exact ⟨by rw [upd_ne _ _ _ _ (by simp), upd_self], by rw [upd_self]⟩
    · rw [List.getElem?_set_ne (fun e => hk e.symm)] at hq'
      rw [upd_ne _ _ _ _ (by simp), upd_ne _ _ _ _ (by intro e; cases e; exact hk rfl), upd_ne _ _ _ _ (by intro e; cases e; exact hk rfl), upd_ne _ _ _ _ (by simp)]
      exact h.mm k q hq'
  · obtain ⟨p1, q1, h1, h2, h3, h4⟩ := h.it k t ht
    have hset : ∀ (m : Nat) (q : Pr), g.P[m]? = some q → ∃ q', (g.P.set i { p with xs := xs })[m]? = some q' ∧ q'.b = q.b := fun m q hm => by
      by_cases hk : m = i
      · subst hk
        rw [hp] at hm
        cases hm
        exact ⟨_, List.getElem?_set_self hlt, rfl⟩
      · exact ⟨q, by rw [List.getElem?_set_ne (fun e => hk e.symm)]; exact hm, rfl⟩
    obtain ⟨p2, e1, e2⟩ := hset _ _ h1
    obtain ⟨q2, e3, e4⟩ := hset _ _ h2
    refine ⟨p2, q2, e1, e3, ?_, ?_⟩
    · rw [ne _ _ (by omega), e2]; exact h3
    · rw [ne _ _ (by omega), e4]; exact h4
  · rw [ne _ _ (by omega), ne _ _ (by omega)]; exact h.lw k e he

theorem Small.setP {g : GS} {T : Nat} (h : Small g T) {i : Nat} {p : Pr} (hp : g.P[i]? = some p) (xs : List UInt32) (hx : xs.length = p.xs.length) : Small (g.setP i p xs) T := by
  have hlt := (List.getElem?_eq_some_iff.1 hp).1
  refine ⟨by show 1 ≤ (g.P.set i _).length; rw [List.length_set]; exact h.p1, by show (g.P.set i _).length ≤ 12; rw [List.length_set]; exact h.p12, fun k q hq => ?_, h.i, h.k, h.ks⟩
  have hq' : (g.P.set i { p with xs := xs })[k]? = some q := hq
  by_cases hk : k = i
  · subst hk
    rw [List.getElem?_set_self hlt] at hq'
    cases hq'
    show ∃ n, 1 ≤ n ∧ n ≤ 1024 ∧ xs.length = n * 16
    rw [hx]
    exact h.px k p hp
  · rw [List.getElem?_set_ne (fun e => hk e.symm)] at hq'
    exact h.px k q hq'

end Go.Proofs.Ytljhdijledclhaa
