import Derived.Test.YtadhldpeklkcmaaV
namespace Go.Proofs.Ytadhldpeklkcmaa
open Go.RowKit
set_option linter.unusedVariables false

/-- Has it a ticket of lock r? -/
def claims (r : Nat) (C : Ck) : Bool := decide (r ∈ C.lk.take C.pl.length)

structure CkWf (C : Ck) : Prop where
  up : C.lk.Pairwise (· < ·)
  len : C.pl.length ≤ C.lk.length
  pos : C.ask = true → 0 < C.pl.length
  top : ∀ r ∈ C.lk, r < 4

structure PI (Cs : List Ck) (A G : Nat → Nat) : Prop where
  wf : ∀ C ∈ Cs, CkWf C
  hold : ∀ (i : Nat) (C : Ck) (p : Nat), Cs[i]? = some C → p < C.held → C.pl.getD p 0 = G (C.lk.getD p 0)
  range : ∀ (i : Nat) (C : Ck) (p : Nat), Cs[i]? = some C → p < C.pl.length → G (C.lk.getD p 0) ≤ C.pl.getD p 0 ∧ C.pl.getD p 0 < A (C.lk.getD p 0)
  uniq : ∀ (i j : Nat) (C D : Ck) (p q : Nat), Cs[i]? = some C → Cs[j]? = some D → p < C.pl.length → q < D.pl.length → C.lk.getD p 0 = D.lk.getD q 0 → C.pl.getD p 0 = D.pl.getD q 0 → i = j
  surj : ∀ r t, r < 4 → G r ≤ t → t < A r → ∃ (i : Nat) (C : Ck) (p : Nat), Cs[i]? = some C ∧ p < C.pl.length ∧ C.lk.getD p 0 = r ∧ C.pl.getD p 0 = t
  cnt : ∀ r, r < 4 → A r = G r + Cs.countP (claims r)

theorem nat_getD {l : List Nat} {i : Nat} (h : i < l.length) : l.getD i 0 = l[i] := by simp [List.getD, List.getElem?_eq_getElem h]
theorem up_lt {l : List Nat} (h : l.Pairwise (· < ·)) {p q : Nat} (hq : q < l.length) (hpq : p < q) : l.getD p 0 < l.getD q 0 := by
  rw [nat_getD hq, nat_getD (show p < l.length by omega)]
  exact List.pairwise_iff_getElem.1 h p q _ _ hpq
theorem up_inj {l : List Nat} (h : l.Pairwise (· < ·)) {p q : Nat} (hp : p < l.length) (hq : q < l.length) (e : l.getD p 0 = l.getD q 0) : p = q := by
  rcases Nat.lt_trichotomy p q with h1 | h1 | h1
  · have := up_lt h hq h1; omega
  · exact h1
  · have := up_lt h hp h1; omega
theorem get_set {Cs : List Ck} {i j : Nat} {C D : Ck} (h : (Cs.set i C)[j]? = some D) : (j = i ∧ D = C ∧ i < Cs.length) ∨ (j ≠ i ∧ Cs[j]? = some D) := by
  rw [List.getElem?_set] at h
  by_cases e : i = j
  · subst e
    by_cases hl : i < Cs.length
    · rw [if_pos rfl, if_pos hl] at h
      cases h
      exact .inl ⟨rfl, rfl, hl⟩
    · rw [if_pos rfl, if_neg hl] at h; cases h
  · rw [if_neg e] at h
    exact .inr ⟨fun e2 => e e2.symm, h⟩
theorem set_get {Cs : List Ck} {i : Nat} {C D : Ck} (h : Cs[i]? = some C) : (Cs.set i D)[i]? = some D := by
  have := (List.getElem?_eq_some_iff.1 h).1
  rw [List.getElem?_set, if_pos rfl, if_pos this]
theorem set_get_ne {Cs : List Ck} {i j : Nat} {C D : Ck} (h : Cs[j]? = some C) (e : j ≠ i) : (Cs.set i D)[j]? = some C := by
  rw [List.getElem?_set, if_neg (fun h => e h.symm)]; exact h
theorem claims_iff {C : Ck} (h : CkWf C) {r : Nat} : claims r C = true ↔ ∃ p, p < C.pl.length ∧ C.lk.getD p 0 = r := by
  unfold claims
  rw [decide_eq_true_iff, List.mem_take_iff_getElem]
  constructor
  · rintro ⟨p, hp, rfl⟩
    refine ⟨p, by omega, nat_getD (by have := h.len; omega)⟩
  · rintro ⟨p, hp, rfl⟩
    exact ⟨p, by have := h.len; omega, (nat_getD (by have := h.len; omega)).symm⟩
theorem bool_eq_of_iff {a b : Bool} (h : a = true ↔ b = true) : a = b := by cases a <;> cases b <;> simp_all
theorem append_getD {l : List Nat} {x p : Nat} (h : p < l.length) : (l ++ [x]).getD p 0 = l.getD p 0 := by
  simp [List.getD, List.getElem?_append_left h]
theorem append_getD_last {l : List Nat} {x : Nat} : (l ++ [x]).getD l.length 0 = x := by
  simp [List.getD]
theorem take_getD {l : List Nat} {m p : Nat} (h : p < m) : (l.take m).getD p 0 = l.getD p 0 := by
  simp [List.getD, h]

section
variable {Cs : List Ck} {A G : Nat → Nat}

theorem PI.mem_wf (h : PI Cs A G) {i : Nat} {C : Ck} (hC : Cs[i]? = some C) : CkWf C := h.wf C (List.mem_of_getElem? hC)

theorem PI.bound (h : PI Cs A G) (hl : Cs.length ≤ 5) {r : Nat} (hr : r < 4) : G r ≤ A r ∧ A r ≤ G r + 5 := by
  have h1 := h.cnt r hr
  have h2 := List.countP_le_length (p := claims r) (l := Cs)
  omega

theorem cnt_set {Cs : List Ck} {i : Nat} {C D : Ck} (hC : Cs[i]? = some C) (r : Nat) : (Cs.set i D).countP (claims r) + (if claims r C then 1 else 0) = Cs.countP (claims r) + (if claims r D then 1 else 0) := by
  obtain ⟨hi, rfl⟩ := List.getElem?_eq_some_iff.1 hC
  have h1 := List.countP_set (p := claims r) (a := D) hi
  have h2 : (if claims r Cs[i] = true then 1 else 0) ≤ Cs.countP (claims r) := by
    by_cases e : claims r Cs[i] = true
    · rw [if_pos e]
      exact List.countP_pos_iff.2 ⟨_, List.getElem_mem hi, e⟩
    · rw [if_neg e]; exact Nat.zero_le _
  omega

theorem wf_set (h : ∀ C ∈ Cs, CkWf C) {i : Nat} {D : Ck} (hD : CkWf D) : ∀ C ∈ Cs.set i D, CkWf C := by
  intro C hC
  rcases List.mem_or_eq_of_mem_set hC with h1 | rfl
  · exact h C h1
  · exact hD

theorem PI.ask (h : PI Cs A G) {i : Nat} {C D : Ck} (hC : Cs[i]? = some C) (ha : C.ask = false) (hl : C.pl.length < C.lk.length) {r : Nat} (hr : C.lk.getD C.pl.length 0 = r) (e1 : D.lk = C.lk) (e2 : D.pl = C.pl ++ [A r]) (e3 : D.ask = true) :
    PI (Cs.set i D) (upd A r (A r + 1)) G := by
  have hw := h.mem_wf hC
  have hil := (List.getElem?_eq_some_iff.1 hC).1
  have hr4 : r < 4 := by rw [← hr, nat_getD hl]; exact hw.top _ (List.getElem_mem hl)
  have hdl : D.pl.length = C.pl.length + 1 := by rw [e2]; simp
  have hG : G r ≤ A r := by have := h.cnt r hr4; omega
  have hA : ∀ x, A x ≤ upd A r (A r + 1) x := by
    intro x
    by_cases e : x = r
    · rw [e, upd_eq]; omega
    · rw [upd_ne _ _ _ _ e]; exact Nat.le_refl _
  have hwD : CkWf D := ⟨by rw [e1]; exact hw.up, by rw [hdl, e1]; omega, fun _ => by omega, by rw [e1]; exact hw.top⟩
  have hheld : D.held = C.held := by unfold Ck.held; rw [e3, ha, hdl]; simp
  have hCh : C.held = C.pl.length := by unfold Ck.held; rw [ha]; simp
  have dget : ∀ p, p < C.pl.length → D.pl.getD p 0 = C.pl.getD p 0 := fun p hp => by rw [e2, append_getD hp]
  have dlast : D.pl.getD C.pl.length 0 = A r := by rw [e2, append_getD_last]
  have old : ∀ (j : Nat) (E : Ck) (p : Nat), j ≠ i → Cs[j]? = some E → p < E.pl.length → E.lk.getD p 0 = r → E.pl.getD p 0 < A r := by
    intro j E p _ hE hp he
    have := (h.range j E p hE hp).2
    rw [he] at this; exact this
  have oldC : ∀ p, p < C.pl.length → C.lk.getD p 0 ≠ r := by
    intro p hp e
    have := up_inj hw.up (by omega) hl (e.trans hr.symm)
    omega
  refine ⟨wf_set h.wf hwD, ?_, ?_, ?_, ?_, ?_⟩
  · intro j E p hE hp
    rcases get_set hE with ⟨rfl, rfl, _⟩ | ⟨hj, hE'⟩
    · rw [hheld] at hp
      rw [dget p (by omega), e1]
      exact h.hold j C p hC hp
    · exact h.hold j E p hE' hp
  · intro j E p hE hp
    rcases get_set hE with ⟨rfl, rfl, _⟩ | ⟨hj, hE'⟩
    · rw [hdl] at hp
      by_cases hpl : p < C.pl.length
      · rw [dget p hpl, e1]
        have := h.range j C p hC hpl
        have := hA (C.lk.getD p 0)
        omega
      · obtain rfl : p = C.pl.length := by omega
        rw [dlast, e1, hr, upd_eq]
        omega
    · have := h.range j E p hE' hp
      have := hA (E.lk.getD p 0)
      omega
  · intro a b E F p q hE hF hp hq h1 h2
    rcases get_set hE with ⟨rfl, rfl, _⟩ | ⟨ha', hE'⟩ <;> rcases get_set hF with ⟨rfl, rfl, _⟩ | ⟨hb', hF'⟩
    · rfl
    · exfalso
      rw [hdl] at hp
      by_cases hpl : p < C.pl.length
      · rw [dget p hpl] at h2
        rw [e1] at h1
        exact hb' (h.uniq a b C F p q hC hF' hpl hq h1 h2).symm
      · obtain rfl : p = C.pl.length := by omega
        rw [dlast] at h2
        rw [e1, hr] at h1
        have := old b F q hb' hF' hq h1.symm
        omega
    · exfalso
      rw [hdl] at hq
      by_cases hql : q < C.pl.length
      · rw [dget q hql] at h2
        rw [e1] at h1
        exact ha' (h.uniq a b E C p q hE' hC hp hql h1 h2)
      · obtain rfl : q = C.pl.length := by omega
        rw [dlast] at h2
        rw [e1, hr] at h1
        have := old a E p ha' hE' hp h1
        omega
    · exact h.uniq a b E F p q hE' hF' hp hq h1 h2
  · intro s t hs h1 h2
    by_cases hold : s = r ∧ t = A r
    · obtain ⟨rfl, rfl⟩ := hold
      exact ⟨i, D, C.pl.length, set_get hC, by omega, by rw [e1, hr], dlast⟩
    · have h3 : t < A s := by
        by_cases e : s = r
        · rw [e, upd_eq] at h2
          rw [e]
          have : t ≠ A r := fun e2 => hold ⟨e, e2⟩
          omega
        · rw [upd_ne _ _ _ _ e] at h2; exact h2
      obtain ⟨j, E, p, hE, hp, e4, e5⟩ := h.surj s t hs h1 h3
      by_cases hj : j = i
      · subst hj
        rw [hC] at hE
        cases hE
        exact ⟨j, D, p, set_get hC, by omega, by rw [e1]; exact e4, by rw [dget p hp]; exact e5⟩
      · exact ⟨j, E, p, set_get_ne hE hj, hp, e4, e5⟩
  · intro s hs
    have hc := cnt_set (D := D) hC s
    have hcs := h.cnt s hs
    by_cases e : s = r
    · subst e
      have c1 : claims s C = false := by
        have : ¬ claims s C = true := by
          rw [claims_iff hw]
          rintro ⟨p, hp, he⟩
          exact oldC p hp he
        simpa using this
      have c2 : claims s D = true := (claims_iff hwD).2 ⟨C.pl.length, by omega, by rw [e1, hr]⟩
      rw [c1, c2] at hc
      simp at hc
      rw [upd_eq]
      omega
    · have c1 : claims s D = claims s C := bool_eq_of_iff (by
        rw [claims_iff hw, claims_iff hwD, hdl, e1]
        constructor
        · rintro ⟨p, hp, he⟩
          refine ⟨p, ?_, he⟩
          have : p ≠ C.pl.length := by rintro rfl; rw [hr] at he; exact e he.symm
          omega
        · rintro ⟨p, hp, he⟩
          exact ⟨p, by omega, he⟩)
      rw [c1] at hc
      rw [upd_ne _ _ _ _ e]
      omega

theorem PI.got (h : PI Cs A G) {i : Nat} {C D : Ck} (hC : Cs[i]? = some C) (ha : C.ask = true) (ht : C.pl.getD (C.pl.length - 1) 0 = G (C.lk.getD (C.pl.length - 1) 0)) (e1 : D.lk = C.lk) (e2 : D.pl = C.pl) (e3 : D.ask = false) :
    PI (Cs.set i D) A G := by
  have hw := h.mem_wf hC
  have hwD : CkWf D := ⟨by rw [e1]; exact hw.up, by rw [e2, e1]; exact hw.len, fun e => (by rw [e3] at e; cases e), by rw [e1]; exact hw.top⟩
  have hCh : C.held = C.pl.length - 1 := by unfold Ck.held; rw [ha]; simp
  have hDh : D.held = C.pl.length := by unfold Ck.held; rw [e3, e2]; simp
  refine ⟨wf_set h.wf hwD, ?_, ?_, ?_, ?_, ?_⟩
  · intro j E p hE hp
    rcases get_set hE with ⟨rfl, rfl, _⟩ | ⟨hj, hE'⟩
    · rw [hDh] at hp
      rw [e1, e2]
      by_cases hp2 : p < C.pl.length - 1
      · exact h.hold j C p hC (by omega)
      · obtain rfl : p = C.pl.length - 1 := by omega
        exact ht
    · exact h.hold j E p hE' hp
  · intro j E p hE hp
    rcases get_set hE with ⟨rfl, rfl, _⟩ | ⟨hj, hE'⟩
    · rw [e2] at hp
      rw [e1, e2]; exact h.range j C p hC hp
    · exact h.range j E p hE' hp
  · intro a b E F p q hE hF hp hq h1 h2
    rcases get_set hE with ⟨rfl, rfl, _⟩ | ⟨ha', hE'⟩ <;> rcases get_set hF with ⟨rfl, rfl, _⟩ | ⟨hb', hF'⟩
    · rfl
    · rw [e2] at hp; rw [e1] at h1; rw [e2] at h2
      exact h.uniq a b C F p q hC hF' hp hq h1 h2
    · rw [e2] at hq; rw [e1] at h1; rw [e2] at h2
      exact h.uniq a b E C p q hE' hC hp hq h1 h2
    · exact h.uniq a b E F p q hE' hF' hp hq h1 h2
  · intro s t hs h1 h2
    obtain ⟨j, E, p, hE, hp, e4, e5⟩ := h.surj s t hs h1 h2
    by_cases hj : j = i
    · subst hj
      rw [hC] at hE
      cases hE
      exact ⟨j, D, p, set_get hC, by rw [e2]; exact hp, by rw [e1]; exact e4, by rw [e2]; exact e5⟩
    · exact ⟨j, E, p, set_get_ne hE hj, hp, e4, e5⟩
  · intro s hs
    have hc := cnt_set (D := D) hC s
    have c1 : claims s D = claims s C := by unfold claims; rw [e1, e2]
    rw [c1] at hc
    have := h.cnt s hs
    omega

theorem PI.free (h : PI Cs A G) {i : Nat} {C D : Ck} (hC : Cs[i]? = some C) (ha : C.ask = false) {m r : Nat} (hm : C.pl.length = m + 1) (hr : C.lk.getD m 0 = r) (e1 : D.lk = C.lk) (e2 : D.pl = C.pl.take m) (e3 : D.ask = false) :
    PI (Cs.set i D) A (upd G r (G r + 1)) := by
  have hw := h.mem_wf hC
  have hlen := hw.len
  have hr4 : r < 4 := by rw [← hr, nat_getD (by omega)]; exact hw.top _ (List.getElem_mem _)
  have hdl : D.pl.length = m := by rw [e2, List.length_take]; omega
  have hwD : CkWf D := ⟨by rw [e1]; exact hw.up, by rw [hdl, e1]; omega, fun e => (by rw [e3] at e; cases e), by rw [e1]; exact hw.top⟩
  have hCh : C.held = m + 1 := by unfold Ck.held; rw [ha]; simpa using hm
  have hDh : D.held = m := by unfold Ck.held; rw [e3]; simpa using hdl
  have dget : ∀ p, p < m → D.pl.getD p 0 = C.pl.getD p 0 := fun p hp => by rw [e2, take_getD hp]
  have hCm : C.pl.getD m 0 = G r := by rw [← hr]; exact h.hold i C m hC (by omega)
  have other : ∀ (j : Nat) (E : Ck) (p : Nat), j ≠ i → Cs[j]? = some E → p < E.pl.length → E.lk.getD p 0 = r → E.pl.getD p 0 ≠ G r := by
    intro j E p hj hE hp he e
    exact hj (h.uniq j i E C p m hE hC hp (by omega) (he.trans hr.symm) (e.trans hCm.symm))
  have own : ∀ p, p < m → C.lk.getD p 0 ≠ r := by
    intro p hp e
    have := up_inj hw.up (by omega) (by omega) (e.trans hr.symm)
    omega
  refine ⟨wf_set h.wf hwD, ?_, ?_, ?_, ?_, ?_⟩
  · intro j E p hE hp
    rcases get_set hE with ⟨rfl, rfl, _⟩ | ⟨hj, hE'⟩
    · rw [hDh] at hp
      rw [dget p hp, e1, upd_ne _ _ _ _ (own p hp)]
      exact h.hold j C p hC (by omega)
    · have h1 := h.hold j E p hE' hp
      by_cases e : E.lk.getD p 0 = r
      · exfalso
        rw [e] at h1
        refine other j E p hj hE' ?_ e h1
        have hpe : E.held ≤ E.pl.length := by unfold Ck.held; split <;> omega
        omega
      · rw [upd_ne _ _ _ _ e]; exact h1
  · intro j E p hE hp
    rcases get_set hE with ⟨rfl, rfl, _⟩ | ⟨hj, hE'⟩
    · rw [hdl] at hp
      rw [dget p hp, e1, upd_ne _ _ _ _ (own p hp)]
      exact h.range j C p hC (by omega)
    · have h1 := h.range j E p hE' hp
      by_cases e : E.lk.getD p 0 = r
      · have h2 := other j E p hj hE' hp e
        rw [e] at h1 ⊢
        rw [upd_eq]
        omega
      · rw [upd_ne _ _ _ _ e]; exact h1
  · intro a b E F p q hE hF hp hq h1 h2
    rcases get_set hE with ⟨rfl, rfl, _⟩ | ⟨ha', hE'⟩ <;> rcases get_set hF with ⟨rfl, rfl, _⟩ | ⟨hb', hF'⟩
    · rfl
    · rw [hdl] at hp; rw [e1] at h1; rw [dget p hp] at h2
      exact h.uniq a b C F p q hC hF' (by omega) hq h1 h2
    · rw [hdl] at hq; rw [e1] at h1; rw [dget q hq] at h2
      exact h.uniq a b E C p q hE' hC hp (by omega) h1 h2
    · exact h.uniq a b E F p q hE' hF' hp hq h1 h2
  · intro s t hs h1 h2
    have h3 : G s ≤ t := by
      by_cases e : s = r
      · rw [e, upd_eq] at h1; rw [e]; omega
      · rw [upd_ne _ _ _ _ e] at h1; exact h1
    obtain ⟨j, E, p, hE, hp, e4, e5⟩ := h.surj s t hs h3 h2
    by_cases hj : j = i
    · subst hj
      rw [hC] at hE
      cases hE
      have hpm : p < m := by
        have : p ≠ m := by
          rintro rfl
          rw [hCm] at e5
          rw [hr] at e4
          rw [← e4, upd_eq] at h1
          omega
        omega
      exact ⟨j, D, p, set_get hC, by omega, by rw [e1]; exact e4, by rw [dget p hpm]; exact e5⟩
    · exact ⟨j, E, p, set_get_ne hE hj, hp, e4, e5⟩
  · intro s hs
    have hc := cnt_set (D := D) hC s
    have hcs := h.cnt s hs
    by_cases e : s = r
    · subst e
      have c1 : claims s C = true := (claims_iff hw).2 ⟨m, by omega, hr⟩
      have c2 : claims s D = false := by
        have : ¬ claims s D = true := by
          rw [claims_iff hwD, hdl, e1]
          rintro ⟨p, hp, he⟩
          exact own p hp he
        simpa using this
      rw [c1, c2] at hc
      simp at hc
      rw [upd_eq]
      omega
    · have c1 : claims s D = claims s C := bool_eq_of_iff (by
        rw [claims_iff hw, claims_iff hwD, hdl, e1, hm]
        constructor
        · rintro ⟨p, hp, he⟩
          exact ⟨p, by omega, he⟩
        · rintro ⟨p, hp, he⟩
          refine ⟨p, ?_, he⟩
          have : p ≠ m := by rintro rfl; rw [hr] at he; exact e he.symm
          omega)
      rw [c1] at hc
      rw [upd_ne _ _ _ _ e]
      omega

/-- One is never kept waiting. -/
theorem PI.ready (h : PI Cs A G) (hne : Cs ≠ []) : ∃ C ∈ Cs, C.held = C.lk.length ∨ C.ask = false ∨ G (C.lk.getD C.held 0) = C.pl.getD C.held 0 := by
  apply Classical.byContradiction
  intro hno
  have all : ∀ (i : Nat) (C : Ck), Cs[i]? = some C → C.held < C.lk.length ∧ C.ask = true ∧ G (C.lk.getD C.held 0) ≠ C.pl.getD C.held 0 := by
    intro i C hC
    have hm := List.mem_of_getElem? hC
    have hw := h.wf C hm
    have h1 : ¬ (C.held = C.lk.length ∨ C.ask = false ∨ G (C.lk.getD C.held 0) = C.pl.getD C.held 0) := fun e => hno ⟨C, hm, e⟩
    have hl : C.held ≤ C.lk.length := by have := hw.len; unfold Ck.held; split <;> omega
    refine ⟨?_, ?_, fun e => h1 (.inr (.inr e))⟩
    · have : C.held ≠ C.lk.length := fun e => h1 (.inl e)
      omega
    · have : ¬ C.ask = false := fun e => h1 (.inr (.inl e))
      simpa using this
  have down : ∀ (d i : Nat) (C : Ck), Cs[i]? = some C → ¬ 4 ≤ C.lk.getD C.held 0 + d := by
    intro d
    induction d with
    | zero =>
      intro i C hC h4
      have hw := h.mem_wf hC
      have hl := (all i C hC).1
      have := hw.top _ (List.getElem_mem hl)
      rw [nat_getD hl] at h4
      omega
    | succ d ih =>
      intro i C hC h4
      obtain ⟨hl, ha, hn⟩ := all i C hC
      have hw := h.mem_wf hC
      have hh : C.held = C.pl.length - 1 := by unfold Ck.held; rw [ha]; simp
      have hp := hw.pos ha
      have hr := h.range i C C.held hC (by omega)
      have hr4 : C.lk.getD C.held 0 < 4 := by rw [nat_getD hl]; exact hw.top _ (List.getElem_mem hl)
      obtain ⟨j, D, p, hD, hpl, e1, e2⟩ := h.surj (C.lk.getD C.held 0) (G (C.lk.getD C.held 0)) hr4 (Nat.le_refl _) (by omega)
      obtain ⟨hl2, ha2, hn2⟩ := all j D hD
      have hw2 := h.mem_wf hD
      have hh2 : D.held = D.pl.length - 1 := by unfold Ck.held; rw [ha2]; simp
      by_cases hpd : p = D.held
      · subst hpd
        rw [e1] at hn2
        exact hn2 e2.symm
      · have := up_lt hw2.up hl2 (show p < D.held by omega)
        exact ih j D hD (by omega)
  cases hCs : Cs with
  | nil => exact hne hCs
  | cons C l =>
    have hC : Cs[0]? = some C := by rw [hCs]; rfl
    exact down 4 0 C hC (by omega)
end

end Go.Proofs.Ytadhldpeklkcmaa
