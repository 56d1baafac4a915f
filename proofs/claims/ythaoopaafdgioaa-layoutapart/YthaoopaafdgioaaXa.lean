import Derived.Test.YthaoopaafdgioaaSu
namespace Go.Proofs.Ythaoopaafdgioaa
open Go.RowKit
set_option linter.unusedVariables false
set_option linter.unusedSimpArgs false

theorem find_in {t : Int} {p : Pc} : ∀ {h : List (Ow × Int)} {s : Int}, (∀ e ∈ h, 0 ≤ e.2) → p ∈ ann s h → p.has t = true → (ann s h).find? (Pc.has t) = some p
  | [], _, _, hp, _ => by cases hp
  | (o, k) :: r, s, hn, hp, ht => by
    have hr : ∀ e ∈ r, 0 ≤ e.2 := fun e he => hn e (List.mem_cons_of_mem _ he)
    have hk := hn (o, k) (List.mem_cons_self ..)
    dsimp only at hk
    show (⟨s, k, o⟩ :: ann (s + k) r).find? (Pc.has t) = some p
    rcases List.mem_cons.1 hp with e | e
    · subst e
      rw [List.find?_cons, ht]
    · have h2 := ann_mem hr e
      have hb : Pc.has t ⟨s, k, o⟩ = false := by
        unfold Pc.has at ht ⊢
        simp at ht ⊢
        omega
      rw [List.find?_cons, hb]
      exact find_in hr e ht
theorem find_over {t : Int} : ∀ {h : List (Ow × Int)} {s : Int}, (∀ e ∈ h, 0 ≤ e.2) → s + szH h ≤ t → (ann s h).find? (Pc.has t) = none
  | [], _, _, _ => rfl
  | (o, k) :: r, s, hn, ht => by
    have hr : ∀ e ∈ r, 0 ≤ e.2 := fun e he => hn e (List.mem_cons_of_mem _ he)
    have hk := hn (o, k) (List.mem_cons_self ..)
    dsimp only at hk
    have hz := szH_nonneg r hr
    have hs : szH ((o, k) :: r) = k + szH r := by simp [szH]
    rw [hs] at ht
    show (⟨s, k, o⟩ :: ann (s + k) r).find? (Pc.has t) = none
    have hb : Pc.has t ⟨s, k, o⟩ = false := by unfold Pc.has; simp; omega
    rw [List.find?_cons, hb]
    exact find_over hr (by omega)
theorem rt_ge (x : Cfg) : chE x (16 * x.kernel) ≤ rtB x (16 * x.kernel) ∧ rtB x (16 * x.kernel) < chE x (16 * x.kernel) + 16 ∧ rtB x (16 * x.kernel) % 16 = 0 := by
  have h4 : rtB x (16 * x.kernel) = chE x (16 * x.kernel) + fillN (chE x (16 * x.kernel)) := rfl
  rw [h4]
  unfold fillN
  split <;> omega
section
variable {x : Cfg} (hm : x.mayB = true)
include hm
theorem own_piece {p : Pc} (hp : p ∈ pcAll x (16 * x.kernel)) {t : Int} (h1 : p.pos ≤ t) (h2 : t < p.pos + p.size) : ownO x t = p.ow := by
  have hh : ∀ e ∈ headH x, 0 ≤ e.2 := fun e he => (headH_ok hm e he).1
  have ht : ∀ e ∈ tabsH x x.ps.length, 0 ≤ e.2 := fun e he => (tabsH_ok x e he).1
  have hb : p.has t = true := by unfold Pc.has; simp; omega
  rw [own_eq hm]
  unfold ownD
  rw [pcAll_eq] at hp ⊢
  rw [List.find?_append]
  rcases List.mem_append.1 hp with e | e
  · rw [find_in hh e hb]; rfl
  · have h3 := ann_mem ht e
    have h4 := szH_headH x (16 * x.kernel)
    have h5 := rt_ge x
    rw [find_over hh (by omega), find_in ht e hb]; rfl
theorem own_gap {t : Int} (h1 : chE x (16 * x.kernel) ≤ t) (h2 : t < rtB x (16 * x.kernel)) : (ownO x t).kind = 0 ∨ (ownO x t).kind = 1 := by
  have hh : ∀ e ∈ headH x, 0 ≤ e.2 := fun e he => (headH_ok hm e he).1
  have ht : ∀ e ∈ tabsH x x.ps.length, 0 ≤ e.2 := fun e he => (tabsH_ok x e he).1
  have h4 := szH_headH x (16 * x.kernel)
  rw [own_eq hm]
  unfold ownD
  rw [pcAll_eq, List.find?_append, find_over hh (by omega), find_under t _ _ ht h2]
  show (regO (t / 16) x.ps).kind = 0 ∨ _
  unfold regO
  split
  · exact .inr rfl
  · exact .inl rfl
end
/-! ### Which pieces there are -/
theorem mem_partH (a : Int) {i j : Nat} (h : i < j) : (⟨a + 24 * i, 2, ⟨3, i, 0⟩⟩ : Pc) ∈ ann a (partH j) ∧ (⟨a + 24 * i + 2, 17, ⟨4, i, 0⟩⟩ : Pc) ∈ ann a (partH j) ∧ (⟨a + 24 * i + 2 + 17, 5, ⟨5, i, 0⟩⟩ : Pc) ∈ ann a (partH j) := by
  induction j with
  | zero => omega
  | succ j ih =>
    rw [partH_succ, ann_append, szH_partH]
    by_cases e : i = j
    · subst e
      have e3 : ann (a + 24 * (i : Int)) [(⟨3, i, 0⟩, 2), (⟨4, i, 0⟩, 17), (⟨5, i, 0⟩, 5)] = [⟨a + 24 * i, 2, ⟨3, i, 0⟩⟩, ⟨a + 24 * i + 2, 17, ⟨4, i, 0⟩⟩, ⟨a + 24 * i + 2 + 17, 5, ⟨5, i, 0⟩⟩] := rfl
      rw [e3]
      simp
    · obtain ⟨h1, h2, h3⟩ := ih (by omega)
      exact ⟨List.mem_append_left _ h1, List.mem_append_left _ h2, List.mem_append_left _ h3⟩
theorem mem_dests (D : List Dst) (b k : Int) {i : Nat} {d : Dst} (h : D[i]? = some d) : (⟨b + i * k, k, ⟨8, d.p, d.q⟩⟩ : Pc) ∈ ann b (destHl D k) := by
  induction D generalizing b i with
  | nil => cases h
  | cons y t ih =>
    show _ ∈ (⟨b, k, ⟨8, y.p, y.q⟩⟩ : Pc) :: ann (b + k) (destHl t k)
    cases i with
    | zero =>
      cases h
      simp
    | succ i =>
      have := ih (b + k) (i := i) h
      refine List.mem_cons_of_mem _ ?_
      have e : b + ((i + 1 : Nat) : Int) * k = b + k + i * k := by rw [show ((i + 1 : Nat) : Int) = i + 1 by omega, Int.add_mul]; omega
      rw [e]; exact this
theorem mem_chansH {x : Cfg} (b : Int) {i j : Nat} (h : i < j) (hj : j ≤ x.hs.length) {y : Chn} (hy : x.hs[i]? = some y) : (⟨chAt x b i, 2, ⟨6, i, 0⟩⟩ : Pc) ∈ ann b (chansH x j) ∧ (⟨chAt x b i + 2, y.stg, ⟨7, i, 0⟩⟩ : Pc) ∈ ann b (chansH x j) ∧
    ∀ (k : Nat) (d : Dst), (dstsOf x i)[k]? = some d → (⟨chAt x b i + 2 + y.stg + k * y.prt, y.prt, ⟨8, d.p, d.q⟩⟩ : Pc) ∈ ann b (chansH x j) := by
  induction j with
  | zero => omega
  | succ j ih =>
    obtain ⟨z, hz⟩ : ∃ z, x.hs[j]? = some z := ⟨_, List.getElem?_eq_getElem (by omega)⟩
    rw [chansH_succ hz, ann_append, szH_chansH b j (by omega)]
    by_cases e : i = j
    · subst e
      rw [hz] at hy
      cases hy
      unfold chanH
      rw [destH_all]
      have e3 : ann (chAt x b i) ([(⟨6, i, 0⟩, 2), (⟨7, i, 0⟩, y.stg)] ++ destHl (dstsOf x i) y.prt) = ⟨chAt x b i, 2, ⟨6, i, 0⟩⟩ :: ⟨chAt x b i + 2, y.stg, ⟨7, i, 0⟩⟩ :: ann (chAt x b i + 2 + y.stg) (destHl (dstsOf x i) y.prt) := rfl
      rw [e3]
      refine ⟨by simp, by simp, fun k d hd => ?_⟩
      have := mem_dests (dstsOf x i) (chAt x b i + 2 + y.stg) y.prt hd
      exact List.mem_append_right _ (List.mem_cons_of_mem _ (List.mem_cons_of_mem _ this))
    · obtain ⟨h1, h2, h3⟩ := ih (by omega) (by omega)
      exact ⟨List.mem_append_left _ h1, List.mem_append_left _ h2, fun k d hd => List.mem_append_left _ (h3 k d hd)⟩
theorem mem_rep (o : Ow) (b : Int) (c : Nat) {k : Nat} (h : k < c) : (⟨b + 16 * k, 16, o⟩ : Pc) ∈ ann b (List.replicate c (o, (16 : Int))) := by
  induction c generalizing b k with
  | zero => omega
  | succ c ih =>
    rw [List.replicate_succ]
    show _ ∈ (⟨b, 16, o⟩ : Pc) :: ann (b + 16) (List.replicate c (o, (16 : Int)))
    cases k with
    | zero => simp
    | succ k =>
      have := ih (b + 16) (k := k) (by omega)
      refine List.mem_cons_of_mem _ ?_
      have e : b + 16 * ((k + 1 : Nat) : Int) = b + 16 + 16 * k := by omega
      rw [e]; exact this
theorem mem_tabsH {x : Cfg} (b : Int) {i j k : Nat} (h : i < j) (hj : j ≤ x.ps.length) {P : Par} (hP : x.ps[i]? = some P) (hk : k < 1 + cntT P.rs 16) : (⟨rtAt x b i + 16 * k, 16, ⟨9, i, 0⟩⟩ : Pc) ∈ ann b (tabsH x j) := by
  induction j with
  | zero => omega
  | succ j ih =>
    obtain ⟨z, hz⟩ : ∃ z, x.ps[j]? = some z := ⟨_, List.getElem?_eq_getElem (by omega)⟩
    rw [tabsH_succ hz, ann_append, szH_tabsH b j (by omega)]
    by_cases e : i = j
    · subst e
      rw [hz] at hP
      cases hP
      exact List.mem_append_right _ (mem_rep _ _ _ hk)
    · exact List.mem_append_left _ (ih (by omega) (by omega))
theorem head_app (x : Cfg) (a : Int) : ann a (headH x) = ⟨a, 2, ⟨2, 0, 0⟩⟩ :: (ann (a + 2) (partH x.ps.length) ++ ann (chB x a) (chansH x x.hs.length)) := by
  unfold headH
  rw [List.append_assoc, ann_append]
  show ⟨a, 2, ⟨2, 0, 0⟩⟩ :: (ann (a + szH [((⟨2, 0, 0⟩ : Ow), (2 : Int))]) (partH x.ps.length ++ chansH x x.hs.length)) = _
  rw [show szH [((⟨2, 0, 0⟩ : Ow), (2 : Int))] = 2 from rfl, ann_append, szH_partH]
  rfl
/-! ### How many words each kind has -/
def cW (g : Int → Int) (k s : Int) : Nat → Nat
  | 0 => 0
  | m + 1 => cW g k s m + if g (s + m) = k then 1 else 0
theorem cW_add (g : Int → Int) (k s : Int) (m n : Nat) : cW g k s (m + n) = cW g k s m + cW g k (s + m) n := by
  induction n with
  | zero => rfl
  | succ n ih =>
    show cW g k s (m + n) + (if g (s + ((m + n : Nat) : Int)) = k then 1 else 0) = cW g k s m + (cW g k (s + m) n + if g (s + m + n) = k then 1 else 0)
    rw [ih, show s + ((m + n : Nat) : Int) = s + m + n by omega]
    omega
theorem cW_const {g : Int → Int} {k s c : Int} {m : Nat} (h : ∀ i : Nat, i < m → g (s + i) = c) : cW g k s m = if c = k then m else 0 := by
  induction m with
  | zero => simp [cW]
  | succ m ih =>
    show cW g k s m + (if g (s + m) = k then 1 else 0) = _
    rw [ih fun i hi => h i (by omega), h m (by omega)]
    split <;> omega
def szK (h : List (Ow × Int)) (k : Int) : Int := (h.map fun e => if e.1.kind = k then e.2 else 0).sum
theorem szK_app (h r : List (Ow × Int)) (k : Int) : szK (h ++ r) k = szK h k + szK r k := by simp [szK]
theorem cW_ann {g : Int → Int} {k : Int} : ∀ {h : List (Ow × Int)} {s : Int}, (∀ e ∈ h, 0 ≤ e.2) → (∀ p ∈ ann s h, ∀ t, p.pos ≤ t → t < p.pos + p.size → g t = p.ow.kind) → (cW g k s (szH h).toNat : Int) = szK h k
  | [], s, _, _ => rfl
  | (o, z) :: r, s, hn, hg => by
    have hr : ∀ e ∈ r, 0 ≤ e.2 := fun e he => hn e (List.mem_cons_of_mem _ he)
    have hk := hn (o, z) (List.mem_cons_self ..)
    dsimp only at hk
    have hz := szH_nonneg r hr
    have hs : szH ((o, z) :: r) = z + szH r := by simp [szH]
    have hK : szK ((o, z) :: r) k = (if o.kind = k then z else 0) + szK r k := by simp [szK]
    have e1 : (z + szH r).toNat = z.toNat + (szH r).toNat := by omega
    rw [hs, hK, e1, cW_add]
    have h1 : cW g k s z.toNat = if o.kind = k then z.toNat else 0 := cW_const fun i hi => hg ⟨s, z, o⟩ (List.mem_cons_self ..) (s + i) (by show s ≤ s + i; omega) (by show s + i < s + z; omega)
    have h2 := cW_ann (g := g) (k := k) hr (s := s + z) fun p hp t => hg p (List.mem_cons_of_mem _ hp) t
    rw [h1, show s + ((z.toNat : Nat) : Int) = s + z by omega]
    split
    · next e => rw [← h2]; omega
    · rw [← h2]; omega
/-- Stages' and ports' words. -/
def stS (x : Cfg) : Nat → Int | 0 => 0 | n + 1 => stS x n + match x.hs[n]? with | some h => h.stg | none => 0
def ptS (x : Cfg) : Nat → Int | 0 => 0 | n + 1 => ptS x n + match x.hs[n]? with | some h => (dstsOf x n).length * h.prt | none => 0
theorem szK_partH (j : Nat) (k : Int) : szK (partH j) k = if k = 3 then 2 * (j : Int) else if k = 4 then 17 * j else if k = 5 then 5 * j else 0 := by
  induction j with
  | zero => simp [partH, szK]
  | succ j ih =>
    rw [partH_succ, szK_app, ih]
    have e : szK [((⟨3, (j : Int), 0⟩ : Ow), (2 : Int)), (⟨4, j, 0⟩, 17), (⟨5, j, 0⟩, 5)] k = (if (3 : Int) = k then 2 else 0) + ((if (4 : Int) = k then 17 else 0) + (if (5 : Int) = k then 5 else 0)) := by simp [szK]
    rw [e]
    by_cases h3 : k = 3
    · subst h3; simp; omega
    · by_cases h4 : k = 4
      · subst h4; simp; omega
      · by_cases h5 : k = 5
        · subst h5; simp; omega
        · rw [if_neg h3, if_neg h4, if_neg h5, if_neg h3, if_neg h4, if_neg h5, if_neg (fun e => h3 e.symm), if_neg (fun e => h4 e.symm), if_neg (fun e => h5 e.symm)]; rfl
theorem szK_dests (D : List Dst) (z k : Int) : szK (destHl D z) k = if k = 8 then D.length * z else 0 := by
  induction D with
  | nil => simp [destHl, szK]
  | cons d t ih =>
    have e : szK (destHl (d :: t) z) k = (if (8 : Int) = k then z else 0) + szK (destHl t z) k := by simp [szK, destHl]
    rw [e, ih]
    by_cases h : k = 8
    · subst h; simp [Int.add_mul]; omega
    · rw [if_neg h, if_neg h, if_neg (fun q => h q.symm)]; rfl
theorem szK_chansH (x : Cfg) (j : Nat) (hj : j ≤ x.hs.length) (k : Int) : szK (chansH x j) k = if k = 6 then 2 * (j : Int) else if k = 7 then stS x j else if k = 8 then ptS x j else 0 := by
  induction j with
  | zero => simp [chansH, szK, stS, ptS]
  | succ j ih =>
    obtain ⟨z, hz⟩ : ∃ z, x.hs[j]? = some z := ⟨_, List.getElem?_eq_getElem (by omega)⟩
    have s1 : stS x (j + 1) = stS x j + z.stg := by show stS x j + _ = _; rw [hz]
    have s2 : ptS x (j + 1) = ptS x j + (dstsOf x j).length * z.prt := by show ptS x j + _ = _; rw [hz]
    rw [chansH_succ hz, szK_app, ih (by omega), s1, s2]
    unfold chanH
    rw [destH_all, szK_app, szK_dests]
    have e : szK [((⟨6, (j : Int), 0⟩ : Ow), (2 : Int)), (⟨7, j, 0⟩, z.stg)] k = (if (6 : Int) = k then 2 else 0) + (if (7 : Int) = k then z.stg else 0) := by simp [szK]
    rw [e]
    by_cases h6 : k = 6
    · subst h6; simp; omega
    · by_cases h7 : k = 7
      · subst h7; simp
      · by_cases h8 : k = 8
        · subst h8; simp
        · rw [if_neg h6, if_neg h7, if_neg h8, if_neg h6, if_neg h7, if_neg h8, if_neg (fun e => h6 e.symm), if_neg (fun e => h7 e.symm), if_neg h8]; rfl
theorem szK_rep (o : Ow) (c : Nat) (k : Int) : szK (List.replicate c (o, (16 : Int))) k = if o.kind = k then 16 * (c : Int) else 0 := by
  induction c with
  | zero => simp [szK]
  | succ c ih =>
    rw [List.replicate_succ]
    have e : szK ((o, (16 : Int)) :: List.replicate c (o, (16 : Int))) k = (if o.kind = k then 16 else 0) + szK (List.replicate c (o, (16 : Int))) k := by simp [szK]
    rw [e, ih]
    split <;> omega
theorem szK_tabsH (x : Cfg) (j : Nat) (hj : j ≤ x.ps.length) (k : Int) : szK (tabsH x j) k = if k = 9 then rtAt x 0 j else 0 := by
  induction j with
  | zero => simp [tabsH, szK, rtAt]
  | succ j ih =>
    obtain ⟨P, hP⟩ : ∃ P, x.ps[j]? = some P := ⟨_, List.getElem?_eq_getElem (by omega)⟩
    rw [tabsH_succ hP, szK_app, ih (by omega), szK_rep, rtAt_succ hP]
    by_cases h : k = 9
    · subst h; simp; omega
    · rw [if_neg h, if_neg h, if_neg (fun e => h e.symm)]; rfl
/-- What must be counted of each kind. -/
def wantK (x : Cfg) (k : Int) : Int := if k = 2 then 2 else if k = 3 then 2 * x.ps.length else if k = 4 then 17 * x.ps.length else if k = 5 then 5 * x.ps.length else if k = 6 then 2 * x.hs.length else if k = 7 then stS x x.hs.length else if k = 8 then ptS x x.hs.length else if k = 9 then rtAt x 0 x.ps.length else 0
theorem szK_all (x : Cfg) (k : Int) : szK (headH x) k + szK (tabsH x x.ps.length) k = wantK x k := by
  unfold headH wantK
  rw [szK_app, szK_app, szK_partH, szK_chansH x _ (Nat.le_refl _), szK_tabsH x _ (Nat.le_refl _)]
  have e : szK [((⟨2, 0, 0⟩ : Ow), (2 : Int))] k = if (2 : Int) = k then 2 else 0 := by simp [szK]
  rw [e]
  by_cases h2 : k = 2
  · subst h2; simp
  · rw [if_neg (fun q => h2 q.symm), if_neg h2]
    by_cases h3 : k = 3
    · subst h3; simp
    · by_cases h4 : k = 4
      · subst h4; simp
      · by_cases h5 : k = 5
        · subst h5; simp
        · simp only [h3, h4, h5, if_false]
          by_cases h6 : k = 6
          · subst h6; simp
          · by_cases h7 : k = 7
            · subst h7; simp
            · by_cases h8 : k = 8
              · subst h8; simp
              · simp [h6, h7, h8]
/-- All words, counted. -/
theorem count_all {x : Cfg} (hm : x.mayB = true) : ∃ M : Nat, 16 * x.kernel + M = rtAt x (rtB x (16 * x.kernel)) x.ps.length ∧
    (∀ k, 2 ≤ k → (cW (fun t => (ownO x t).kind) k (16 * x.kernel) M : Int) = wantK x k) ∧ (cW (fun t => (ownO x t).kind) 0 (16 * x.kernel) M : Int) + cW (fun t => (ownO x t).kind) 1 (16 * x.kernel) M < 16 := by
  obtain ⟨A, hA⟩ : ∃ A, 16 * x.kernel = A := ⟨_, rfl⟩
  have hh : ∀ e ∈ headH x, 0 ≤ e.2 := fun e he => (headH_ok hm e he).1
  have ht : ∀ e ∈ tabsH x x.ps.length, 0 ≤ e.2 := fun e he => (tabsH_ok x e he).1
  have z1 := szH_nonneg _ hh
  have z2 := szH_nonneg _ ht
  have hp : ∀ p ∈ pcAll x A, ∀ t, p.pos ≤ t → t < p.pos + p.size → (ownO x t).kind = p.ow.kind := fun p hp t h1 h2 => by rw [own_piece hm (by rw [hA]; exact hp) h1 h2]
  have hg : ∀ t, chE x A ≤ t → t < rtB x A → (ownO x t).kind = 0 ∨ (ownO x t).kind = 1 := fun t h1 h2 => own_gap hm (by rw [hA]; exact h1) (by rw [hA]; exact h2)
  have hrt := rt_ge x
  have e1 := szH_headH x A
  have e2 := szH_tabsH (x := x) (rtB x A) x.ps.length (Nat.le_refl _)
  rw [hA] at hrt ⊢
  rw [pcAll_eq] at hp
  have c1 : ∀ k, (cW (fun t => (ownO x t).kind) k A (szH (headH x)).toNat : Int) = szK (headH x) k := fun k => cW_ann hh fun p hq => hp p (List.mem_append_left _ hq)
  have c3 : ∀ k, (cW (fun t => (ownO x t).kind) k (rtB x A) (szH (tabsH x x.ps.length)).toNat : Int) = szK (tabsH x x.ps.length) k := fun k => cW_ann ht fun p hq => hp p (List.mem_append_right _ hq)
  obtain ⟨m, hmm⟩ : ∃ m : Nat, chE x A + m = rtB x A := ⟨(rtB x A - chE x A).toNat, by omega⟩
  have c2 : ∀ k, 2 ≤ k → ∀ n : Nat, n ≤ m → cW (fun t => (ownO x t).kind) k (chE x A) n = 0 := by
    intro k hk n hn
    induction n with
    | zero => rfl
    | succ n ih =>
      show cW _ k (chE x A) n + (if (ownO x (chE x A + n)).kind = k then 1 else 0) = 0
      rw [ih (by omega), if_neg]
      rcases hg (chE x A + n) (by omega) (by omega) with h | h <;> omega
  have c2' : ∀ n : Nat, n ≤ m → cW (fun t => (ownO x t).kind) 0 (chE x A) n + cW (fun t => (ownO x t).kind) 1 (chE x A) n ≤ n := by
    intro n hn
    induction n with
    | zero => exact Nat.le_refl _
    | succ n ih =>
      have := ih (by omega)
      show cW _ 0 (chE x A) n + (if (ownO x (chE x A + n)).kind = 0 then 1 else 0) + (cW _ 1 (chE x A) n + (if (ownO x (chE x A + n)).kind = 1 then 1 else 0)) ≤ n + 1
      rcases hg (chE x A + n) (by omega) (by omega) with h | h <;> rw [h] <;> simp <;> omega
  refine ⟨(szH (headH x)).toNat + (m + (szH (tabsH x x.ps.length)).toNat), by omega, fun k hk => ?_, ?_⟩
  · rw [cW_add, cW_add, show A + (((szH (headH x)).toNat : Nat) : Int) = chE x A by omega, show chE x A + (m : Int) = rtB x A by omega, c2 k hk m (Nat.le_refl _), ← szK_all, ← c1 k, ← c3 k]
    omega
  · have k0 := szK_all x 0
    have k1 := szK_all x 1
    have w0 : wantK x 0 = 0 := by simp [wantK]
    have w1 : wantK x 1 = 0 := by simp [wantK]
    rw [cW_add, cW_add, cW_add, cW_add, show A + (((szH (headH x)).toNat : Nat) : Int) = chE x A by omega, show chE x A + (m : Int) = rtB x A by omega]
    have q1 := c1 0
    have q2 := c1 1
    have q3 := c3 0
    have q4 := c3 1
    have q5 := c2' m (Nat.le_refl _)
    omega

end Go.Proofs.Ythaoopaafdgioaa
