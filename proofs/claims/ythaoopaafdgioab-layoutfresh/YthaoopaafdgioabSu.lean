import Derived.Test.YthaoopaafdgioabSt
namespace Go.Proofs.Ythaoopaafdgioab
open Go.RowKit
set_option linter.unusedVariables false
set_option linter.unusedSimpArgs false

theorem lastGo_under (t : Int) : ∀ (h : List (Ow × Int)) (s : Int) (f : Ow), (∀ e ∈ h, 0 ≤ e.2) → t < s → lastGo t s f h = f
  | [], _, _, _, _ => rfl
  | (o, k) :: r, s, f, hn, ht => by
    have hk := hn (o, k) (by simp)
    rw [lastGo, if_neg (by omega)]
    exact lastGo_under t r (s + k) f (fun e he => hn e (by simp [he])) (by dsimp only at hk; omega)
theorem find_under (t : Int) : ∀ (h : List (Ow × Int)) (s : Int), (∀ e ∈ h, 0 ≤ e.2) → t < s → (ann s h).find? (Pc.has t) = none
  | [], _, _, _ => rfl
  | (o, k) :: r, s, hn, ht => by
    have hk := hn (o, k) (by simp)
    have := find_under t r (s + k) (fun e he => hn e (by simp [he])) (by dsimp only at hk; omega)
    rw [ann, List.find?_cons, this]
    have : Pc.has t ⟨s, k, o⟩ = false := by unfold Pc.has; simp; omega
    rw [this]
/-- The last one dealt that has a word is the first one listed. -/
theorem lastGo_find (t : Int) : ∀ (h : List (Ow × Int)) (s : Int) (f : Ow), (∀ e ∈ h, 0 ≤ e.2) → lastGo t s f h = match (ann s h).find? (Pc.has t) with | some p => p.ow | none => f
  | [], _, _, _ => rfl
  | (o, k) :: r, s, f, hn => by
    rw [lastGo, ann, List.find?_cons]
    by_cases hc : s ≤ t ∧ t < s + k
    · have : Pc.has t ⟨s, k, o⟩ = true := by unfold Pc.has; simp; omega
      rw [if_pos hc, this, lastGo_under t r (s + k) o (fun e he => hn e (by simp [he])) hc.2]
    · have : Pc.has t ⟨s, k, o⟩ = false := by unfold Pc.has; simp; omega
      rw [if_neg hc, this]
      exact lastGo_find t r (s + k) f (fun e he => hn e (by simp [he]))
theorem szH_nonneg : ∀ r : List (Ow × Int), (∀ e ∈ r, 0 ≤ e.2) → 0 ≤ szH r
  | [], _ => by simp [szH]
  | e :: r, hn => by
    have h1 := hn e (by simp)
    have h2 := szH_nonneg r fun e he => hn e (by simp [he])
    simp only [szH, List.map_cons, List.sum_cons] at h2 ⊢; omega
theorem ann_mem {p : Pc} : ∀ {h : List (Ow × Int)} {s : Int}, (∀ e ∈ h, 0 ≤ e.2) → p ∈ ann s h → (p.ow, p.size) ∈ h ∧ s ≤ p.pos ∧ p.pos + p.size ≤ s + szH h ∧ 0 ≤ p.size
  | [], _, _, hp => by simp [ann] at hp
  | (o, k) :: r, s, hn, hp => by
    have hk := hn (o, k) (by simp)
    have hr := szH_nonneg r fun e he => hn e (by simp [he])
    have hz : szH ((o, k) :: r) = k + szH r := by simp [szH]
    dsimp only at hk
    rw [ann, List.mem_cons] at hp
    rcases hp with rfl | hp
    · exact ⟨by simp, by dsimp only; omega, by dsimp only; omega, hk⟩
    · obtain ⟨h1, h2, h3, h4⟩ := ann_mem (fun e he => hn e (by simp [he])) hp
      exact ⟨by simp [h1], by omega, by omega, h4⟩

def headH (x : Cfg) : List (Ow × Int) := [(⟨2, 0, 0⟩, 2)] ++ partH x.ps.length ++ chansH x x.hs.length
theorem headH_ok {x : Cfg} (hm : x.mayB = true) : ∀ e ∈ headH x, 0 ≤ e.2 ∧ e.1.kind ≠ 0 := by
  intro e he
  unfold headH partH chansH at he
  simp only [List.mem_append, List.mem_singleton, List.mem_flatMap, List.mem_range, List.mem_cons, List.not_mem_nil, or_false] at he
  rcases he with (rfl | ⟨p, _, rfl | rfl | rfl⟩) | ⟨n, hn, he⟩
  · decide
  · simp
  · simp
  · simp
  · have hh : x.hs[n]? = some x.hs[n] := List.getElem?_eq_getElem hn
    rw [hh] at he
    obtain ⟨hs, _, h1, h4⟩ := Cfg.mayB_chn hm hh
    have hb := Chn.plc_bd hs
    have h2 : 3 ≤ x.hs[n].stg ∧ x.hs[n].stg ≤ 137 := by unfold Chn.stg; omega
    have h3 : 4 ≤ x.hs[n].prt ∧ x.hs[n].prt ≤ 139 := by unfold Chn.prt; split <;> omega
    unfold chanH destH at he
    simp only [List.mem_append, List.mem_cons, List.not_mem_nil, or_false, List.mem_map] at he
    rcases he with (rfl | rfl) | ⟨d, _, rfl⟩
    · simp
    · exact ⟨by dsimp only; omega, by simp⟩
    · exact ⟨by dsimp only; omega, by simp⟩
theorem tabsH_ok (x : Cfg) : ∀ e ∈ tabsH x x.ps.length, 0 ≤ e.2 ∧ e.1.kind ≠ 0 := by
  intro e he
  unfold tabsH at he
  simp only [List.mem_flatMap, List.mem_range] at he
  obtain ⟨p, hp, he⟩ := he
  rw [List.getElem?_eq_getElem hp] at he
  have := List.eq_of_mem_replicate he
  subst this
  simp
theorem fillH_ok (a : Int) : ∀ e ∈ fillH a, 0 ≤ e.2 ∧ e.1 = ⟨0, 0, 0⟩ := by
  intro e he
  unfold fillH at he
  split at he
  · simp only [List.mem_singleton] at he; subst he; simp
  · simp only [List.mem_cons, List.not_mem_nil, or_false] at he
    rcases he with rfl | rfl
    · simp
    · exact ⟨by dsimp only; omega, rfl⟩
theorem szH_fillH (a : Int) : szH (fillH a) = fillN a := by
  unfold fillH fillN; split <;> simp [szH]
theorem szH_headH (x : Cfg) (a : Int) : a + szH (headH x) = chE x a := by
  unfold headH chE
  rw [← szH_chansH (chB x a) x.hs.length (Nat.le_refl _), szH_append, szH_append, szH_partH]
  unfold chB
  simp only [szH, List.map_cons, List.map_nil, List.sum_cons, List.sum_nil]; omega
theorem pcAll_eq (x : Cfg) (a : Int) : pcAll x a = ann a (headH x) ++ ann (rtB x a) (tabsH x x.ps.length) := by
  unfold pcAll pcB headH pcA
  congr 1
  rw [ann_append, ann_append]
  have e1 : szH ([(⟨2, 0, 0⟩, 2)] ++ partH x.ps.length) = 2 + 24 * x.ps.length := by rw [szH_append, szH_partH]; simp [szH]
  rw [e1]
  have e2 : chB x a = a + (2 + 24 * x.ps.length) := by unfold chB; omega
  rw [e2]
  simp [ann, szH]
theorem own_eq {x : Cfg} (hm : x.mayB = true) (t : Int) : ownO x t = ownD x t := by
  unfold ownO ownD
  obtain ⟨a, ha⟩ : ∃ a, 16 * x.kernel = a := ⟨_, rfl⟩
  rw [ha]
  have hH := headH_ok hm
  have hT := tabsH_ok x
  have hF := fillH_ok (chE x a)
  have hl : layH x a = headH x ++ fillH (chE x a) ++ tabsH x x.ps.length ++ [(⟨0, 0, 0⟩, 0)] := rfl
  have hall : ∀ e ∈ layH x a, 0 ≤ e.2 := by
    intro e he
    rw [hl] at he
    simp only [List.mem_append, List.mem_singleton] at he
    rcases he with ((he | he) | he) | rfl
    · exact (hH e he).1
    · exact (hF e he).1
    · exact (hT e he).1
    · simp
  have hr : a + szH (headH x ++ fillH (chE x a)) = rtB x a := by
    rw [szH_append, szH_fillH, ← Int.add_assoc, szH_headH]; rfl
  have hz : (ann (a + szH (headH x ++ fillH (chE x a) ++ tabsH x x.ps.length)) [((⟨0, 0, 0⟩ : Ow), (0 : Int))]).find? (Pc.has t) = none := by
    simp only [ann, List.find?_cons, List.find?_nil]
    have : ∀ s : Int, Pc.has t ⟨s, 0, ⟨0, 0, 0⟩⟩ = false := by intro s; unfold Pc.has; simp
    rw [this]
  rw [lastGo_find t (layH x a) a ⟨0, 0, 0⟩ hall, pcAll_eq, hl, ann_append, ann_append, ann_append, hr, List.find?_append, List.find?_append, List.find?_append, List.find?_append, hz]
  cases h1 : (ann a (headH x)).find? (Pc.has t) with
  | some p =>
    have hp := ann_mem (fun e he => (hH e he).1) (List.mem_of_find?_eq_some h1)
    have := (hH _ hp.1).2
    simp [this]
  | none =>
    cases h2 : (ann (a + szH (headH x)) (fillH (chE x a))).find? (Pc.has t) with
    | some p =>
      have hp := ann_mem (fun e he => (hF e he).1) (List.mem_of_find?_eq_some h2)
      have ho := (hF _ hp.1).2
      have hhas := List.find?_some h2
      have hlt : t < rtB x a := by
        rw [← hr, szH_append]; unfold Pc.has at hhas; simp at hhas; omega
      rw [find_under t _ _ (fun e he => (hT e he).1) hlt]
      dsimp only at ho
      simp [ho]
    | none =>
      cases h3 : (ann (rtB x a) (tabsH x x.ps.length)).find? (Pc.has t) with
      | some p =>
        have hp := ann_mem (fun e he => (hT e he).1) (List.mem_of_find?_eq_some h3)
        have := (hT _ hp.1).2
        simp [this]
      | none => simp
theorem pcAll_bd {x : Cfg} (hm : x.mayB = true) : ∀ p ∈ pcAll x (16 * x.kernel), 0 ≤ p.pos ∧ p.pos ≤ 1000000 ∧ 0 ≤ p.size ∧ p.size ≤ 1000000 := by
  have hk := Cfg.mayB_iff.1 hm
  obtain ⟨a, ha⟩ : ∃ a, 16 * x.kernel = a := ⟨_, rfl⟩
  have h1 := chAt_bd hm (chB x a) x.hs.length
  have h2 := rtAt_bd x (rtB x a) x.ps.length
  have h3 : chE x a = chAt x (chB x a) x.hs.length := rfl
  have h4 : rtB x a = chE x a + fillN (chE x a) := rfl
  have h5 : 0 ≤ fillN (chE x a) ∧ fillN (chE x a) ≤ 16 := by unfold fillN; split <;> omega
  have h6 : chB x a = a + 2 + 24 * x.ps.length := rfl
  have h7 := szH_headH x a
  have h8 := szH_tabsH (x := x) (rtB x a) x.ps.length (Nat.le_refl _)
  intro p hp
  rw [ha, pcAll_eq] at hp
  rcases List.mem_append.1 hp with hp | hp
  · have := ann_mem (fun e he => (headH_ok hm e he).1) hp; omega
  · have := ann_mem (fun e he => (tabsH_ok x e he).1) hp; omega
theorem pcAll_ln {x : Cfg} (hm : x.mayB = true) : (pcAll x (16 * x.kernel)).length ≤ 1000000 := by
  have hk := Cfg.mayB_iff.1 hm
  unfold pcAll
  rw [List.length_append, ann_length]
  have h1 := pcB_len hm (16 * x.kernel) x.hs.length (Nat.le_refl _)
  have h2 := tabsH_len x x.ps.length
  omega
end Go.Proofs.Ythaoopaafdgioab
