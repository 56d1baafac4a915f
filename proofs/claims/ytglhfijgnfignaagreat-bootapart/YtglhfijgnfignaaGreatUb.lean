import Derived.Test.YtglhfijgnfignaaGreatSs
import Derived.Test.YtglhfijgnfignaaGreatTo
import Derived.Test.YtglhfijgnfignaaGreatTq
namespace Go.Proofs.YtglhfijgnfignaaGreat
open Go.RowKit
open Mq
set_option linter.unusedVariables false
set_option linter.unusedSimpArgs false

def szH (l : List (Ow × Int)) : Int := (l.map (·.2)).sum
theorem szH_append (l m : List (Ow × Int)) : szH (l ++ m) = szH l + szH m := by simp [szH]
theorem szH_partH (j : Nat) : szH (partH j) = 24 * j := by
  induction j with
  | zero => rfl
  | succ j ih => rw [partH_succ, szH_append, ih]; simp [szH]; omega
def destHl (D : List Dst) (k : Int) : List (Ow × Int) := D.map fun d => (⟨8, d.p, d.q⟩, k)
theorem destH_all (D : List Dst) (k : Int) : destH D k D.length = destHl D k := by unfold destH destHl; rw [List.take_length]
theorem szH_destHl (D : List Dst) (k : Int) : szH (destHl D k) = D.length * k := by
  induction D with
  | nil => simp [szH, destHl]
  | cons d t ih =>
    have : szH (destHl (d :: t) k) = k + szH (destHl t k) := by simp [szH, destHl]
    rw [this, ih]
    simp only [List.length_cons, Int.natCast_add, Int.natCast_one, Int.add_mul, Int.one_mul]
    omega
theorem szH_chansH {x : Cfg} (b : Int) (n : Nat) (hn : n ≤ x.hs.length) : b + szH (chansH x n) = chAt x b n := by
  induction n with
  | zero => simp [chansH, szH, chAt]
  | succ n ih =>
    have hh : x.hs[n]? = some x.hs[n] := List.getElem?_eq_getElem (by omega)
    rw [chansH_succ hh, chAt_succ hh, szH_append, ← ih (by omega)]
    unfold chanH
    rw [szH_append, destH_all, szH_destHl]
    simp only [szH, List.map_cons, List.map_nil, List.sum_cons, List.sum_nil]
    omega
theorem szH_rep (o : Ow) (k : Nat) : szH (List.replicate k (o, (16 : Int))) = 16 * k := by
  induction k with
  | zero => rfl
  | succ k ih => rw [List.replicate_succ', szH_append, ih]; simp [szH]; omega
theorem szH_tabsH {x : Cfg} (b : Int) (n : Nat) (hn : n ≤ x.ps.length) : b + szH (tabsH x n) = rtAt x b n := by
  induction n with
  | zero => simp [tabsH, szH, rtAt]
  | succ n ih =>
    have hh : x.ps[n]? = some x.ps[n] := List.getElem?_eq_getElem (by omega)
    rw [tabsH_succ hh, rtAt_succ hh, szH_append, ← ih (by omega), szH_rep]
    omega
theorem lastGo_under (t : Int) : ∀ (h : List (Ow × Int)) (s : Int) (f : Ow), (∀ e ∈ h, 0 ≤ e.2) → t < s → lastGo t s f h = f
  | [], _, _, _, _ => rfl
  | (o, k) :: r, s, f, hn, ht => by
    have hk := hn (o, k) (by simp)
    rw [lastGo, if_neg (by omega)]
    exact lastGo_under t r (s + k) f (fun e he => hn e (by simp [he])) (by dsimp only at hk; omega)
theorem szH_nonneg : ∀ r : List (Ow × Int), (∀ e ∈ r, 0 ≤ e.2) → 0 ≤ szH r
  | [], _ => by simp [szH]
  | e :: r, hn => by
    have h1 := hn e (by simp)
    have h2 := szH_nonneg r fun e he => hn e (by simp [he])
    simp only [szH, List.map_cons, List.sum_cons] at h2 ⊢; omega
def headH (x : Cfg) : List (Ow × Int) := [(⟨2, 0, 0⟩, 2)] ++ partH x.ps.length ++ chansH x x.hs.length
theorem headH_ok {x : Cfg} (hm : x.mayB = true) : ∀ e ∈ headH x, 0 ≤ e.2 ∧ e.1.kind ≠ 0 := by
  intro e he
  unfold headH partH chansH at he
  simp only [List.mem_append, List.mem_singleton, List.mem_flatMap, List.mem_range, List.mem_cons, List.not_mem_nil, or_false] at he
  rcases he with (rfl | ⟨p, _, rfl | rfl | rfl⟩) | ⟨n, hn, he⟩
  · decide
  · simp
  · simp
  · simp
  · have hh : x.hs[n]? = some x.hs[n] := List.getElem?_eq_getElem hn
    rw [hh] at he
    obtain ⟨hs, _, h1, h4⟩ := Cfg.mayB_chn hm hh
    have hb := Chn.plc_bd hs
    have h2 : 3 ≤ x.hs[n].stg ∧ x.hs[n].stg ≤ 137 := by unfold Chn.stg; omega
    have h3 : 4 ≤ x.hs[n].prt ∧ x.hs[n].prt ≤ 139 := by unfold Chn.prt; split <;> omega
    unfold chanH destH at he
    simp only [List.mem_append, List.mem_cons, List.not_mem_nil, or_false, List.mem_map] at he
    rcases he with (rfl | rfl) | ⟨d, _, rfl⟩
    · simp
    · exact ⟨by dsimp only; omega, by simp⟩
    · exact ⟨by dsimp only; omega, by simp⟩
theorem tabsH_ok (x : Cfg) : ∀ e ∈ tabsH x x.ps.length, 0 ≤ e.2 ∧ e.1.kind ≠ 0 := by
  intro e he
  unfold tabsH at he
  simp only [List.mem_flatMap, List.mem_range] at he
  obtain ⟨p, hp, he⟩ := he
  rw [List.getElem?_eq_getElem hp] at he
  have := List.eq_of_mem_replicate he
  subst this
  simp
theorem fillH_ok (a : Int) : ∀ e ∈ fillH a, 0 ≤ e.2 ∧ e.1 = ⟨0, 0, 0⟩ := by
  intro e he
  unfold fillH at he
  split at he
  · simp only [List.mem_singleton] at he; subst he; simp
  · simp only [List.mem_cons, List.not_mem_nil, or_false] at he
    rcases he with rfl | rfl
    · simp
    · exact ⟨by dsimp only; omega, rfl⟩
theorem szH_fillH (a : Int) : szH (fillH a) = fillN a := by
  unfold fillH fillN; split <;> simp [szH]
theorem szH_headH (x : Cfg) (a : Int) : a + szH (headH x) = chE x a := by
  unfold headH chE
  rw [← szH_chansH (chB x a) x.hs.length (Nat.le_refl _), szH_append, szH_append, szH_partH]
  unfold chB
  simp only [szH, List.map_cons, List.map_nil, List.sum_cons, List.sum_nil]; omega

/-! ### Whose a region's word is -/
theorem lastGo_over (t : Int) : ∀ (h : List (Ow × Int)) (s : Int) (f : Ow), (∀ e ∈ h, 0 ≤ e.2) → s + szH h ≤ t → lastGo t s f h = f
  | [], s, f, _, _ => rfl
  | (o, k) :: r, s, f, hk, ht => by
    have h0 := hk (o, k) (List.mem_cons_self ..)
    have hr := fun e he => hk e (List.mem_cons_of_mem _ he)
    have hz := szH_nonneg r hr
    have e : szH ((o, k) :: r) = k + szH r := by simp [szH]
    rw [e] at ht
    show lastGo t (s + k) (if s ≤ t ∧ t < s + k then o else f) r = f
    simp only at h0
    rw [if_neg (by omega)]
    exact lastGo_over t r (s + k) f hr (by omega)
theorem layH_eq (x : Cfg) (a : Int) : layH x a = headH x ++ (fillH (chE x a) ++ (tabsH x x.ps.length ++ [(⟨0, 0, 0⟩, 0)])) := by
  unfold layH headH
  simp only [List.append_assoc]
theorem layH_ok {x : Cfg} (hm : x.mayB = true) (a : Int) : ∀ e ∈ layH x a, 0 ≤ e.2 := by
  intro e he
  rw [layH_eq] at he
  rcases List.mem_append.1 he with h | h
  · exact (headH_ok hm e h).1
  rcases List.mem_append.1 h with h | h
  · exact (fillH_ok _ e h).1
  rcases List.mem_append.1 h with h | h
  · exact (tabsH_ok x e h).1
  · rw [List.mem_singleton.1 h]; exact Int.le_refl 0
theorem szH_layH (x : Cfg) : 16 * x.kernel + szH (layH x (16 * x.kernel)) = rt x x.ps.length := by
  have h1 := szH_headH x (16 * x.kernel)
  have h2 := szH_fillH (chE x (16 * x.kernel))
  have h3 := szH_tabsH (x := x) (rtB x (16 * x.kernel)) x.ps.length (Nat.le_refl _)
  have h4 : rtB x (16 * x.kernel) = chE x (16 * x.kernel) + fillN (chE x (16 * x.kernel)) := rfl
  have h5 : szH [((⟨0, 0, 0⟩ : Ow), (0 : Int))] = 0 := by simp [szH]
  have h6 : rt x x.ps.length = rtAt x (rtB x (16 * x.kernel)) x.ps.length := rfl
  rw [layH_eq, szH_append, szH_append, szH_append, h5]
  omega
theorem Gd.owner {x : Cfg} (g : Gd x) {n : Nat} (hn : (n : Int) = x.frames) {k : Nat} {P : Par} (hP : x.ps[k]? = some P) {t : Nat} (ht : t < n * 16) {q : Nat} (hq : pgOf P.rs (t / 16) = some q) : ownA x t = (⟨1, k, 0⟩, 0) := by
  obtain ⟨r, hr, hrf, _⟩ := pgOf_some hq
  obtain ⟨a1, a2⟩ := hasF_iff.1 hrf
  have hfar := g.far hP hr hrf
  have hfit := g.fit
  have hfr := g.frames
  have hE := g.rtE
  have hsz := szH_layH x
  have hok := layH_ok hfit.1 (16 * x.kernel)
  have ediv : (t : Int) / 16 = ((t / 16 : Nat) : Int) := by omega
  have hl : lastGo t (16 * x.kernel) ⟨0, 0, 0⟩ (layH x (16 * x.kernel)) = ⟨0, 0, 0⟩ := by
    by_cases e : (t : Int) < 16 * x.kernel
    · exact lastGo_under t _ _ _ hok e
    · exact lastGo_over t _ _ _ hok (by omega)
  have hw : isW x.frames t = true := by
    unfold isW
    simp only [Bool.and_eq_true, decide_eq_true_eq]
    omega
  have hro := (g.gp k P hP).ok g r hr
  have hQ : ∀ s : Rgn, s.ok → (s.hasQ ((t / 16 : Nat) : Int) = true ↔ s.hasF (t / 16) = true) := fun s hs => by
    obtain ⟨o1, o2, o3, o4, o5, o6, o7⟩ := hs
    rw [hasF_iff]
    unfold Rgn.hasQ
    simp only [Bool.and_eq_true, decide_eq_true_eq]
    omega
  unfold ownA
  rw [hfit.1, hw, if_neg (by simp), if_neg (by simp)]
  unfold ownO
  rw [hl, if_pos rfl, ediv]
  rw [regO_hit (k := k) ?_ hP hr ((hQ r hro).2 hrf)]
  rw [List.any_eq_false]
  intro Q hQm hany
  obtain ⟨s, hs, hsf⟩ := List.any_eq_true.1 hany
  obtain ⟨j, hj⟩ := List.mem_iff_getElem?.1 hQm
  rw [List.getElem?_take] at hj
  split at hj
  · rename_i hjk
    have hso := (g.gp j Q hj).ok g s hs
    exact g.else hj hP (by omega) hs hr ((hQ s hso).1 hsf) hrf
  · cases hj

/-! ### Two boots -/
theorem own_over (rs : List Rgn) (u v zs : List UInt32) : ownL rs u (ownL rs v zs) = ownL rs u zs := by
  refine List.ext_getElem? fun i => ?_
  rw [ownL_get, ownL_get, ownL_get]
  cases zs[i]? with
  | none => rfl
  | some z =>
    simp only [Option.map_some]
    unfold ownW
    cases pgOf rs (i / 16) <;> rfl
theorem own_comm {rs ss : List Rgn} (h : ∀ f, pgOf rs f = none ∨ pgOf ss f = none) (u v zs : List UInt32) : ownL rs u (ownL ss v zs) = ownL ss v (ownL rs u zs) := by
  refine List.ext_getElem? fun i => ?_
  rw [ownL_get, ownL_get, ownL_get, ownL_get]
  cases zs[i]? with
  | none => rfl
  | some z =>
    simp only [Option.map_some]
    unfold ownW
    rcases h (i / 16) with e | e
    · rw [e]
    · rw [e]
theorem boot_set {x : Cfg} (g : Gd x) {n : Nat} {ps : List (List UInt32)} {k : Nat} {P : Par} (hP : x.ps[k]? = some P) (hk : k < ps.length) (o : List UInt32) (hl : ps.length ≤ x.ps.length) :
    ∀ m, m ≤ ps.length → (m ≤ k → bootL x n (ps.set k o) m = bootL x n ps m) ∧ (k < m → bootL x n (ps.set k o) m = ownL P.rs o (bootL x n ps m))
  | 0, _ => ⟨fun _ => rfl, fun h => by omega⟩
  | m + 1, hm => by
    have ih := boot_set (n := n) g hP hk o hl m (by omega)
    obtain ⟨Q, hQ⟩ : ∃ Q, x.ps[m]? = some Q := ⟨_, List.getElem?_eq_getElem (by omega)⟩
    obtain ⟨w, hw⟩ : ∃ w, ps[m]? = some w := ⟨_, List.getElem?_eq_getElem (by omega)⟩
    refine ⟨fun h => ?_, fun h => ?_⟩
    · have hw' : (ps.set k o)[m]? = some w := by rw [List.getElem?_set_ne (by omega)]; exact hw
      rw [bootL_succ hQ hw', bootL_succ hQ hw, ih.1 (by omega)]
    · by_cases e : m = k
      · subst e
        rw [hP] at hQ
        obtain rfl := Option.some.inj hQ
        have hw' : (ps.set m o)[m]? = some o := by rw [List.getElem?_set_self (by omega)]
        rw [bootL_succ hP hw', bootL_succ hP hw, ih.1 (Nat.le_refl _), own_over]
      · have hw' : (ps.set k o)[m]? = some w := by rw [List.getElem?_set_ne (by omega)]; exact hw
        rw [bootL_succ hQ hw', bootL_succ hQ hw, ih.2 (by omega), own_comm]
        intro f
        cases h1 : pgOf Q.rs f with
        | none => exact .inl rfl
        | some a =>
          cases h2 : pgOf P.rs f with
          | none => exact .inr rfl
          | some b =>
            obtain ⟨r, hr, hrf, _⟩ := pgOf_some h1
            obtain ⟨s, hs, hsf, _⟩ := pgOf_some h2
            exact (g.else hQ hP e hr hs hrf hsf).elim
/-! ### A copy's words -/
theorem Cfg.Eqv.par {x y : Cfg} (h : x.Eqv y) (i : Nat) : (∃ P Q, x.ps[i]? = some P ∧ y.ps[i]? = some Q ∧ Q.rs = P.rs ∧ Q.entry = P.entry) ∨ (x.ps[i]? = none ∧ y.ps[i]? = none) := by
  have hl := h.len
  by_cases hi : i < x.ps.length
  · obtain ⟨P, hP⟩ : ∃ P, x.ps[i]? = some P := ⟨_, List.getElem?_eq_getElem hi⟩
    obtain ⟨Q, hQ⟩ : ∃ Q, y.ps[i]? = some Q := ⟨_, List.getElem?_eq_getElem (by omega)⟩
    have := h.ps i Q P hQ hP
    exact .inl ⟨P, Q, hP, hQ, this.2.2.2.2.2.2.1, this.2.1⟩
  · exact .inr ⟨List.getElem?_eq_none (by omega), List.getElem?_eq_none (by omega)⟩
theorem base_eqv {x y : Cfg} (h : x.Eqv y) (n : Nat) : ∀ k, baseL y n k = baseL x n k
  | 0 => rfl
  | k + 1 => by
    have ih := base_eqv h n k
    show (match y.ps[k]? with | some P => stepB y k P (baseL y n k) | none => baseL y n k) = (match x.ps[k]? with | some P => stepB x k P (baseL x n k) | none => baseL x n k)
    rcases h.par k with ⟨P, Q, hP, hQ, e1, e2⟩ | ⟨hP, hQ⟩
    · rw [hP, hQ]
      simp only
      unfold stepB tbs entW stA svA
      rw [ih, e1, e2, h.rt, h.rtN, h.kernel]
    · rw [hP, hQ]; exact ih
theorem boot_eqv {x y : Cfg} (h : x.Eqv y) (n : Nat) (ps : List (List UInt32)) : ∀ k, bootL y n ps k = bootL x n ps k
  | 0 => by show baseL y n y.ps.length = baseL x n x.ps.length; rw [h.len]; exact base_eqv h n _
  | k + 1 => by
    have ih := boot_eqv h n ps k
    show (match y.ps[k]?, ps[k]? with | some P, some p => ownL P.rs p (bootL y n ps k) | _, _ => bootL y n ps k) = (match x.ps[k]?, ps[k]? with | some P, some p => ownL P.rs p (bootL x n ps k) | _, _ => bootL x n ps k)
    rcases h.par k with ⟨P, Q, hP, hQ, e1, e2⟩ | ⟨hP, hQ⟩
    · rw [hP, hQ, ih]
      cases ps[k]? with
      | none => rfl
      | some p => simp only [e1]
    · rw [hP, hQ]; exact ih

end Go.Proofs.YtglhfijgnfignaaGreat
namespace Go.Proofs.YtglhfijgnfignaaGreat
open Go.RowKit Go.Shelf
open Mq
set_option linter.unusedVariables false
set_option maxRecDepth 6000
set_option linter.unusedSimpArgs false
attribute [local go_sem] Oper.semAt_some

set_option maxHeartbeats 4000000 in
theorem anew_yes (x : Cfg) (b g n k : Nat) (xs : List UInt32) (P : Par) (a2 : Option Addr) (ws : List UInt32) (c2 : Nat) (w : World) (N : Nat) (hi : x.In w N) (hN : N ≤ w.heap.size) (hgd : Gd x) (hn : (n : Int) = x.frames) (hM : Mn w b g n xs) (hP : x.ps[k]? = some P) (hw : SegW w a2 ws) (hlw : ws.length ≤ c2 ∧ c2 ≤ maxLen) (ha2 : ∀ y, a2 = some y → y.block ≠ g) (hra : ∀ y, P.ra = some y → y.block ≠ g) (hlie : LiesP P.rs ws) :
    Calls Tryz.prog 15 #[.pointer (some ⟨b, 0, none⟩), x.v, .int .i64 k, .slice a2 ws.length c2] w fun e w' => e = .returned (.int .i64 0) ∧ Mn w' b g n (ownL P.rs ws xs) ∧ Keeps (· = g) w w' := by
  obtain ⟨W, hW⟩ : ∃ W, W = x.laid w := ⟨_, rfl⟩
  obtain ⟨C, hC⟩ : ∃ C, C = w.heap.size := ⟨_, rfl⟩
  have hO : One w x C N W := by rw [hW, hC]; exact One.mk' hi hN
  have HO : Hid (One w x C N W) := hO
  have HC : Hid (Calls Tryz.prog 35 #[x.v] W (ChkP x W)) := Check_any x W N hO.cin hO.nn
  obtain ⟨q0, q1, q2, q3, q4, q5, q6⟩ := HO.out.cells
  obtain ⟨M, hMl⟩ : ∃ M, M = x.ps.length := ⟨_, rfl⟩
  obtain ⟨L, hL⟩ : ∃ L, L = ws.length := ⟨_, rfl⟩
  have hkM : (k : Int) < M := by have := (List.getElem?_eq_some_iff.1 hP).1; omega
  have HP : Hid (Gd x ∧ (n : Int) = x.frames ∧ Mn w b g n xs ∧ x.ps[k]? = some P ∧ SegW w a2 ws ∧ (ws.length ≤ c2 ∧ c2 ≤ maxLen) ∧ (∀ y, a2 = some y → y.block ≠ g) ∧ (∀ y, P.ra = some y → y.block ≠ g) ∧ LiesP P.rs ws ∧ M = x.ps.length ∧ L = ws.length) := ⟨hgd, hn, hM, hP, hw, hlw, ha2, hra, hlie, hMl, hL⟩
  have hcn : (chk x).n = 0 := chk_n.2 hgd
  rw [← hL]
  unfold Cfg.laid at hW
  clear hi hN hO hgd hn hM hP hw hlw ha2 hra hlie hMl hL
  go_enter Tryz.func15, Tryz.ntmps15
  go_upto_region 1 with fail
  rw [← hW, ← hC]
  clear hW hC
  go_wp2_with fail
  refine HC.out.mono ?_
  rintro e w1 ⟨rfl, hK1⟩
  rw [hcn]
  obtain ⟨W1, hW1⟩ : ∃ W1, W1 = w1.alloc (.cells #[.int .i64 (chk x).a, .int .i64 (chk x).b] 92) := ⟨_, rfl⟩
  have hK2 : Keeps (fun _ => False) W W1 := by rw [hW1]; exact hK1.alloc _
  have H1 : Hid (One w x C N W1 ∧ Mn W1 b g n xs ∧ Keeps (fun _ => False) w W1) := ⟨HO.out.kept hK2, HP.out.2.2.1.grown (HO.out.keeps.trans hK2 fun _ _ h => h), HO.out.keeps.trans hK2 fun _ _ h => h⟩
  clear hK1 hK2 HC q0 q1 q2 q3 q4 q5 q6 hcn
  go_upto_region 4 with fail
  rw [← hW1]
  clear hW1
  have q0 := H1.out.1.cells.1
  rw [← HP.out.2.1] at q0
  have HF : Hid (∀ w', Mn w' b g n xs → Calls _ _ _ w' _) := fun w' h => framesN_any b g xs n w' h.mm h.len
  refine wp_quiet ?_
  refine wp_region_held_drew (S := fun w' => w'.cell? ⟨C, 0, none⟩ = some (.int .i64 n)) Tryz.mixh q0 (fun hHeld => ?_)
  simp only [List.size_toArray, List.length_cons, List.length_nil, Nat.reduceAdd, Array.replicate_succ, Array.replicate_zero, List.push_toArray, List.nil_append, List.cons_append]
  refine hk 0 (.int .i64 0) hHeld ?_
  simp only [Act.put, List.setIfInBounds_toArray, List.set_cons_zero, List.set_cons_succ]
  refine hk 1 (.bool false) hHeld ?_
  simp only [Act.put, List.setIfInBounds_toArray, List.set_cons_zero, List.set_cons_succ]
  refine hk 2 (.bool false) hHeld ?_
  simp only [Act.put, List.setIfInBounds_toArray, List.set_cons_zero, List.set_cons_succ]
  refine hk 3 (.pointer (some ⟨b, 0, none⟩)) hHeld ?_
  simp only [Act.put, List.setIfInBounds_toArray, List.set_cons_zero, List.set_cons_succ]
  refine hk 5 (.pointer (some ⟨C, 0, none⟩)) hHeld ?_
  simp only [Act.put, List.setIfInBounds_toArray, List.set_cons_zero, List.set_cons_succ]
  refine hk 6 (.int .i64 n) hHeld ?_
  simp only [Act.put, List.setIfInBounds_toArray, List.set_cons_zero, List.set_cons_succ]
  refine wpAnyH_ready (rs := [4]) (by kernel_rfl) (by simp) ?_
  refine AllReadyH.cons rfl (fun Kq hK => ?_) AllReadyH.nil
  go_simp
  refine (HF.out _ (H1.out.2.1.grown ((Keeps.refl _ W1).drew))).mono ?_
  rintro e w2 ⟨rfl, hw2⟩
  obtain rfl := hw2.symm
  clear hw2
  refine hK _ _ q0 (fun hHeld => ?_)
  simp only [Act.put, List.setIfInBounds_toArray, List.set_cons_zero, List.set_cons_succ]
  refine hk 7 (.bool false) hHeld ?_
  simp only [Act.put, List.setIfInBounds_toArray, List.set_cons_zero, List.set_cons_succ]
  refine hk 8 (.bool false) hHeld ?_
  simp only [Act.put, List.setIfInBounds_toArray, List.set_cons_zero, List.set_cons_succ]
  refine wpAnyH_done (by kernel_rfl) ?_ _
  clear hHeld q0 HF
  obtain ⟨W2, hW2⟩ : ∃ W2, W2 = W1.drew := ⟨_, rfl⟩
  rw [← hW2]
  have hKd : Keeps (fun _ => False) W1 W2 := by rw [hW2]; exact (Keeps.refl _ W1).drew
  have hOd := H1.out.1.kept hKd
  have H2 : Hid (One w x C N W2 ∧ Mn W2 b g n xs ∧ Keeps (fun _ => False) w W2) := ⟨hOd, H1.out.2.1.grown hKd, H1.out.2.2.trans hKd fun _ _ h => h⟩
  obtain ⟨gp, op, hxa, hpc⟩ := hOd.cin.pseg.at HP.out.2.2.2.1
  have p6 := hpc 6 (.slice P.ra P.rs.length P.rc) rfl
  have q5 := hOd.cells.2.2.2.2.2.1
  rw [hxa, ← HP.out.2.2.2.2.2.2.2.2.2.1] at q5
  have hpl := hOd.cin.plen
  have hpl1 : (M : Int) ≤ x.pc := by have := HP.out.2.2.2.2.2.2.2.2.2.1; omega
  have hpl2 : (x.pc : Int) ≤ 9223372036854775807 := by unfold maxLen at hpl; omega
  have HCA : Hid (Calls Tryz.prog 20 #[.pointer (some ⟨b, 0, none⟩), .slice P.ra P.rs.length P.rc, .slice a2 L c2] W2 fun e w' => e = .returned (.int .i64 0) ∧ Mn w' b g n (ownL P.rs ws xs) ∧ Keeps (· = g) W2 w') := by
    obtain ⟨h1, h2, h3, h4, h5, h6, h7, h8, h9, h10, h11⟩ := HP.out
    have hgp := h1.gp k P h4
    have hpin := hOd.cin.pin P (List.mem_of_getElem? h4)
    have hrn : P.rs ≠ [] := fun e => by have := hgp.rlen.1; rw [e] at this; simp at this
    rw [h11]
    exact own_yes b g n xs P.ra P.rs P.rc a2 ws c2 W2 H2.out.2.1 ⟨hpin.rlen, h6, hgp.ok h1, fun r hr => by have := hgp.fr h1 r hr; omega, hgp.fu, hgp.pu⟩ (segR_of hpin.rseg) (h5.kept H2.out.2.2 fun _ _ h => h) h8 h7 h9
  obtain ⟨nr, hnr⟩ : ∃ nr, nr = P.rs.length := ⟨_, rfl⟩
  rw [← hnr] at p6 HCA
  clear hOd hKd hW2 hxa hpc hpl hnr H1
  go_wp2_with fail
  refine HCA.out.mono ?_
  rintro e w3 ⟨rfl, hm3, hk3⟩
  have H3 : Hid (Mn w3 b g n (ownL P.rs ws xs) ∧ Keeps (· = g) w w3) := ⟨hm3, (H2.out.2.2.mono fun _ _ h => h.elim).trans hk3 fun _ _ h => h⟩
  clear hm3 hk3 HCA p6 q5
  go_wp2
  go_ret
  exact ⟨rfl, H3.out.1, H3.out.2⟩

end Go.Proofs.YtglhfijgnfignaaGreat
