import Derived.Test.YthaoopaafdgioabRs
namespace Go.Proofs.Ythaoopaafdgioab
open Go.RowKit
set_option linter.unusedVariables false
set_option linter.unusedSimpArgs false

/-- Where the document's Of stands among the pieces. -/
structure Z9 where
  bar : Int
  lo : Nat → Int
  sa : Nat → Int
  st : Nat → Int
  rt : Nat → Int
  T : Nat → List Int
  cl : Nat → Int
  cs : Nat → Int
  D : Nat → List Dst
  ch : Nat
  en : Int
def z9 (a : Int) : Z9 := ⟨0, fun _ => 0, fun _ => 0, fun _ => 0, fun _ => 0, fun _ => [], fun _ => 0, fun _ => 0, fun _ => [], 0, a⟩
/-- One piece. -/
def stp (s : Z9) (p : Pc) : Z9 :=
  if p.ow.kind = 2 then { s with bar := p.pos, en := p.pos + p.size }
  else if p.ow.kind = 3 then { s with lo := upd s.lo p.ow.idx.toNat p.pos, en := p.pos + p.size }
  else if p.ow.kind = 4 then { s with sa := upd s.sa p.ow.idx.toNat p.pos, en := p.pos + p.size }
  else if p.ow.kind = 5 then { s with st := upd s.st p.ow.idx.toNat p.pos, en := p.pos + p.size }
  else if p.ow.kind = 6 then { s with cl := upd s.cl p.ow.idx.toNat p.pos, ch := p.ow.idx.toNat, en := p.pos + p.size }
  else if p.ow.kind = 7 then { s with cs := upd s.cs p.ow.idx.toNat p.pos, en := p.pos + p.size }
  else if p.ow.kind = 8 then { s with D := upd s.D s.ch (s.D s.ch ++ [⟨p.ow.idx, p.ow.port, p.pos⟩]), en := p.pos + p.size }
  else if p.ow.kind = 9 then
    if s.rt p.ow.idx.toNat = 0 then { s with rt := upd s.rt p.ow.idx.toNat (p.pos / 16), en := p.pos + p.size }
    else { s with T := upd s.T p.ow.idx.toNat (s.T p.ow.idx.toNat ++ [p.pos / 16]), en := p.pos + p.size }
  else { s with en := p.pos + p.size }
theorem stp_en (s : Z9) (p : Pc) : (stp s p).en = p.pos + p.size := by
  unfold stp
  repeat' split
  all_goals rfl
theorem en_ann (l : List (Ow × Int)) (a : Int) (s : Z9) : ((ann a l).foldl stp s).en = if l = [] then s.en else a + szH l := by
  induction l generalizing a s with
  | nil => rfl
  | cons p t ih =>
    obtain ⟨o, k⟩ := p
    show ((ann (a + k) t).foldl stp (stp s ⟨a, k, o⟩)).en = _
    rw [ih, stp_en]
    cases t with
    | nil => simp [szH]
    | cons q u => simp [szH]; omega
/-- What the partitions' pieces leave as it was. -/
structure SameC (s r : Z9) : Prop where
  bar : r.bar = s.bar
  cl : r.cl = s.cl
  cs : r.cs = s.cs
  D : r.D = s.D
  ch : r.ch = s.ch
theorem SameC.refl (s : Z9) : SameC s s := ⟨rfl, rfl, rfl, rfl, rfl⟩
theorem SameC.trans {s r q : Z9} (h : SameC s r) (h2 : SameC r q) : SameC s q := ⟨h2.bar.trans h.bar, h2.cl.trans h.cl, h2.cs.trans h.cs, h2.D.trans h.D, h2.ch.trans h.ch⟩
theorem fold_partH (a : Int) (s : Z9) (j : Nat) : SameC s ((ann a (partH j)).foldl stp s) ∧ ((ann a (partH j)).foldl stp s).rt = s.rt ∧ ((ann a (partH j)).foldl stp s).T = s.T ∧
    ∀ i, i < j → ((ann a (partH j)).foldl stp s).lo i = a + 24 * i ∧ ((ann a (partH j)).foldl stp s).sa i = a + 24 * i + 2 ∧ ((ann a (partH j)).foldl stp s).st i = a + 24 * i + 2 + 17 := by
  induction j with
  | zero => exact ⟨SameC.refl s, rfl, rfl, fun i h => absurd h (by omega)⟩
  | succ j ih =>
    obtain ⟨h1, h2, h3, h4⟩ := ih
    rw [partH_succ, ann_append, List.foldl_append, szH_partH]
    obtain ⟨r, hr⟩ : ∃ r, r = (ann a (partH j)).foldl stp s := ⟨_, rfl⟩
    rw [← hr] at h1 h2 h3 h4 ⊢
    have e : (ann (a + 24 * (j : Int)) [(⟨3, j, 0⟩, 2), (⟨4, j, 0⟩, 17), (⟨5, j, 0⟩, 5)]).foldl stp r = { r with lo := upd r.lo j (a + 24 * j), sa := upd r.sa j (a + 24 * j + 2), st := upd r.st j (a + 24 * j + 2 + 17), en := a + 24 * j + 2 + 17 + 5 } := by
      simp [ann, stp]
    rw [e]
    refine ⟨⟨h1.bar, h1.cl, h1.cs, h1.D, h1.ch⟩, h2, h3, fun i hi => ?_⟩
    by_cases q : i = j
    · subst q; simp [upd]
    · obtain ⟨g1, g2, g3⟩ := h4 i (by omega)
      simp only [upd, q, if_false]
      exact ⟨g1, g2, g3⟩
/-- What the channels' pieces leave as it was. -/
structure SameP (s r : Z9) : Prop where
  bar : r.bar = s.bar
  lo : r.lo = s.lo
  sa : r.sa = s.sa
  st : r.st = s.st
  rt : r.rt = s.rt
  T : r.T = s.T
theorem SameP.refl (s : Z9) : SameP s s := ⟨rfl, rfl, rfl, rfl, rfl, rfl⟩
theorem fold_dests (D : List Dst) (b k : Int) (s : Z9) : SameP s ((ann b (destHl D k)).foldl stp s) ∧ ((ann b (destHl D k)).foldl stp s).cl = s.cl ∧ ((ann b (destHl D k)).foldl stp s).cs = s.cs ∧ ((ann b (destHl D k)).foldl stp s).ch = s.ch ∧
    ((ann b (destHl D k)).foldl stp s).D = upd s.D s.ch (s.D s.ch ++ D.mapIdx fun i d => ⟨d.p, d.q, b + i * k⟩) := by
  induction D generalizing b s with
  | nil =>
    refine ⟨SameP.refl s, rfl, rfl, rfl, ?_⟩
    funext i
    show s.D i = upd s.D s.ch (s.D s.ch ++ []) i
    unfold upd
    split
    · next h => rw [h, List.append_nil]
    · rfl
  | cons d t ih =>
    have e : stp s ⟨b, k, ⟨8, d.p, d.q⟩⟩ = { s with D := upd s.D s.ch (s.D s.ch ++ [⟨d.p, d.q, b⟩]), en := b + k } := by simp [stp]
    show SameP s ((ann (b + k) (destHl t k)).foldl stp (stp s ⟨b, k, ⟨8, d.p, d.q⟩⟩)) ∧ ((ann (b + k) (destHl t k)).foldl stp (stp s ⟨b, k, ⟨8, d.p, d.q⟩⟩)).cl = _ ∧ ((ann (b + k) (destHl t k)).foldl stp (stp s ⟨b, k, ⟨8, d.p, d.q⟩⟩)).cs = _ ∧ ((ann (b + k) (destHl t k)).foldl stp (stp s ⟨b, k, ⟨8, d.p, d.q⟩⟩)).ch = _ ∧ ((ann (b + k) (destHl t k)).foldl stp (stp s ⟨b, k, ⟨8, d.p, d.q⟩⟩)).D = _
    rw [e]
    obtain ⟨h1, h2, h3, h4, h5⟩ := ih (b + k) { s with D := upd s.D s.ch (s.D s.ch ++ [⟨d.p, d.q, b⟩]), en := b + k }
    refine ⟨⟨h1.bar, h1.lo, h1.sa, h1.st, h1.rt, h1.T⟩, h2, h3, h4, ?_⟩
    rw [h5]
    funext i
    unfold upd
    by_cases q : i = s.ch
    · simp only [q, if_true, List.append_assoc, List.mapIdx_cons]
      congr 1
      rw [List.singleton_append]
      congr 1
      · simp
      · apply List.ext_getElem?
        intro m
        simp only [List.getElem?_mapIdx]
        cases t[m]? with
        | none => rfl
        | some y =>
          simp only [Option.map_some, Option.some.injEq, Dst.mk.injEq, true_and]
          have : ((m + 1 : Nat) : Int) = m + 1 := by omega
          rw [this, Int.add_mul]
          omega
    · simp only [q, if_false]
theorem placed_all (D : List Dst) (b k : Int) : placed D b k D.length = D.mapIdx fun i d => ⟨d.p, d.q, b + i * k⟩ := by
  apply List.ext_getElem?
  intro m
  simp only [placed, List.getElem?_mapIdx]
  cases h : D[m]? with
  | none => rfl
  | some y => simp only [Option.map_some, (List.getElem?_eq_some_iff.1 h).1, if_true]
theorem fold_chansH {x : Cfg} (b : Int) (s : Z9) (hD : ∀ i, s.D i = []) (j : Nat) (hj : j ≤ x.hs.length) : SameP s ((ann b (chansH x j)).foldl stp s) ∧ (∀ i, j ≤ i → ((ann b (chansH x j)).foldl stp s).D i = []) ∧
    ∀ i, i < j → ∃ h, x.hs[i]? = some h ∧ ((ann b (chansH x j)).foldl stp s).cl i = chAt x b i ∧ ((ann b (chansH x j)).foldl stp s).cs i = chAt x b i + 2 ∧ ((ann b (chansH x j)).foldl stp s).D i = placed (dstsOf x i) (chAt x b i + 2 + h.stg) h.prt (dstsOf x i).length := by
  induction j with
  | zero => exact ⟨SameP.refl s, fun i _ => hD i, fun i h => absurd h (by omega)⟩
  | succ j ih =>
    obtain ⟨h1, h2, h3⟩ := ih (by omega)
    obtain ⟨h, hh⟩ : ∃ h, x.hs[j]? = some h := ⟨_, List.getElem?_eq_getElem (by omega)⟩
    rw [chansH_succ hh, ann_append, List.foldl_append, szH_chansH b j (by omega)]
    obtain ⟨r, hr⟩ : ∃ r, r = (ann b (chansH x j)).foldl stp s := ⟨_, rfl⟩
    rw [← hr] at h1 h2 h3 ⊢
    unfold chanH
    rw [destH_all, ann_append, List.foldl_append]
    have e : (ann (chAt x b j) [(⟨6, j, 0⟩, 2), (⟨7, j, 0⟩, h.stg)]).foldl stp r = { r with cl := upd r.cl j (chAt x b j), ch := j, cs := upd r.cs j (chAt x b j + 2), en := chAt x b j + 2 + h.stg } := by
      simp [ann, stp]
    rw [e, show szH [((⟨6, (j : Int), 0⟩ : Ow), (2 : Int)), (⟨7, j, 0⟩, h.stg)] = 2 + h.stg by simp [szH], show chAt x b j + (2 + h.stg) = chAt x b j + 2 + h.stg by omega]
    obtain ⟨g1, g2, g3, g4, g5⟩ := fold_dests (dstsOf x j) (chAt x b j + 2 + h.stg) h.prt { r with cl := upd r.cl j (chAt x b j), ch := j, cs := upd r.cs j (chAt x b j + 2), en := chAt x b j + 2 + h.stg }
    obtain ⟨q, hq⟩ : ∃ q, q = (ann (chAt x b j + 2 + h.stg) (destHl (dstsOf x j) h.prt)).foldl stp { r with cl := upd r.cl j (chAt x b j), ch := j, cs := upd r.cs j (chAt x b j + 2), en := chAt x b j + 2 + h.stg } := ⟨_, rfl⟩
    rw [← hq] at g1 g2 g3 g4 g5 ⊢
    refine ⟨⟨g1.bar.trans h1.bar, g1.lo.trans h1.lo, g1.sa.trans h1.sa, g1.st.trans h1.st, g1.rt.trans h1.rt, g1.T.trans h1.T⟩, fun i hi => ?_, fun i hi => ?_⟩
    · rw [g5]
      show upd r.D j _ i = []
      rw [upd_ne _ _ (by omega)]
      exact h2 i (by omega)
    · rw [g2, g3, g5]
      show ∃ h, x.hs[i]? = some h ∧ upd r.cl j _ i = _ ∧ upd r.cs j _ i = _ ∧ upd r.D j _ i = _
      by_cases k : i = j
      · subst k
        refine ⟨h, hh, upd_same _ _ _, upd_same _ _ _, ?_⟩
        rw [upd_same, placed_all]
        show r.D i ++ _ = _
        rw [h2 i (Nat.le_refl _)]
        rfl
      · rw [upd_ne _ _ k, upd_ne _ _ k, upd_ne _ _ k]
        exact h3 i (by omega)
theorem fold_rep (p c : Nat) (b : Int) (s : Z9) (hr : s.rt p ≠ 0) : SameC s ((ann b (List.replicate c ((⟨9, (p : Int), 0⟩ : Ow), (16 : Int)))).foldl stp s) ∧ ((ann b (List.replicate c ((⟨9, (p : Int), 0⟩ : Ow), (16 : Int)))).foldl stp s).lo = s.lo ∧ ((ann b (List.replicate c ((⟨9, (p : Int), 0⟩ : Ow), (16 : Int)))).foldl stp s).sa = s.sa ∧ ((ann b (List.replicate c ((⟨9, (p : Int), 0⟩ : Ow), (16 : Int)))).foldl stp s).st = s.st ∧
    ((ann b (List.replicate c ((⟨9, (p : Int), 0⟩ : Ow), (16 : Int)))).foldl stp s).rt = s.rt ∧ ((ann b (List.replicate c ((⟨9, (p : Int), 0⟩ : Ow), (16 : Int)))).foldl stp s).T = upd s.T p (s.T p ++ (List.range c).map fun (k : Nat) => b / 16 + (k : Int)) := by
  induction c generalizing b s with
  | zero =>
    refine ⟨SameC.refl s, rfl, rfl, rfl, rfl, ?_⟩
    funext i
    show s.T i = upd s.T p (s.T p ++ []) i
    unfold upd
    split
    · next h => rw [h, List.append_nil]
    · rfl
  | succ c ih =>
    have e : stp s ⟨b, 16, ⟨9, p, 0⟩⟩ = { s with T := upd s.T p (s.T p ++ [b / 16]), en := b + 16 } := by simp [stp, hr]
    rw [List.replicate_succ]
    show SameC s ((ann (b + 16) (List.replicate c _)).foldl stp (stp s ⟨b, 16, ⟨9, p, 0⟩⟩)) ∧ ((ann (b + 16) (List.replicate c _)).foldl stp (stp s ⟨b, 16, ⟨9, p, 0⟩⟩)).lo = _ ∧ ((ann (b + 16) (List.replicate c _)).foldl stp (stp s ⟨b, 16, ⟨9, p, 0⟩⟩)).sa = _ ∧ ((ann (b + 16) (List.replicate c _)).foldl stp (stp s ⟨b, 16, ⟨9, p, 0⟩⟩)).st = _ ∧ ((ann (b + 16) (List.replicate c _)).foldl stp (stp s ⟨b, 16, ⟨9, p, 0⟩⟩)).rt = _ ∧ ((ann (b + 16) (List.replicate c _)).foldl stp (stp s ⟨b, 16, ⟨9, p, 0⟩⟩)).T = _
    rw [e]
    obtain ⟨h1, h2, h3, h4, h5, h6⟩ := ih (b + 16) { s with T := upd s.T p (s.T p ++ [b / 16]), en := b + 16 } hr
    refine ⟨⟨h1.bar, h1.cl, h1.cs, h1.D, h1.ch⟩, h2, h3, h4, h5, ?_⟩
    rw [h6]
    funext i
    unfold upd
    by_cases q : i = p
    · simp only [q, if_true, List.append_assoc, List.range_succ_eq_map, List.map_cons, List.map_map]
      congr 1
      rw [List.singleton_append]
      congr 1
      · simp
      · apply List.map_congr_left
        intro k _
        simp only [Function.comp, Nat.succ_eq_add_one]
        omega
    · simp only [q, if_false]
theorem fold_tabsH {x : Cfg} (b : Int) (hb : 16 ≤ b) (s : Z9) (h0 : ∀ i, s.rt i = 0 ∧ s.T i = []) (j : Nat) (hj : j ≤ x.ps.length) : SameC s ((ann b (tabsH x j)).foldl stp s) ∧ ((ann b (tabsH x j)).foldl stp s).lo = s.lo ∧ ((ann b (tabsH x j)).foldl stp s).sa = s.sa ∧ ((ann b (tabsH x j)).foldl stp s).st = s.st ∧
    (∀ i, j ≤ i → ((ann b (tabsH x j)).foldl stp s).rt i = 0 ∧ ((ann b (tabsH x j)).foldl stp s).T i = []) ∧
    ∀ i, i < j → ∃ P, x.ps[i]? = some P ∧ ((ann b (tabsH x j)).foldl stp s).rt i = rtAt x b i / 16 ∧ ((ann b (tabsH x j)).foldl stp s).T i = tabL (rtAt x b i) (cntT P.rs 16) := by
  induction j with
  | zero => exact ⟨SameC.refl s, rfl, rfl, rfl, fun i _ => h0 i, fun i h => absurd h (by omega)⟩
  | succ j ih =>
    obtain ⟨h1, h2, h3, h4, h5, h6⟩ := ih (by omega)
    obtain ⟨P, hP⟩ : ∃ P, x.ps[j]? = some P := ⟨_, List.getElem?_eq_getElem (by omega)⟩
    rw [tabsH_succ hP, ann_append, List.foldl_append, szH_tabsH b j (by omega)]
    obtain ⟨r, hr⟩ : ∃ r, r = (ann b (tabsH x j)).foldl stp s := ⟨_, rfl⟩
    rw [← hr] at h1 h2 h3 h4 h5 h6 ⊢
    have hbd := rtAt_bd x b j
    obtain ⟨c, hc⟩ : ∃ c, c = cntT P.rs 16 := ⟨_, rfl⟩
    rw [← hc, Nat.add_comm 1 c, List.replicate_succ]
    have e : stp r ⟨rtAt x b j, 16, ⟨9, j, 0⟩⟩ = { r with rt := upd r.rt j (rtAt x b j / 16), en := rtAt x b j + 16 } := by simp [stp, (h5 j (Nat.le_refl _)).1]
    obtain ⟨r2, hr2⟩ : ∃ r2, r2 = { r with rt := upd r.rt j (rtAt x b j / 16), en := rtAt x b j + 16 } := ⟨_, rfl⟩
    have hne : r2.rt j ≠ 0 := by rw [hr2]; show upd r.rt j _ j ≠ 0; rw [upd_same]; omega
    show SameC s ((ann (rtAt x b j + 16) (List.replicate c _)).foldl stp (stp r ⟨rtAt x b j, 16, ⟨9, j, 0⟩⟩)) ∧ ((ann (rtAt x b j + 16) (List.replicate c _)).foldl stp (stp r ⟨rtAt x b j, 16, ⟨9, j, 0⟩⟩)).lo = _ ∧ ((ann (rtAt x b j + 16) (List.replicate c _)).foldl stp (stp r ⟨rtAt x b j, 16, ⟨9, j, 0⟩⟩)).sa = _ ∧ ((ann (rtAt x b j + 16) (List.replicate c _)).foldl stp (stp r ⟨rtAt x b j, 16, ⟨9, j, 0⟩⟩)).st = _ ∧
      (∀ i, j + 1 ≤ i → ((ann (rtAt x b j + 16) (List.replicate c _)).foldl stp (stp r ⟨rtAt x b j, 16, ⟨9, j, 0⟩⟩)).rt i = 0 ∧ ((ann (rtAt x b j + 16) (List.replicate c _)).foldl stp (stp r ⟨rtAt x b j, 16, ⟨9, j, 0⟩⟩)).T i = []) ∧
      ∀ i, i < j + 1 → ∃ P, x.ps[i]? = some P ∧ ((ann (rtAt x b j + 16) (List.replicate c _)).foldl stp (stp r ⟨rtAt x b j, 16, ⟨9, j, 0⟩⟩)).rt i = rtAt x b i / 16 ∧ ((ann (rtAt x b j + 16) (List.replicate c _)).foldl stp (stp r ⟨rtAt x b j, 16, ⟨9, j, 0⟩⟩)).T i = tabL (rtAt x b i) (cntT P.rs 16)
    rw [e, ← hr2]
    obtain ⟨g1, g2, g3, g4, g5, g6⟩ := fold_rep j c (rtAt x b j + 16) r2 hne
    obtain ⟨q, hq⟩ : ∃ q, q = (ann (rtAt x b j + 16) (List.replicate c ((⟨9, (j : Int), 0⟩ : Ow), (16 : Int)))).foldl stp r2 := ⟨_, rfl⟩
    rw [← hq] at g1 g2 g3 g4 g5 g6 ⊢
    have hC2 : SameC r r2 := by rw [hr2]; exact ⟨rfl, rfl, rfl, rfl, rfl⟩
    refine ⟨(h1.trans hC2).trans g1, by rw [g2, hr2]; exact h2, by rw [g3, hr2]; exact h3, by rw [g4, hr2]; exact h4, fun i hi => ?_, fun i hi => ?_⟩
    · rw [g5, g6, hr2]
      show upd r.rt j _ i = 0 ∧ upd r.T j _ i = []
      rw [upd_ne _ _ (by omega), upd_ne _ _ (by omega)]
      exact h5 i (by omega)
    · rw [g5, g6, hr2]
      show ∃ P, x.ps[i]? = some P ∧ upd r.rt j _ i = _ ∧ upd r.T j _ i = _
      by_cases k : i = j
      · subst k
        refine ⟨P, hP, upd_same _ _ _, ?_⟩
        rw [upd_same, (h5 i (Nat.le_refl _)).2, ← hc]
        unfold tabL
        rw [List.nil_append]
        apply List.map_congr_left
        intro m _
        omega
      · rw [upd_ne _ _ k, upd_ne _ _ k]
        exact h6 i (by omega)

/-- Behind all pieces. -/
theorem fold_all {x : Cfg} (hm : x.mayB = true) : ∃ r, (pcAll x (16 * x.kernel)).foldl stp (z9 (16 * x.kernel)) = r ∧ r.bar = 16 * x.kernel ∧
    (∀ i, i < x.ps.length → r.lo i = 16 * x.kernel + 2 + 24 * i ∧ r.sa i = 16 * x.kernel + 2 + 24 * i + 2 ∧ r.st i = 16 * x.kernel + 2 + 24 * i + 2 + 17 ∧ ∃ P, x.ps[i]? = some P ∧ r.rt i = rtAt x (rtB x (16 * x.kernel)) i / 16 ∧ r.T i = tabL (rtAt x (rtB x (16 * x.kernel)) i) (cntT P.rs 16)) ∧
    (∀ i, i < x.hs.length → ∃ h, x.hs[i]? = some h ∧ r.cl i = chAt x (chB x (16 * x.kernel)) i ∧ r.cs i = chAt x (chB x (16 * x.kernel)) i + 2 ∧ r.D i = placed (dstsOf x i) (chAt x (chB x (16 * x.kernel)) i + 2 + h.stg) h.prt (dstsOf x i).length) ∧
    (r.en + 15) / 16 = rtAt x (rtB x (16 * x.kernel)) x.ps.length / 16 := by
  obtain ⟨a, ha⟩ : ∃ a, 16 * x.kernel = a := ⟨_, rfl⟩
  have hk := Cfg.mayB_iff.1 hm
  rw [ha]
  have e0 : stp (z9 a) ⟨a, 2, ⟨2, 0, 0⟩⟩ = { z9 a with bar := a, en := a + 2 } := by simp [stp]
  obtain ⟨s1, hs1⟩ : ∃ s1, s1 = { z9 a with bar := a, en := a + 2 } := ⟨_, rfl⟩
  obtain ⟨p1, p2, p3, p4⟩ := fold_partH (a + 2) s1 x.ps.length
  obtain ⟨s2, hs2⟩ : ∃ s2, s2 = (ann (a + 2) (partH x.ps.length)).foldl stp s1 := ⟨_, rfl⟩
  have n2 := en_ann (partH x.ps.length) (a + 2) s1
  rw [← hs2] at p1 p2 p3 p4 n2
  obtain ⟨c1, c2, c3⟩ := fold_chansH (x := x) (chB x a) s2 (fun i => by rw [p1.D, hs1]; rfl) x.hs.length (Nat.le_refl _)
  obtain ⟨s3, hs3⟩ : ∃ s3, s3 = (ann (chB x a) (chansH x x.hs.length)).foldl stp s2 := ⟨_, rfl⟩
  have n3 := en_ann (chansH x x.hs.length) (chB x a) s2
  rw [← hs3] at c1 c2 c3 n3
  have hce := chAt_bd hm (chB x a) x.hs.length
  have hchB : chB x a = a + 2 + 24 * x.ps.length := rfl
  have hrt : rtB x a = chE x a + fillN (chE x a) := rfl
  have hchE : chE x a = chAt x (chB x a) x.hs.length := rfl
  have hfl : 0 ≤ fillN (chE x a) ∧ fillN (chE x a) ≤ 15 ∧ (chE x a + fillN (chE x a)) % 16 = 0 := by unfold fillN; split <;> omega
  have hb16 : 16 ≤ rtB x a := by omega
  obtain ⟨t1, t2, t3, t4, t5, t6⟩ := fold_tabsH (x := x) (rtB x a) hb16 s3 (fun i => by rw [c1.rt, c1.T, p2, p3, hs1]; exact ⟨rfl, rfl⟩) x.ps.length (Nat.le_refl _)
  obtain ⟨s4, hs4⟩ : ∃ s4, s4 = (ann (rtB x a) (tabsH x x.ps.length)).foldl stp s3 := ⟨_, rfl⟩
  have n4 := en_ann (tabsH x x.ps.length) (rtB x a) s3
  rw [← hs4] at t1 t2 t3 t4 t5 t6 n4
  refine ⟨s4, ?_, ?_, fun i hi => ?_, fun i hi => ?_, ?_⟩
  · unfold pcAll pcB pcA
    rw [List.foldl_append, List.foldl_append, List.foldl_cons, e0, ← hs1, ← hs2, ← hs3, ← hs4]
  · rw [t1.bar, c1.bar, p1.bar, hs1]
  · obtain ⟨q1, q2, q3⟩ := p4 i hi
    rw [t2, t3, t4, c1.lo, c1.sa, c1.st]
    exact ⟨q1, q2, q3, t6 i hi⟩
  · obtain ⟨h, g1, g2, g3, g4⟩ := c3 i hi
    rw [t1.cl, t1.cs, t1.D]
    exact ⟨h, g1, g2, g3, g4⟩
  · have htl := szH_tabsH (x := x) (rtB x a) x.ps.length (Nat.le_refl _)
    have hcl := szH_chansH (x := x) (chB x a) x.hs.length (Nat.le_refl _)
    have hra := rtAt_bd x (rtB x a) x.ps.length
    rw [szH_partH] at n2
    by_cases z : tabsH x x.ps.length = []
    · rw [if_pos z] at n4
      rw [z] at htl
      have z0 : szH ([] : List (Ow × Int)) = 0 := rfl
      rw [z0] at htl
      have n3' : s3.en = chE x a := by
        rw [n3]
        split
        · next zc =>
          rw [zc] at hcl
          rw [z0] at hcl
          rw [n2]
          split
          · next zp =>
            have : (partH x.ps.length).length = 0 := by rw [zp]; rfl
            have h3 : (ann (a + 2) (partH x.ps.length)).length = 0 := by rw [ann_length]; exact this
            have h4 := pcA_len a x.ps.length
            unfold pcA at h4
            rw [List.length_cons, h3] at h4
            rw [hs1]
            show a + 2 = _
            omega
          · omega
        · omega
      rw [n4, n3']
      omega
    · rw [if_neg z] at n4
      rw [n4, htl]
      have := hra.2.2 (by omega)
      omega

end Go.Proofs.Ythaoopaafdgioab
