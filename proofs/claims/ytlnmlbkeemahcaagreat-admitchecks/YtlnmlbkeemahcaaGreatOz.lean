import Derived.Test.YtlnmlbkeemahcaaGreatRs
import Derived.Test.YtlnmlbkeemahcaaGreatP
namespace Go.Proofs.YtlnmlbkeemahcaaGreat
open Go.RowKit
set_option linter.unusedVariables false
set_option linter.unusedSimpArgs false
structure Z9 where
 bar : Int
 lo : Nat → Int
 sa : Nat → Int
 st : Nat → Int
 rt : Nat → Int
 T : Nat → List Int
 cl : Nat → Int
 cs : Nat → Int
 D : Nat → List Dst
 ch : Nat
 en : Int
def z9 (a : Int) : Z9 := ⟨0, fun _ => 0, fun _ => 0, fun _ => 0, fun _ => 0, fun _ => [], fun _ => 0, fun _ => 0, fun _ => [], 0, a⟩
def stp (s : Z9) (p : Pc) : Z9 :=
 if p.ow.kind = 2 then { s with bar := p.pos, en := p.pos + p.size }
 else if p.ow.kind = 3 then { s with lo := upd s.lo p.ow.idx.toNat p.pos, en := p.pos + p.size }
 else if p.ow.kind = 4 then { s with sa := upd s.sa p.ow.idx.toNat p.pos, en := p.pos + p.size }
 else if p.ow.kind = 5 then { s with st := upd s.st p.ow.idx.toNat p.pos, en := p.pos + p.size }
 else if p.ow.kind = 6 then { s with cl := upd s.cl p.ow.idx.toNat p.pos, ch := p.ow.idx.toNat, en := p.pos + p.size }
 else if p.ow.kind = 7 then { s with cs := upd s.cs p.ow.idx.toNat p.pos, en := p.pos + p.size }
 else if p.ow.kind = 8 then { s with D := upd s.D s.ch (s.D s.ch ++ [⟨p.ow.idx, p.ow.port, p.pos⟩]), en := p.pos + p.size }
 else if p.ow.kind = 9 then
  if s.rt p.ow.idx.toNat = 0 then { s with rt := upd s.rt p.ow.idx.toNat (p.pos / 16), en := p.pos + p.size }
  else { s with T := upd s.T p.ow.idx.toNat (s.T p.ow.idx.toNat ++ [p.pos / 16]), en := p.pos + p.size }
 else { s with en := p.pos + p.size }
theorem stp_en (s : Z9) (p : Pc) : (stp s p).en = p.pos + p.size := by
 unfold stp
 repeat' split
 all_goals rfl
theorem en_ann (l : List (Ow × Int)) (a : Int) (s : Z9) : ((ann a l).foldl stp s).en = if l = [] then s.en else a + szH l := by
 induction l generalizing a s with
 | nil => rfl
 | cons p t ih =>
  obtain ⟨o, k⟩ := p
  show ((ann (a + k) t).foldl stp (stp s ⟨a, k, o⟩)).en = _
  rw [ih, stp_en]
  cases t with
  | nil => simp [szH]
  | cons q u => simp [szH]; omega
structure SameC (s r : Z9) : Prop where
 bar : r.bar = s.bar
 cl : r.cl = s.cl
 cs : r.cs = s.cs
 D : r.D = s.D
 ch : r.ch = s.ch
theorem SameC.refl (s : Z9) : SameC s s := ⟨rfl, rfl, rfl, rfl, rfl⟩
theorem SameC.trans {s r q : Z9} (h : SameC s r) (h2 : SameC r q) : SameC s q := ⟨h2.bar.trans h.bar, h2.cl.trans h.cl, h2.cs.trans h.cs, h2.D.trans h.D, h2.ch.trans h.ch⟩
theorem fold_partH (a : Int) (s : Z9) (j : Nat) : SameC s ((ann a (partH j)).foldl stp s) ∧ ((ann a (partH j)).foldl stp s).rt = s.rt ∧ ((ann a (partH j)).foldl stp s).T = s.T ∧
  ∀ i, i < j → ((ann a (partH j)).foldl stp s).lo i = a + 24 * i ∧ ((ann a (partH j)).foldl stp s).sa i = a + 24 * i + 2 ∧ ((ann a (partH j)).foldl stp s).st i = a + 24 * i + 2 + 17 := by
 induction j with
 | zero => exact ⟨SameC.refl s, rfl, rfl, fun i h => absurd h (by omega)⟩
 | succ j ih =>
  obtain ⟨h1, h2, h3, h4⟩ := ih
  rw [partH_succ, ann_append, List.foldl_append, szH_partH]
  obtain ⟨r, hr⟩ : ∃ r, r = (ann a (partH j)).foldl stp s := ⟨_, rfl⟩
  rw [← hr] at h1 h2 h3 h4 ⊢
  have e : (ann (a + 24 * (j : Int)) [(⟨3, j, 0⟩, 2), (⟨4, j, 0⟩, 17), (⟨5, j, 0⟩, 5)]).foldl stp r = { r with lo := upd r.lo j (a + 24 * j), sa := upd r.sa j (a + 24 * j + 2), st := upd r.st j (a + 24 * j + 2 + 17), en := a + 24 * j + 2 + 17 + 5 } := by
   simp [ann, stp]
  rw [e]
  refine ⟨⟨h1.bar, h1.cl, h1.cs, h1.D, h1.ch⟩, h2, h3, fun i hi => ?_⟩
  by_cases q : i = j
  ·
   subst q; simp [upd]
  ·
   obtain ⟨g1, g2, g3⟩ := h4 i (by omega)
   simp only [upd, q, if_false]
   exact ⟨g1, g2, g3⟩
structure SameP (s r : Z9) : Prop where
 bar : r.bar = s.bar
 lo : r.lo = s.lo
 sa : r.sa = s.sa
 st : r.st = s.st
 rt : r.rt = s.rt
 T : r.T = s.T
theorem SameP.refl (s : Z9) : SameP s s := ⟨rfl, rfl, rfl, rfl, rfl, rfl⟩
theorem fold_dests (D : List Dst) (b k : Int) (s : Z9) : SameP s ((ann b (destHl D k)).foldl stp s) ∧ ((ann b (destHl D k)).foldl stp s).cl = s.cl ∧ ((ann b (destHl D k)).foldl stp s).cs = s.cs ∧ ((ann b (destHl D k)).foldl stp s).ch = s.ch ∧
  ((ann b (destHl D k)).foldl stp s).D = upd s.D s.ch (s.D s.ch ++ D.mapIdx fun i d => ⟨d.p, d.q, b + i * k⟩) := by
 induction D generalizing b s with
 | nil =>
  refine ⟨SameP.refl s, rfl, rfl, rfl, ?_⟩
  funext i
  show s.D i = upd s.D s.ch (s.D s.ch ++ []) i
  unfold upd
  split
  ·
   next h => rw [h, List.append_nil]
  ·
   rfl
 | cons d t ih =>
  have e : stp s ⟨b, k, ⟨8, d.p, d.q⟩⟩ = { s with D := upd s.D s.ch (s.D s.ch ++ [⟨d.p, d.q, b⟩]), en := b + k } := by simp [stp]
  show SameP s ((ann (b + k) (destHl t k)).foldl stp (stp s ⟨b, k, ⟨8, d.p, d.q⟩⟩)) ∧ ((ann (b + k) (destHl t k)).foldl stp (stp s ⟨b, k, ⟨8, d.p, d.q⟩⟩)).cl = _ ∧ ((ann (b + k) (destHl t k)).foldl stp (stp s ⟨b, k, ⟨8, d.p, d.q⟩⟩)).cs = _ ∧ ((ann (b + k) (destHl t k)).foldl stp (stp s ⟨b, k, ⟨8, d.p, d.q⟩⟩)).ch = _ ∧ ((ann (b + k) (destHl t k)).foldl stp (stp s ⟨b, k, ⟨8, d.p, d.q⟩⟩)).D = _
  rw [e]
  obtain ⟨h1, h2, h3, h4, h5⟩ := ih (b + k) { s with D := upd s.D s.ch (s.D s.ch ++ [⟨d.p, d.q, b⟩]), en := b + k }
  refine ⟨⟨h1.bar, h1.lo, h1.sa, h1.st, h1.rt, h1.T⟩, h2, h3, h4, ?_⟩
  rw [h5]
  funext i
  unfold upd
  by_cases q : i = s.ch
  ·
   simp only [q, if_true, List.append_assoc, List.mapIdx_cons]
   congr 1
   rw [List.singleton_append]
   congr 1
   ·
    simp
   ·
    apply List.ext_getElem?
    intro m
    simp only [List.getElem?_mapIdx]
    cases t[m]? with
    | none => rfl
    | some y =>
     simp only [Option.map_some, Option.some.injEq, Dst.mk.injEq, true_and]
     have : ((m + 1 : Nat) : Int) = m + 1 := by omega
     rw [this, Int.add_mul]
     omega
  ·
   simp only [q, if_false]
theorem placed_all (D : List Dst) (b k : Int) : placed D b k D.length = D.mapIdx fun i d => ⟨d.p, d.q, b + i * k⟩ := by
 apply List.ext_getElem?
 intro m
 simp only [placed, List.getElem?_mapIdx]
 cases h : D[m]? with
 | none => rfl
 | some y => simp only [Option.map_some, (List.getElem?_eq_some_iff.1 h).1, if_true]
theorem fold_chansH {x : Cfg} (b : Int) (s : Z9) (hD : ∀ i, s.D i = []) (j : Nat) (hj : j ≤ x.hs.length) : SameP s ((ann b (chansH x j)).foldl stp s) ∧ (∀ i, j ≤ i → ((ann b (chansH x j)).foldl stp s).D i = []) ∧
  ∀ i, i < j → ∃ h, x.hs[i]? = some h ∧ ((ann b (chansH x j)).foldl stp s).cl i = chAt x b i ∧ ((ann b (chansH x j)).foldl stp s).cs i = chAt x b i + 2 ∧ ((ann b (chansH x j)).foldl stp s).D i = placed (dstsOf x i) (chAt x b i + 2 + h.stg) h.prt (dstsOf x i).length := by
 induction j with
 | zero => exact ⟨SameP.refl s, fun i _ => hD i, fun i h => absurd h (by omega)⟩
 | succ j ih =>
  obtain ⟨h1, h2, h3⟩ := ih (by omega)
  obtain ⟨h, hh⟩ : ∃ h, x.hs[j]? = some h := ⟨_, List.getElem?_eq_getElem (by omega)⟩
  rw [chansH_succ hh, ann_append, List.foldl_append, szH_chansH b j (by omega)]
  obtain ⟨r, hr⟩ : ∃ r, r = (ann b (chansH x j)).foldl stp s := ⟨_, rfl⟩
  rw [← hr] at h1 h2 h3 ⊢
  unfold chanH
  rw [destH_all, ann_append, List.foldl_append]
  have e : (ann (chAt x b j) [(⟨6, j, 0⟩, 2), (⟨7, j, 0⟩, h.stg)]).foldl stp r = { r with cl := upd r.cl j (chAt x b j), ch := j, cs := upd r.cs j (chAt x b j + 2), en := chAt x b j + 2 + h.stg } := by
   simp [ann, stp]
  rw [e, show szH [((⟨6, (j : Int), 0⟩ : Ow), (2 : Int)), (⟨7, j, 0⟩, h.stg)] = 2 + h.stg by simp [szH], show chAt x b j + (2 + h.stg) = chAt x b j + 2 + h.stg by omega]
  obtain ⟨g1, g2, g3, g4, g5⟩ := fold_dests (dstsOf x j) (chAt x b j + 2 + h.stg) h.prt { r with cl := upd r.cl j (chAt x b j), ch := j, cs := upd r.cs j (chAt x b j + 2), en := chAt x b j + 2 + h.stg }
  obtain ⟨q, hq⟩ : ∃ q, q = (ann (chAt x b j + 2 + h.stg) (destHl (dstsOf x j) h.prt)).foldl stp { r with cl := upd r.cl j (chAt x b j), ch := j, cs := upd r.cs j (chAt x b j + 2), en := chAt x b j + 2 + h.stg } := ⟨_, rfl⟩
  rw [← hq] at g1 g2 g3 g4 g5 ⊢
  refine ⟨⟨g1.bar.trans h1.bar, g1.lo.trans h1.lo, g1.sa.trans h1.sa, g1.st.trans h1.st, g1.rt.trans h1.rt, g1.T.trans h1.T⟩, fun i hi => ?_, fun i hi => ?_⟩
  ·
   rw [g5]
   show upd r.D j _ i = []
   rw [upd_ne _ _ (by omega)]
   exact h2 i (by omega)
  ·
   rw [g2, g3, g5]
   show ∃ h, x.hs[i]? = some h ∧ upd r.cl j _ i = _ ∧ upd r.cs j _ i = _ ∧ upd r.D j _ i = _
   by_cases k : i = j
   ·
    subst k
    refine ⟨h, hh, upd_same _ _ _, upd_same _ _ _, ?_⟩
    rw [upd_same, placed_all]
    show r.D i ++ _ = _
    rw [h2 i (Nat.le_refl _)]
    rfl
   ·
    rw [upd_ne _ _ k, upd_ne _ _ k, upd_ne _ _ k]
    exact h3 i (by omega)
theorem fold_rep (p c : Nat) (b : Int) (s : Z9) (hr : s.rt p ≠ 0) : SameC s ((ann b (List.replicate c ((⟨9, (p : Int), 0⟩ : Ow), (16 : Int)))).foldl stp s) ∧ ((ann b (List.replicate c ((⟨9, (p : Int), 0⟩ : Ow), (16 : Int)))).foldl stp s).lo = s.lo ∧ ((ann b (List.replicate c ((⟨9, (p : Int), 0⟩ : Ow), (16 : Int)))).foldl stp s).sa = s.sa ∧ ((ann b (List.replicate c ((⟨9, (p : Int), 0⟩ : Ow), (16 : Int)))).foldl stp s).st = s.st ∧
  ((ann b (List.replicate c ((⟨9, (p : Int), 0⟩ : Ow), (16 : Int)))).foldl stp s).rt = s.rt ∧ ((ann b (List.replicate c ((⟨9, (p : Int), 0⟩ : Ow), (16 : Int)))).foldl stp s).T = upd s.T p (s.T p ++ (List.range c).map fun (k : Nat) => b / 16 + (k : Int)) := by
 induction c generalizing b s with
 | zero =>
  refine ⟨SameC.refl s, rfl, rfl, rfl, rfl, ?_⟩
  funext i
  show s.T i = upd s.T p (s.T p ++ []) i
  unfold upd
  split
  ·
   next h => rw [h, List.append_nil]
  ·
   rfl
 | succ c ih =>
  have e : stp s ⟨b, 16, ⟨9, p, 0⟩⟩ = { s with T := upd s.T p (s.T p ++ [b / 16]), en := b + 16 } := by simp [stp, hr]
  rw [List.replicate_succ]
  show SameC s ((ann (b + 16) (List.replicate c _)).foldl stp (stp s ⟨b, 16, ⟨9, p, 0⟩⟩)) ∧ ((ann (b + 16) (List.replicate c _)).foldl stp (stp s ⟨b, 16, ⟨9, p, 0⟩⟩)).lo = _ ∧ ((ann (b + 16) (List.replicate c _)).foldl stp (stp s ⟨b, 16, ⟨9, p, 0⟩⟩)).sa = _ ∧ ((ann (b + 16) (List.replicate c _)).foldl stp (stp s ⟨b, 16, ⟨9, p, 0⟩⟩)).st = _ ∧ ((ann (b + 16) (List.replicate c _)).foldl stp (stp s ⟨b, 16, ⟨9, p, 0⟩⟩)).rt = _ ∧ ((ann (b + 16) (List.replicate c _)).foldl stp (stp s ⟨b, 16, ⟨9, p, 0⟩⟩)).T = _
  rw [e]
  obtain ⟨h1, h2, h3, h4, h5, h6⟩ := ih (b + 16) { s with T := upd s.T p (s.T p ++ [b / 16]), en := b + 16 } hr
  refine ⟨⟨h1.bar, h1.cl, h1.cs, h1.D, h1.ch⟩, h2, h3, h4, h5, ?_⟩
  rw [h6]
  funext i
  unfold upd
  by_cases q : i = p
  ·
   simp only [q, if_true, List.append_assoc, List.range_succ_eq_map, List.map_cons, List.map_map]
   congr 1
   rw [List.singleton_append]
   congr 1
   ·
    simp
   ·
    apply List.map_congr_left
    intro k _
    simp only [Function.comp, Nat.succ_eq_add_one]
    omega
  ·
   simp only [q, if_false]
theorem fold_tabsH {x : Cfg} (b : Int) (hb : 16 ≤ b) (s : Z9) (h0 : ∀ i, s.rt i = 0 ∧ s.T i = []) (j : Nat) (hj : j ≤ x.ps.length) : SameC s ((ann b (tabsH x j)).foldl stp s) ∧ ((ann b (tabsH x j)).foldl stp s).lo = s.lo ∧ ((ann b (tabsH x j)).foldl stp s).sa = s.sa ∧ ((ann b (tabsH x j)).foldl stp s).st = s.st ∧
  (∀ i, j ≤ i → ((ann b (tabsH x j)).foldl stp s).rt i = 0 ∧ ((ann b (tabsH x j)).foldl stp s).T i = []) ∧
  ∀ i, i < j → ∃ P, x.ps[i]? = some P ∧ ((ann b (tabsH x j)).foldl stp s).rt i = rtAt x b i / 16 ∧ ((ann b (tabsH x j)).foldl stp s).T i = tabL (rtAt x b i) (cntT P.rs 16) := by
 induction j with
 | zero => exact ⟨SameC.refl s, rfl, rfl, rfl, fun i _ => h0 i, fun i h => absurd h (by omega)⟩
 | succ j ih =>
  obtain ⟨h1, h2, h3, h4, h5, h6⟩ := ih (by omega)
  obtain ⟨P, hP⟩ : ∃ P, x.ps[j]? = some P := ⟨_, List.getElem?_eq_getElem (by omega)⟩
  rw [tabsH_succ hP, ann_append, List.foldl_append, szH_tabsH b j (by omega)]
  obtain ⟨r, hr⟩ : ∃ r, r = (ann b (tabsH x j)).foldl stp s := ⟨_, rfl⟩
  rw [← hr] at h1 h2 h3 h4 h5 h6 ⊢
  have hbd := rtAt_bd x b j
  obtain ⟨c, hc⟩ : ∃ c, c = cntT P.rs 16 := ⟨_, rfl⟩
  rw [← hc, Nat.add_comm 1 c, List.replicate_succ]
  have e : stp r ⟨rtAt x b j, 16, ⟨9, j, 0⟩⟩ = { r with rt := upd r.rt j (rtAt x b j / 16), en := rtAt x b j + 16 } := by simp [stp, (h5 j (Nat.le_refl _)).1]
  obtain ⟨r2, hr2⟩ : ∃ r2, r2 = { r with rt := upd r.rt j (rtAt x b j / 16), en := rtAt x b j + 16 } := ⟨_, rfl⟩
  have hne : r2.rt j ≠ 0 := by rw [hr2]; show upd r.rt j _ j ≠ 0; rw [upd_same]; omega
  show SameC s ((ann (rtAt x b j + 16) (List.replicate c _)).foldl stp (stp r ⟨rtAt x b j, 16, ⟨9, j, 0⟩⟩)) ∧ ((ann (rtAt x b j + 16) (List.replicate c _)).foldl stp (stp r ⟨rtAt x b j, 16, ⟨9, j, 0⟩⟩)).lo = _ ∧ ((ann (rtAt x b j + 16) (List.replicate c _)).foldl stp (stp r ⟨rtAt x b j, 16, ⟨9, j, 0⟩⟩)).sa = _ ∧ ((ann (rtAt x b j + 16) (List.replicate c _)).foldl stp (stp r ⟨rtAt x b j, 16, ⟨9, j, 0⟩⟩)).st = _ ∧
   (∀ i, j + 1 ≤ i → ((ann (rtAt x b j + 16) (List.replicate c _)).foldl stp (stp r ⟨rtAt x b j, 16, ⟨9, j, 0⟩⟩)).rt i = 0 ∧ ((ann (rtAt x b j + 16) (List.replicate c _)).foldl stp (stp r ⟨rtAt x b j, 16, ⟨9, j, 0⟩⟩)).T i = []) ∧
   ∀ i, i < j + 1 → ∃ P, x.ps[i]? = some P ∧ ((ann (rtAt x b j + 16) (List.replicate c _)).foldl stp (stp r ⟨rtAt x b j, 16, ⟨9, j, 0⟩⟩)).rt i = rtAt x b i / 16 ∧ ((ann (rtAt x b j + 16) (List.replicate c _)).foldl stp (stp r ⟨rtAt x b j, 16, ⟨9, j, 0⟩⟩)).T i = tabL (rtAt x b i) (cntT P.rs 16)
  rw [e, ← hr2]
  obtain ⟨g1, g2, g3, g4, g5, g6⟩ := fold_rep j c (rtAt x b j + 16) r2 hne
  obtain ⟨q, hq⟩ : ∃ q, q = (ann (rtAt x b j + 16) (List.replicate c ((⟨9, (j : Int), 0⟩ : Ow), (16 : Int)))).foldl stp r2 := ⟨_, rfl⟩
  rw [← hq] at g1 g2 g3 g4 g5 g6 ⊢
  have hC2 : SameC r r2 := by rw [hr2]; exact ⟨rfl, rfl, rfl, rfl, rfl⟩
  refine ⟨(h1.trans hC2).trans g1, by rw [g2, hr2]; exact h2, by rw [g3, hr2]; exact h3, by rw [g4, hr2]; exact h4, fun i hi => ?_, fun i hi => ?_⟩
  ·
   rw [g5, g6, hr2]
   show upd r.rt j _ i = 0 ∧ upd r.T j _ i = []
   rw [upd_ne _ _ (by omega), upd_ne _ _ (by omega)]
   exact h5 i (by omega)
  ·
   rw [g5, g6, hr2]
   show ∃ P, x.ps[i]? = some P ∧ upd r.rt j _ i = _ ∧ upd r.T j _ i = _
   by_cases k : i = j
   ·
    subst k
    refine ⟨P, hP, upd_same _ _ _, ?_⟩
    rw [upd_same, (h5 i (Nat.le_refl _)).2, ← hc]
    unfold tabL
    rw [List.nil_append]
    apply List.map_congr_left
    intro m _
    omega
   ·
    rw [upd_ne _ _ k, upd_ne _ _ k]
    exact h6 i (by omega)
theorem fold_all {x : Cfg} (hm : x.mayB = true) : ∃ r, (pcAll x (16 * x.kernel)).foldl stp (z9 (16 * x.kernel)) = r ∧ r.bar = 16 * x.kernel ∧
  (∀ i, i < x.ps.length → r.lo i = 16 * x.kernel + 2 + 24 * i ∧ r.sa i = 16 * x.kernel + 2 + 24 * i + 2 ∧ r.st i = 16 * x.kernel + 2 + 24 * i + 2 + 17 ∧ ∃ P, x.ps[i]? = some P ∧ r.rt i = rtAt x (rtB x (16 * x.kernel)) i / 16 ∧ r.T i = tabL (rtAt x (rtB x (16 * x.kernel)) i) (cntT P.rs 16)) ∧
  (∀ i, i < x.hs.length → ∃ h, x.hs[i]? = some h ∧ r.cl i = chAt x (chB x (16 * x.kernel)) i ∧ r.cs i = chAt x (chB x (16 * x.kernel)) i + 2 ∧ r.D i = placed (dstsOf x i) (chAt x (chB x (16 * x.kernel)) i + 2 + h.stg) h.prt (dstsOf x i).length) ∧
  (r.en + 15) / 16 = rtAt x (rtB x (16 * x.kernel)) x.ps.length / 16 := by
 obtain ⟨a, ha⟩ : ∃ a, 16 * x.kernel = a := ⟨_, rfl⟩
 have hk := Cfg.mayB_iff.1 hm
 rw [ha]
 have e0 : stp (z9 a) ⟨a, 2, ⟨2, 0, 0⟩⟩ = { z9 a with bar := a, en := a + 2 } := by simp [stp]
 obtain ⟨s1, hs1⟩ : ∃ s1, s1 = { z9 a with bar := a, en := a + 2 } := ⟨_, rfl⟩
 obtain ⟨p1, p2, p3, p4⟩ := fold_partH (a + 2) s1 x.ps.length
 obtain ⟨s2, hs2⟩ : ∃ s2, s2 = (ann (a + 2) (partH x.ps.length)).foldl stp s1 := ⟨_, rfl⟩
 have n2 := en_ann (partH x.ps.length) (a + 2) s1
 rw [← hs2] at p1 p2 p3 p4 n2
 obtain ⟨c1, c2, c3⟩ := fold_chansH (x := x) (chB x a) s2 (fun i => by rw [p1.D, hs1]; rfl) x.hs.length (Nat.le_refl _)
 obtain ⟨s3, hs3⟩ : ∃ s3, s3 = (ann (chB x a) (chansH x x.hs.length)).foldl stp s2 := ⟨_, rfl⟩
 have n3 := en_ann (chansH x x.hs.length) (chB x a) s2
 rw [← hs3] at c1 c2 c3 n3
 have hce := chAt_bd hm (chB x a) x.hs.length
 have hchB : chB x a = a + 2 + 24 * x.ps.length := rfl
 have hrt : rtB x a = chE x a + fillN (chE x a) := rfl
 have hchE : chE x a = chAt x (chB x a) x.hs.length := rfl
 have hfl : 0 ≤ fillN (chE x a) ∧ fillN (chE x a) ≤ 15 ∧ (chE x a + fillN (chE x a)) % 16 = 0 := by unfold fillN; split <;> omega
 have hb16 : 16 ≤ rtB x a := by omega
 obtain ⟨t1, t2, t3, t4, t5, t6⟩ := fold_tabsH (x := x) (rtB x a) hb16 s3 (fun i => by rw [c1.rt, c1.T, p2, p3, hs1]; exact ⟨rfl, rfl⟩) x.ps.length (Nat.le_refl _)
 obtain ⟨s4, hs4⟩ : ∃ s4, s4 = (ann (rtB x a) (tabsH x x.ps.length)).foldl stp s3 := ⟨_, rfl⟩
 have n4 := en_ann (tabsH x x.ps.length) (rtB x a) s3
 rw [← hs4] at t1 t2 t3 t4 t5 t6 n4
 refine ⟨s4, ?_, ?_, fun i hi => ?_, fun i hi => ?_, ?_⟩
 ·
  unfold pcAll pcB pcA
  rw [List.foldl_append, List.foldl_append, List.foldl_cons, e0, ← hs1, ← hs2, ← hs3, ← hs4]
 ·
  rw [t1.bar, c1.bar, p1.bar, hs1]
 ·
  obtain ⟨q1, q2, q3⟩ := p4 i hi
  rw [t2, t3, t4, c1.lo, c1.sa, c1.st]
  exact ⟨q1, q2, q3, t6 i hi⟩
 ·
  obtain ⟨h, g1, g2, g3, g4⟩ := c3 i hi
  rw [t1.cl, t1.cs, t1.D]
  exact ⟨h, g1, g2, g3, g4⟩
 ·
  have htl := szH_tabsH (x := x) (rtB x a) x.ps.length (Nat.le_refl _)
  have hcl := szH_chansH (x := x) (chB x a) x.hs.length (Nat.le_refl _)
  have hra := rtAt_bd x (rtB x a) x.ps.length
  rw [szH_partH] at n2
  by_cases z : tabsH x x.ps.length = []
  ·
   rw [if_pos z] at n4
   rw [z] at htl
   have z0 : szH ([] : List (Ow × Int)) = 0 := rfl
   rw [z0] at htl
   have n3' : s3.en = chE x a := by
    rw [n3]
    split
    ·
     next zc =>
     rw [zc] at hcl
     rw [z0] at hcl
     rw [n2]
     split
     ·
      next zp =>
      have : (partH x.ps.length).length = 0 := by rw [zp]; rfl
      have h3 : (ann (a + 2) (partH x.ps.length)).length = 0 := by rw [ann_length]; exact this
      have h4 := pcA_len a x.ps.length
      unfold pcA at h4
      rw [List.length_cons, h3] at h4
      rw [hs1]
      show a + 2 = _
      omega
     ·
      omega
    ·
     omega
   rw [n4, n3']
   omega
  ·
   rw [if_neg z] at n4
   rw [n4, htl]
   have := hra.2.2 (by omega)
   omega
set_option maxRecDepth 6000
theorem Row.blk {α : Type} {E : Elem α} {w : World} {lo : Nat} {u : Value} {xs : List α} (h : Row E w lo u xs) (k : Nat) (e : u.ownBlock = some k) : ∃ cur fr, w.heap[k]? = some (.cells cur E.ety fr) := by
 rcases h.own.2 with ⟨h2, _⟩ | ⟨gg, cap, cur, h2, _, h3, _⟩
 ·
  rw [h2] at e; cases e
 ·
  rw [h2] at e; cases e; exact ⟨_, _, h3⟩
theorem Row.ne {α β : Type} {E : Elem α} {E2 : Elem β} {w : World} {lo lo2 : Nat} {u v : Value} {xs : List α} {ys : List β} (h : Row E w lo u xs) (h2 : Row E2 w lo2 v ys) (ht : E.ety ≠ E2.ety) (k : Nat) (e1 : u.ownBlock = some k) : v.ownBlock ≠ some k := fun e2 => by
 obtain ⟨c1, f1, q1⟩ := h.blk k e1
 obtain ⟨c2, f2, q2⟩ := h2.blk k e2
 rw [q1] at q2
 simp only [Option.some.injEq, Obj.cells.injEq] at q2
 exact ht q2.2.1
theorem row_app2 {α : Type} {E : Elem α} {w : World} {lo : Nat} {u : Value} {l : List α} {x : α} (t : TypeId) (i : TypeInfo) (z : Value) (bytes : Nat) (ht : Tryz.prog.underlying t = some (.slice E.ety)) (hi : Tryz.prog.info? E.ety = some i) (hz : i.zero = some z)
  (hs : i.size = E.k) (hb : i.bytes = bytes) (hzs : z.cells.size = E.k) (hby : bytes ≤ 1000) (hRow : Row E w lo u l) (hok : E.Ok w x) (hbl : ∀ k ∈ E.bl x, lo ≤ k ∧ k < w.heap.size ∧ u.ownBlock ≠ some k) (hlo : lo ≤ w.heap.size) (h1 : ∀ v ∈ E.vs x, v.oneCell' = true) (hl : l.length < 1000000) :
  ∃ v' W', (∀ ty, (Builtin.append_ #[t, t] ty #[u, .slice (some ⟨w.heap.size, 0, none⟩) 1 1]).run Tryz.prog (w.alloc (.cells (E.vs x).toArray E.ety)) = .ok v' W') ∧ Row E W' lo v' (l ++ [x]) ∧ Keeps (fun k => some k = u.ownBlock) w W' ∧ (v'.ownBlock = u.ownBlock ∨ ∃ k, v'.ownBlock = some k ∧ w.heap.size ≤ k) := by
 have hmul : (l.length + 1) * bytes ≤ 1000000 * 1000 := Nat.mul_le_mul (by omega) hby
 obtain ⟨v', W', happ, hown', hfr', hKa⟩ := append_new t E.ety i z E.k bytes ht hi hz hs hb hzs E.pos u l.length (l.flatMap E.vs) hRow.own (E.vs x).toArray (by simp [E.len]) (by simpa using h1) (by unfold maxLen; omega) (by omega)
 exact ⟨v', W', happ, hRow.push hok hbl hlo hown' hfr' hKa, hKa, hfr'⟩
theorem int_app2 {w : World} {lo : Nat} {u : Value} {l : List Int} (n : Int) (hRow : Row eInt w lo u l) (hlo : lo ≤ w.heap.size) (hl : l.length < 1000000) :
  ∃ v' W', (∀ ty, (Builtin.append_ #[114, 114] ty #[u, .slice (some ⟨w.heap.size, 0, none⟩) 1 1]).run Tryz.prog (w.alloc (.cells #[.int .i64 n] 3)) = .ok v' W') ∧ Row eInt W' lo v' (l ++ [n]) ∧ Keeps (fun k => some k = u.ownBlock) w W' ∧ (v'.ownBlock = u.ownBlock ∨ ∃ k, v'.ownBlock = some k ∧ w.heap.size ≤ k) := by
 obtain ⟨i0, hi, hz0, hz1, hz2⟩ := info_parts Tryz.info3
 exact row_app2 (E := eInt) (x := n) 114 i0 _ 8 Tryz.underlying114 hi hz0 hz1 hz2 rfl (by omega) hRow trivial (fun k hk => by cases hk) hlo (fun v hv => by simp only [eInt, List.mem_cons, List.not_mem_nil, or_false] at hv; subst hv; rfl) hl
theorem dst_app2 {w : World} {lo : Nat} {u : Value} {l : List Dst} (n : Dst) (hRow : Row eDst w lo u l) (hlo : lo ≤ w.heap.size) (hl : l.length < 1000000) :
  ∃ v' W', (∀ ty, (Builtin.append_ #[105, 105] ty #[u, .slice (some ⟨w.heap.size, 0, none⟩) 1 1]).run Tryz.prog (w.alloc (.cells n.vs.toArray 118)) = .ok v' W') ∧ Row eDst W' lo v' (l ++ [n]) ∧ Keeps (fun k => some k = u.ownBlock) w W' ∧ (v'.ownBlock = u.ownBlock ∨ ∃ k, v'.ownBlock = some k ∧ w.heap.size ≤ k) := by
 obtain ⟨i0, hi, hz0, hz1, hz2⟩ := info_parts Tryz.info118
 exact row_app2 (E := eDst) (x := n) 105 i0 _ 24 Tryz.underlying105 hi hz0 hz1 hz2 rfl (by omega) hRow trivial (fun k hk => by cases hk) hlo (fun v hv => by simp only [eDst, List.mem_cons, List.not_mem_nil, or_false] at hv; rcases hv with rfl | rfl | rfl <;> rfl) hl
structure LX (w : World) (x : Cfg) (C N b1 b2 b5 : Nat) (SP SQ : Nat → Int) (s : Z9) (F : Nat → PP) (G : Nat → CP) (w' : World) : Prop where
 li : LI w x C N (fun _ => False) s.bar b1 b2 b5 F G s.T s.D w'
 fp : ∀ i, (F i).lock = s.lo i ∧ (F i).save = s.sa i ∧ (F i).state = s.st i ∧ (F i).root = s.rt i
 gp : ∀ i, (G i).lock = s.cl i ∧ (G i).stage = s.cs i
 sp : ∀ i, (G i).sp = SP i ∧ (G i).sq = SQ i
 pw : ∀ i j, i < x.ps.length → j < x.ps.length → i ≠ j → ∀ k, (F i).tv.ownBlock = some k → (F j).tv.ownBlock ≠ some k
 cw : ∀ i j, i < x.hs.length → j < x.hs.length → i ≠ j → ∀ k, (G i).dv.ownBlock = some k → (G j).dv.ownBlock ≠ some k
section
variable {w w' w'' : World} {x : Cfg} {C N b1 b2 b5 : Nat} {SP SQ : Nat → Int} {s : Z9} {F : Nat → PP} {G : Nat → CP} {a : Int} {T : Nat → List Int} {D : Nat → List Dst} {S : Nat → Prop}
theorem LI.setB (h : LI w x C N S a b1 b2 b5 F G T D w') (z : Int) : LI w x C N S z b1 b2 b5 F G T D (w'.setCell ⟨b5, 0, none⟩ (.int .i64 z)) := by
 have hK : Keeps (fun k => k = b5) w' (w'.setCell ⟨b5, 0, none⟩ (.int .i64 z)) := (Keeps.refl _ _).setCell _ _ fun _ => rfl
 obtain ⟨h1, h2, h3, h4, h5, h6, h7⟩ := h.wr (.inr (.inr rfl)) hK
 have hne := h.ne
 exact ⟨h1, h2, h3, h4, h.cw, h.n, h.low, h5, h.l.setCell 0 _, h.p.kept hK (fun e => hne.2.1 e.symm), h.c.kept hK (fun e => hne.2.2 e.symm), h.lo, h.ne, fun i hi => ⟨h6 i hi, (h.tr i hi).2⟩, fun i hi => ⟨h7 i hi, (h.dr i hi).2⟩⟩
theorem LI.setP (h : LI w x C N S a b1 b2 b5 F G T D w') {j k : Nat} (hj : j < x.ps.length) (hk : k < 5) (z : Int) (v : PP) (hv : (F j).vs.set k (.int .i64 z) = v.vs) (ht : v.tv = (F j).tv) : LI w x C N S a b1 b2 b5 (upd F j v) G T D (w'.setCell ⟨b1, j * 5 + k, none⟩ (.int .i64 z)) := by
 have hK : Keeps (fun k => k = b1) w' (w'.setCell ⟨b1, j * 5 + k, none⟩ (.int .i64 z)) := (Keeps.refl _ _).setCell _ _ fun _ => rfl
 have hB := h.p.setCell (j * 5 + k) (.int .i64 z)
 rw [row5_set (F := fun i => (F i).vs) (fun i => PP.vs5 _) hj hk] at hB
 have hB2 : Blk (w'.setCell ⟨b1, j * 5 + k, none⟩ (.int .i64 z)) b1 (row5 (upd (fun i => (F i).vs) j v.vs) x.ps.length) 116 := by rw [← hv]; exact hB
 have := h.putP hj v (T j) hK hB2 (by rw [ht]; exact (h.tr j hj).1.own_kept eInt_bl hK fun k hk e => ((h.tr j hj).2 k hk).1 e) (by rw [ht]; exact (h.tr j hj).2)
 rwa [show upd T j (T j) = T from by funext i; unfold upd; split <;> simp_all] at this
theorem LI.setC (h : LI w x C N S a b1 b2 b5 F G T D w') {j k : Nat} (hj : j < x.hs.length) (hk : k < 5) (z : Int) (v : CP) (hv : (G j).vs.set k (.int .i64 z) = v.vs) (ht : v.dv = (G j).dv) : LI w x C N S a b1 b2 b5 F (upd G j v) T D (w'.setCell ⟨b2, j * 5 + k, none⟩ (.int .i64 z)) := by
 have hK : Keeps (fun k => k = b2) w' (w'.setCell ⟨b2, j * 5 + k, none⟩ (.int .i64 z)) := (Keeps.refl _ _).setCell _ _ fun _ => rfl
 have hB := h.c.setCell (j * 5 + k) (.int .i64 z)
 rw [row5_set (F := fun i => (G i).vs) (fun i => CP.vs5 _) hj hk] at hB
 have hB2 : Blk (w'.setCell ⟨b2, j * 5 + k, none⟩ (.int .i64 z)) b2 (row5 (upd (fun i => (G i).vs) j v.vs) x.hs.length) 107 := by rw [← hv]; exact hB
 have := h.putC hj v (D j) hK hB2 (by rw [ht]; exact (h.dr j hj).1.own_kept eDst_bl hK fun k hk e => ((h.dr j hj).2 k hk).2.1 e) (by rw [ht]; exact (h.dr j hj).2)
 rwa [show upd D j (D j) = D from by funext i; unfold upd; split <;> simp_all] at this
theorem own_upd {f : Nat → PP} {j : Nat} {v : PP} (ht : v.tv = (f j).tv) (i : Nat) : (upd f j v i).tv = (f i).tv := by
 unfold upd; split
 ·
  next e => rw [e, ht]
 ·
  rfl
theorem own_updC {f : Nat → CP} {j : Nat} {v : CP} (ht : v.dv = (f j).dv) (i : Nat) : (upd f j v i).dv = (f i).dv := by
 unfold upd; split
 ·
  next e => rw [e, ht]
 ·
  rfl
theorem LX.grow (h : LX w x C N b1 b2 b5 SP SQ s F G w') (hK : KF w' w'') : LX w x C N b1 b2 b5 SP SQ s F G w'' := ⟨h.li.grow hK, h.fp, h.gp, h.sp, h.pw, h.cw⟩
theorem LX.en (h : LX w x C N b1 b2 b5 SP SQ s F G w') (z : Int) (c : Nat) : LX w x C N b1 b2 b5 SP SQ { s with en := z, ch := c } F G w' := ⟨h.li, h.fp, h.gp, h.sp, h.pw, h.cw⟩
theorem LX.setB (h : LX w x C N b1 b2 b5 SP SQ s F G w') (z : Int) : LX w x C N b1 b2 b5 SP SQ { s with bar := z } F G (w'.setCell ⟨b5, 0, none⟩ (.int .i64 z)) := ⟨h.li.setB z, h.fp, h.gp, h.sp, h.pw, h.cw⟩
theorem LX.setP (h : LX w x C N b1 b2 b5 SP SQ s F G w') {j k : Nat} (hj : j < x.ps.length) (hk : k < 5) (z : Int) (v : PP) (hv : (F j).vs.set k (.int .i64 z) = v.vs) (ht : v.tv = (F j).tv) (r : Z9) (hr : r.bar = s.bar ∧ r.T = s.T ∧ r.D = s.D ∧ r.cl = s.cl ∧ r.cs = s.cs)
  (hf : ∀ i, (upd F j v i).lock = r.lo i ∧ (upd F j v i).save = r.sa i ∧ (upd F j v i).state = r.st i ∧ (upd F j v i).root = r.rt i) : LX w x C N b1 b2 b5 SP SQ r (upd F j v) G (w'.setCell ⟨b1, j * 5 + k, none⟩ (.int .i64 z)) := by
 obtain ⟨r1, r2, r3, r4, r5⟩ := hr
 refine ⟨?_, hf, fun i => by rw [r4, r5]; exact h.gp i, h.sp, fun i m hi hm hne b hb => ?_, h.cw⟩
 ·
  rw [r1, r2, r3]; exact h.li.setP hj hk z v hv ht
 ·
  rw [own_upd ht] at hb ⊢
  exact h.pw i m hi hm hne b hb
theorem LX.setC (h : LX w x C N b1 b2 b5 SP SQ s F G w') {j k : Nat} (hj : j < x.hs.length) (hk : k < 5) (z : Int) (v : CP) (hv : (G j).vs.set k (.int .i64 z) = v.vs) (ht : v.dv = (G j).dv) (r : Z9) (hr : r.bar = s.bar ∧ r.T = s.T ∧ r.D = s.D ∧ r.lo = s.lo ∧ r.sa = s.sa ∧ r.st = s.st ∧ r.rt = s.rt) (SP' SQ' : Nat → Int)
  (hf : ∀ i, (upd G j v i).lock = r.cl i ∧ (upd G j v i).stage = r.cs i) (hs : ∀ i, (upd G j v i).sp = SP' i ∧ (upd G j v i).sq = SQ' i) : LX w x C N b1 b2 b5 SP' SQ' r F (upd G j v) (w'.setCell ⟨b2, j * 5 + k, none⟩ (.int .i64 z)) := by
 obtain ⟨r1, r2, r3, r4, r5, r6, r7⟩ := hr
 refine ⟨?_, fun i => by rw [r4, r5, r6, r7]; exact h.fp i, hf, hs, h.pw, fun i m hi hm hne b hb => ?_⟩
 ·
  rw [r1, r2, r3]; exact h.li.setC hj hk z v hv ht
 ·
  rw [own_updC ht] at hb ⊢
  exact h.cw i m hi hm hne b hb
theorem LX.appD (h : LX w x C N b1 b2 b5 SP SQ s F G w') {j : Nat} (hj : j < x.hs.length) (d : Dst) (hl : (s.D j).length < 1000000) :
  ∃ v' W', (∀ ty, (Builtin.append_ #[105, 105] ty #[(G j).dv, .slice (some ⟨w'.heap.size, 0, none⟩) 1 1]).run Tryz.prog (w'.alloc (.cells d.vs.toArray 118)) = .ok v' W') ∧ Keeps (fun k => some k = (G j).dv.ownBlock) w' W' ∧ (∃ ad cp, v' = .slice ad ((s.D j).length + 1) cp) ∧
   W'.cell? ⟨b2, j * 5 + 4, none⟩ = some (G j).dv ∧ W'.frozen? ⟨b2, j * 5 + 4, none⟩ = false ∧
   LX w x C N b1 b2 b5 SP SQ { s with D := upd s.D j (s.D j ++ [d]) } F (upd G j { G j with dv := v' }) (W'.setCell ⟨b2, j * 5 + 4, none⟩ v') := by
 have hdr := h.li.dr j hj
 have hsz := h.li.sz
 obtain ⟨v', W', r1, r2, r3, r4⟩ := dst_app2 d hdr.1 hsz hl
 obtain ⟨ad, cp, hv, _⟩ := r2.lst
 rw [List.length_append] at hv
 have hlo : ∀ k, some k = (G j).dv.ownBlock → C + 2 ≤ k := fun k e => hdr.1.low k e.symm
 have hnb : ∀ k, some k = (G j).dv.ownBlock → k ≠ b1 ∧ k ≠ b2 ∧ k ≠ b5 := fun k e => hdr.2 k e.symm
 have hcw := h.li.cw
 have hn := h.li.n
 have hlb := h.li.lo
 have hne := h.li.ne
 have hc3 := h.li.c.kept r3 fun e => (hnb _ e).2.1 rfl
 have ks : Keeps (fun k => k = b2) W' (W'.setCell ⟨b2, j * 5 + 4, none⟩ v') := (Keeps.refl _ _).setCell _ _ fun _ => rfl
 have hK : Keeps (fun k => some k = (G j).dv.ownBlock ∨ k = b2) w' (W'.setCell ⟨b2, j * 5 + 4, none⟩ v') := (r3.mono fun _ _ e => .inl e).trans (ks.mono fun _ _ e => .inr e) fun _ _ e => e
 have hlow : ∀ k, (some k = (G j).dv.ownBlock ∨ k = b2) → C + 2 ≤ k := fun k e => by
  rcases e with e | e
  ·
   exact hlo k e
  ·
   omega
 have hb2lt := h.li.c.lt
 refine ⟨v', W', r1, r3, ⟨ad, cp, hv⟩, hc3.cell (by rw [row5_get (fun i => CP.vs5 _) hj (by omega)]; rfl), hc3.frozen _, ?_⟩
 have hvb : ∀ k, v'.ownBlock = some k → k ≠ b1 ∧ k ≠ b2 ∧ k ≠ b5 := fun k e => by
  rcases r4 with r4 | ⟨m, r4, r5⟩
  ·
   exact hnb k (by rw [← r4, e])
  ·
   rw [r4] at e; cases e
   have q1 := h.li.p.lt
   have q3 := h.li.l.lt
   omega
 refine ⟨⟨h.li.cfg.kept hK fun e => by have := hlow _ e; omega, h.li.res.kept hK fun e => by have := hlow _ e; omega, h.li.kp.trans hK fun k hk e => by have := hlow _ e; omega, h.li.cin.below (hK.below (by omega) fun k e => by have := hlow _ e; omega), h.li.cw, h.li.n, h.li.low, Nat.le_trans hsz hK.size,
  h.li.l.kept hK fun e => ?_, h.li.p.kept hK fun e => ?_, ?_, h.li.lo, h.li.ne, fun i hi => ⟨?_, (h.li.tr i hi).2⟩, fun i hi => ?_⟩, h.fp, fun i => ?_, fun i => ?_, h.pw, fun i m hi hm hne b hb => ?_⟩
 ·
  rcases e with e | e
  ·
   exact (hnb _ e).2.2 rfl
  ·
   exact hne.2.2 e
 ·
  rcases e with e | e
  ·
   exact (hnb _ e).1 rfl
  ·
   exact hne.1 e
 ·
  have hB := hc3.setCell (j * 5 + 4) v'
  rw [row5_set (F := fun i => (G i).vs) (fun i => CP.vs5 _) hj (by omega)] at hB
  rw [upd_vsC]
  exact hB
 ·
  refine (h.li.tr i hi).1.own_kept eInt_bl hK fun k hk e => ?_
  rcases e with e | e
  ·
   exact Row.ne (h.li.tr i hi).1 hdr.1 (by decide) k hk e.symm
  ·
   exact ((h.li.tr i hi).2 k hk).2.1 e
 ·
  show Row eDst _ (C + 2) (upd G j { G j with dv := v' } i).dv (upd s.D j (s.D j ++ [d]) i) ∧ ∀ k, (upd G j { G j with dv := v' } i).dv.ownBlock = some k → _
  by_cases e : i = j
  ·
   subst e
   rw [upd_same, upd_same]
   exact ⟨r2.own_kept eDst_bl ks fun k hk e => (hvb k hk).2.1 e, hvb⟩
  ·
   rw [upd_ne _ _ e, upd_ne _ _ e]
   refine ⟨(h.li.dr i hi).1.own_kept eDst_bl hK fun k hk e2 => ?_, (h.li.dr i hi).2⟩
   rcases e2 with e2 | e2
   ·
    exact h.cw i j hi hj e k hk e2.symm
   ·
    exact ((h.li.dr i hi).2 k hk).2.1 e2
 ·
  have := h.gp i
  unfold upd
  split
  ·
   next e => subst e; exact this
  ·
   exact this
 ·
  have := h.sp i
  unfold upd
  split
  ·
   next e => subst e; exact this
  ·
   exact this
 ·
  by_cases e1 : i = j
  ·
   subst e1
   rw [upd_same] at hb
   rw [upd_ne _ _ (fun e => hne e.symm)]
   rcases r4 with r4 | ⟨k, r4, r5⟩
   ·
    exact h.cw i m hi hm hne b (by rw [← r4]; exact hb)
   ·
    intro hb2
    rw [r4] at hb; cases hb
    have := (h.li.dr m hm).1.lt b hb2
    omega
  ·
   rw [upd_ne _ _ e1] at hb
   by_cases e2 : m = j
   ·
    subst e2
    rw [upd_same]
    rcases r4 with r4 | ⟨k, r4, r5⟩
    ·
     rw [r4]; exact h.cw i m hi hm hne b hb
    ·
     intro hb2
     rw [r4] at hb2; cases hb2
     have := (h.li.dr i hi).1.lt b hb
     omega
   ·
    rw [upd_ne _ _ e2]
    exact h.cw i m hi hm hne b hb
theorem LX.appT (h : LX w x C N b1 b2 b5 SP SQ s F G w') {j : Nat} (hj : j < x.ps.length) (d : Int) (hl : (s.T j).length < 1000000) :
  ∃ v' W', (∀ ty, (Builtin.append_ #[114, 114] ty #[(F j).tv, .slice (some ⟨w'.heap.size, 0, none⟩) 1 1]).run Tryz.prog (w'.alloc (.cells #[.int .i64 d] 3)) = .ok v' W') ∧ Keeps (fun k => some k = (F j).tv.ownBlock) w' W' ∧ (∃ ad cp, v' = .slice ad ((s.T j).length + 1) cp) ∧
   W'.cell? ⟨b1, j * 5 + 4, none⟩ = some (F j).tv ∧ W'.frozen? ⟨b1, j * 5 + 4, none⟩ = false ∧
   LX w x C N b1 b2 b5 SP SQ { s with T := upd s.T j (s.T j ++ [d]) } (upd F j { F j with tv := v' }) G (W'.setCell ⟨b1, j * 5 + 4, none⟩ v') := by
 have hdr := h.li.tr j hj
 have hsz := h.li.sz
 obtain ⟨v', W', r1, r2, r3, r4⟩ := int_app2 d hdr.1 hsz hl
 obtain ⟨ad, cp, hv, _⟩ := r2.lst
 rw [List.length_append] at hv
 have hlo : ∀ k, some k = (F j).tv.ownBlock → C + 2 ≤ k := fun k e => hdr.1.low k e.symm
 have hnb : ∀ k, some k = (F j).tv.ownBlock → k ≠ b1 ∧ k ≠ b2 ∧ k ≠ b5 := fun k e => hdr.2 k e.symm
 have hcw := h.li.cw
 have hn := h.li.n
 have hlb := h.li.lo
 have hne := h.li.ne
 have hc3 := h.li.p.kept r3 fun e => (hnb _ e).1 rfl
 have ks : Keeps (fun k => k = b1) W' (W'.setCell ⟨b1, j * 5 + 4, none⟩ v') := (Keeps.refl _ _).setCell _ _ fun _ => rfl
 have hK : Keeps (fun k => some k = (F j).tv.ownBlock ∨ k = b1) w' (W'.setCell ⟨b1, j * 5 + 4, none⟩ v') := (r3.mono fun _ _ e => .inl e).trans (ks.mono fun _ _ e => .inr e) fun _ _ e => e
 have hlow : ∀ k, (some k = (F j).tv.ownBlock ∨ k = b1) → C + 2 ≤ k := fun k e => by
  rcases e with e | e
  ·
   exact hlo k e
  ·
   omega
 refine ⟨v', W', r1, r3, ⟨ad, cp, hv⟩, hc3.cell (by rw [row5_get (fun i => PP.vs5 _) hj (by omega)]; rfl), hc3.frozen _, ?_⟩
 have hvb : ∀ k, v'.ownBlock = some k → k ≠ b1 ∧ k ≠ b2 ∧ k ≠ b5 := fun k e => by
  rcases r4 with r4 | ⟨m, r4, r5⟩
  ·
   exact hnb k (by rw [← r4, e])
  ·
   rw [r4] at e; cases e
   have q1 := h.li.p.lt
   have q2 := h.li.c.lt
   have q3 := h.li.l.lt
   omega
 refine ⟨⟨h.li.cfg.kept hK fun e => by have := hlow _ e; omega, h.li.res.kept hK fun e => by have := hlow _ e; omega, h.li.kp.trans hK fun k hk e => by have := hlow _ e; omega, h.li.cin.below (hK.below (by omega) fun k e => by have := hlow _ e; omega), h.li.cw, h.li.n, h.li.low, Nat.le_trans hsz hK.size,
  h.li.l.kept hK fun e => ?_, ?_, h.li.c.kept hK fun e => ?_, h.li.lo, h.li.ne, fun i hi => ?_, fun i hi => ⟨?_, (h.li.dr i hi).2⟩⟩, fun i => ?_, h.gp, h.sp, fun i m hi hm hne b hb => ?_, h.cw⟩
 ·
  rcases e with e | e
  ·
   exact (hnb _ e).2.2 rfl
  ·
   exact hne.2.1 e
 ·
  have hB := hc3.setCell (j * 5 + 4) v'
  rw [row5_set (F := fun i => (F i).vs) (fun i => PP.vs5 _) hj (by omega)] at hB
  rw [upd_vs]
  exact hB
 ·
  rcases e with e | e
  ·
   exact (hnb _ e).2.1 rfl
  ·
   exact hne.1 e.symm
 ·
  show Row eInt _ (C + 2) (upd F j { F j with tv := v' } i).tv (upd s.T j (s.T j ++ [d]) i) ∧ ∀ k, (upd F j { F j with tv := v' } i).tv.ownBlock = some k → _
  by_cases e : i = j
  ·
   subst e
   rw [upd_same, upd_same]
   exact ⟨r2.own_kept eInt_bl ks fun k hk e => (hvb k hk).1 e, hvb⟩
  ·
   rw [upd_ne _ _ e, upd_ne _ _ e]
   refine ⟨(h.li.tr i hi).1.own_kept eInt_bl hK fun k hk e2 => ?_, (h.li.tr i hi).2⟩
   rcases e2 with e2 | e2
   ·
    exact h.pw i j hi hj e k hk e2.symm
   ·
    exact ((h.li.tr i hi).2 k hk).1 e2
 ·
  refine (h.li.dr i hi).1.own_kept eDst_bl hK fun k hk e => ?_
  rcases e with e | e
  ·
   exact Row.ne (h.li.dr i hi).1 hdr.1 (by decide) k hk e.symm
  ·
   exact ((h.li.dr i hi).2 k hk).1 e
 ·
  have := h.fp i
  unfold upd
  split
  ·
   next e => subst e; exact this
  ·
   exact this
 ·
  by_cases e1 : i = j
  ·
   subst e1
   rw [upd_same] at hb
   rw [upd_ne _ _ (fun e => hne e.symm)]
   rcases r4 with r4 | ⟨k, r4, r5⟩
   ·
    exact h.pw i m hi hm hne b (by rw [← r4]; exact hb)
   ·
    intro hb2
    rw [r4] at hb; cases hb
    have := (h.li.tr m hm).1.lt b hb2
    omega
  ·
   rw [upd_ne _ _ e1] at hb
   by_cases e2 : m = j
   ·
    subst e2
    rw [upd_same]
    rcases r4 with r4 | ⟨k, r4, r5⟩
    ·
     rw [r4]; exact h.pw i m hi hm hne b hb
    ·
     intro hb2
     rw [r4] at hb2; cases hb2
     have := (h.li.tr i hi).1.lt b hb
     omega
   ·
    rw [upd_ne _ _ e2]
    exact h.pw i m hi hm hne b hb
end
end Go.Proofs.YtlnmlbkeemahcaaGreat
