import Derived.Test.YtlnmlbkeemahcaaGreatP
import Derived.Test.YtlnmlbkeemahcaaGreatRs
import Derived.Test.YtlnmlbkeemahcaaGreatOz
namespace Go.Proofs.YtlnmlbkeemahcaaGreat
open Go.RowKit
set_option linter.unusedVariables false
set_option maxRecDepth 6000
def isW (f a : Int) : Bool := decide (0 ≤ a) && decide (a / 16 < f) && decide (a / 16 < 1024)
def Rgn.hasF (fr : Int) (r : Rgn) : Bool := decide (0 ≤ r.frame) && decide (r.frame ≤ 1024) && decide (r.frame ≤ fr) && decide (fr < r.frame + r.pages)
def regO (fr : Int) (ps : List Par) : Ow := match ps.findIdx? (fun P => P.rs.any (Rgn.hasF fr)) with | some i => ⟨1, i, 0⟩ | none => ⟨0, 0, 0⟩
theorem set3 {w : World} {C : Nat} {a0 a1 a2 : Value} {t : TypeId} (hB : Blk w C [a0, a1, a2] t) (v0 v1 v2 : Value) :
  Blk (((w.setCell ⟨C, 0, none⟩ v0).setCell ⟨C, 1, none⟩ v1).setCell ⟨C, 2, none⟩ v2) C [v0, v1, v2] t ∧
  Keeps (fun k => k = C) w (((w.setCell ⟨C, 0, none⟩ v0).setCell ⟨C, 1, none⟩ v1).setCell ⟨C, 2, none⟩ v2) :=
 ⟨((hB.setCell 0 v0).setCell 1 v1).setCell 2 v2, (((Keeps.refl (fun k => k = C) w).setCell ⟨C, 0, none⟩ v0 fun _ => rfl).setCell ⟨C, 1, none⟩ v1 fun _ => rfl).setCell ⟨C, 2, none⟩ v2 fun _ => rfl⟩
structure RoI (w : World) (x : Cfg) (C E N : Nat) (w' : World) : Prop where
 one : One w x C N w'
 ans : Blk w' E [.int .i64 0, .int .i64 0, .int .i64 0] 111
 lo : w.heap.size ≤ E
set_option linter.unusedSimpArgs false
def sumK (hist : List (Ow × Int)) : Int := (hist.map (·.2)).sum
def lastGo (t : Int) : Int → Ow → List (Ow × Int) → Ow
 | _, f, [] => f
 | s, f, (o, k) :: r => lastGo t (s + k) (if s ≤ t ∧ t < s + k then o else f) r
structure JO (B K A F : Nat) (s t : Int) (w : World) (a : Int) (hist : List (Ow × Int)) : Prop where
 cnt : Blk w B [.int .i64 a] 3
 fn : Blk w K [.func (.func 136) #[] #[.pointer (some ⟨B, 0, none⟩)]] 136
 word : Blk w A [.int .i64 t] 3
 found : Blk w F (lastGo t s ⟨0, 0, 0⟩ hist).vs 111
 sum : a = s + sumK hist
 apart : B ≠ K ∧ B ≠ A ∧ B ≠ F ∧ K ≠ A ∧ K ≠ F ∧ A ≠ F
def SO (B K A F : Nat) : Nat → Prop := fun b => b = B ∨ b = K ∨ b = A ∨ b = F
structure KO (w : World) (x : Cfg) (C N : Nat) (t : Int) (ok ob : Bool) (K B : Nat) (w' : World) : Prop where
 one : One w x C N w'
 word : Blk w' (C + 1) [.int .i64 t] 3
 res : Blk w' (C + 2) [.int .i64 0, .int .i64 0, .int .i64 0] 111
 found : Blk w' (C + 3) [.int .i64 0, .int .i64 0, .int .i64 0] 111
 sz : C + 4 ≤ w'.heap.size
 cw : C = w.heap.size
 kk : ok = true → Blk w' K [.nilFunc] 136 ∧ C + 4 ≤ K
 bb : ob = true → Blk w' B [.int .i64 (16 * x.kernel)] 3 ∧ C + 4 ≤ B
 ne : ok = true → ob = true → K ≠ B
structure KP (w : World) (x : Cfg) (C N : Nat) (t : Int) (K B : Nat) (w' : World) : Prop where
 one : One w x C N w'
 word : Blk w' (C + 1) [.int .i64 t] 3
 res : Blk w' (C + 2) [.int .i64 0, .int .i64 0, .int .i64 0] 111
 found : Blk w' (C + 3) [.int .i64 0, .int .i64 0, .int .i64 0] 111
 cw : C = w.heap.size
 fn : Blk w' K [.func (.func 136) #[] #[.pointer (some ⟨B, 0, none⟩)]] 136
 cnt : Blk w' B [.int .i64 (16 * x.kernel)] 3
 lo : C + 4 ≤ K ∧ C + 4 ≤ B ∧ K ≠ B
def ownO (x : Cfg) (t : Int) : Ow :=
 if (lastGo t (16 * x.kernel) ⟨0, 0, 0⟩ (layH x (16 * x.kernel))).kind = 0 then regO (t / 16) x.ps else lastGo t (16 * x.kernel) ⟨0, 0, 0⟩ (layH x (16 * x.kernel))
def ownA (x : Cfg) (t : Int) : Ow × Int :=
 if x.mayB = false then (⟨0, 0, 0⟩, 150) else if isW x.frames t = false then (⟨0, 0, 0⟩, 151) else (ownO x t, 0)
structure OwI (w : World) (x : Cfg) (C N : Nat) (w' : World) : Prop where
 one : One w x C N w'
 res : Blk w' (C + 1) [.int .i64 0, .int .i64 0, .int .i64 0] 111
 cw : C = w.heap.size
def Pc.has (t : Int) (p : Pc) : Bool := decide (p.pos ≤ t) && decide (t < p.pos + p.size)
def ownD (x : Cfg) (t : Int) : Ow := match (pcAll x (16 * x.kernel)).find? (Pc.has t) with | some p => p.ow | none => regO (t / 16) x.ps
def ownR (x : Cfg) (t : Int) : Ow × Int :=
 if x.mayB = false then (⟨0, 0, 0⟩, 150) else if isW x.frames t = false then (⟨0, 0, 0⟩, 151) else (ownD x t, 0)
theorem szH_nonneg : ∀ r : List (Ow × Int), (∀ e ∈ r, 0 ≤ e.2) → 0 ≤ szH r
 | [], _ => by simp [szH]
 | e :: r, hn => by
  have h1 := hn e (by simp)
  have h2 := szH_nonneg r fun e he => hn e (by simp [he])
  simp only [szH, List.map_cons, List.sum_cons] at h2 ⊢; omega
theorem ann_mem {p : Pc} : ∀ {h : List (Ow × Int)} {s : Int}, (∀ e ∈ h, 0 ≤ e.2) → p ∈ ann s h → (p.ow, p.size) ∈ h ∧ s ≤ p.pos ∧ p.pos + p.size ≤ s + szH h ∧ 0 ≤ p.size
 | [], _, _, hp => by simp [ann] at hp
 | (o, k) :: r, s, hn, hp => by
  have hk := hn (o, k) (by simp)
  have hr := szH_nonneg r fun e he => hn e (by simp [he])
  have hz : szH ((o, k) :: r) = k + szH r := by simp [szH]
  dsimp only at hk
  rw [ann, List.mem_cons] at hp
  rcases hp with rfl | hp
  ·
   exact ⟨by simp, by dsimp only; omega, by dsimp only; omega, hk⟩
  ·
   obtain ⟨h1, h2, h3, h4⟩ := ann_mem (fun e he => hn e (by simp [he])) hp
   exact ⟨by simp [h1], by omega, by omega, h4⟩
def headH (x : Cfg) : List (Ow × Int) := [(⟨2, 0, 0⟩, 2)] ++ partH x.ps.length ++ chansH x x.hs.length
theorem headH_ok {x : Cfg} (hm : x.mayB = true) : ∀ e ∈ headH x, 0 ≤ e.2 ∧ e.1.kind ≠ 0 := by
 intro e he
 unfold headH partH chansH at he
 simp only [List.mem_append, List.mem_singleton, List.mem_flatMap, List.mem_range, List.mem_cons, List.not_mem_nil, or_false] at he
 rcases he with (rfl | ⟨p, _, rfl | rfl | rfl⟩) | ⟨n, hn, he⟩
 ·
  decide
 ·
  simp
 ·
  simp
 ·
  simp
 ·
  have hh : x.hs[n]? = some x.hs[n] := List.getElem?_eq_getElem hn
  rw [hh] at he
  obtain ⟨hs, _, h1, h4⟩ := Cfg.mayB_chn hm hh
  have hb := Chn.plc_bd hs
  have h2 : 3 ≤ x.hs[n].stg ∧ x.hs[n].stg ≤ 137 := by unfold Chn.stg; omega
  have h3 : 4 ≤ x.hs[n].prt ∧ x.hs[n].prt ≤ 139 := by unfold Chn.prt; split <;> omega
  unfold chanH destH at he
  simp only [List.mem_append, List.mem_cons, List.not_mem_nil, or_false, List.mem_map] at he
  rcases he with (rfl | rfl) | ⟨d, _, rfl⟩
  ·
   simp
  ·
   exact ⟨by dsimp only; omega, by simp⟩
  ·
   exact ⟨by dsimp only; omega, by simp⟩
theorem tabsH_ok (x : Cfg) : ∀ e ∈ tabsH x x.ps.length, 0 ≤ e.2 ∧ e.1.kind ≠ 0 := by
 intro e he
 unfold tabsH at he
 simp only [List.mem_flatMap, List.mem_range] at he
 obtain ⟨p, hp, he⟩ := he
 rw [List.getElem?_eq_getElem hp] at he
 have := List.eq_of_mem_replicate he
 subst this
 simp
theorem szH_headH (x : Cfg) (a : Int) : a + szH (headH x) = chE x a := by
 unfold headH chE
 rw [← szH_chansH (chB x a) x.hs.length (Nat.le_refl _), szH_append, szH_append, szH_partH]
 unfold chB
 simp only [szH, List.map_cons, List.map_nil, List.sum_cons, List.sum_nil]; omega
theorem pcAll_eq (x : Cfg) (a : Int) : pcAll x a = ann a (headH x) ++ ann (rtB x a) (tabsH x x.ps.length) := by
 unfold pcAll pcB headH pcA
 congr 1
 rw [ann_append, ann_append]
 have e1 : szH ([(⟨2, 0, 0⟩, 2)] ++ partH x.ps.length) = 2 + 24 * x.ps.length := by rw [szH_append, szH_partH]; simp [szH]
 rw [e1]
 have e2 : chB x a = a + (2 + 24 * x.ps.length) := by unfold chB; omega
 rw [e2]
 simp [ann, szH]
theorem pcAll_bd {x : Cfg} (hm : x.mayB = true) : ∀ p ∈ pcAll x (16 * x.kernel), 0 ≤ p.pos ∧ p.pos ≤ 1000000 ∧ 0 ≤ p.size ∧ p.size ≤ 1000000 := by
 have hk := Cfg.mayB_iff.1 hm
 obtain ⟨a, ha⟩ : ∃ a, 16 * x.kernel = a := ⟨_, rfl⟩
 have h1 := chAt_bd hm (chB x a) x.hs.length
 have h2 := rtAt_bd x (rtB x a) x.ps.length
 have h3 : chE x a = chAt x (chB x a) x.hs.length := rfl
 have h4 : rtB x a = chE x a + fillN (chE x a) := rfl
 have h5 : 0 ≤ fillN (chE x a) ∧ fillN (chE x a) ≤ 16 := by unfold fillN; split <;> omega
 have h6 : chB x a = a + 2 + 24 * x.ps.length := rfl
 have h7 := szH_headH x a
 have h8 := szH_tabsH (x := x) (rtB x a) x.ps.length (Nat.le_refl _)
 intro p hp
 rw [ha, pcAll_eq] at hp
 rcases List.mem_append.1 hp with hp | hp
 ·
  have := ann_mem (fun e he => (headH_ok hm e he).1) hp; omega
 ·
  have := ann_mem (fun e he => (tabsH_ok x e he).1) hp; omega
def PcOk (L H : Nat) (o : Ow) : Prop := o.kind = 2 ∨ (∃ n : Nat, n < L ∧ o.idx = n ∧ (o.kind = 3 ∨ o.kind = 4 ∨ o.kind = 5 ∨ o.kind = 9)) ∨ (∃ n : Nat, n < H ∧ o.idx = n ∧ (o.kind = 6 ∨ o.kind = 7)) ∨ (o.kind = 8 ∧ 0 < H)
theorem ann_ow {l : List (Ow × Int)} {a : Int} {p : Pc} (h : p ∈ ann a l) : ∃ k, (p.ow, k) ∈ l := by
 induction l generalizing a with
 | nil => cases h
 | cons q t ih =>
  obtain ⟨o, k⟩ := q
  rcases List.mem_cons.1 h with e | e
  ·
   subst e; exact ⟨k, List.mem_cons_self ..⟩
  ·
   obtain ⟨k2, h2⟩ := ih e
   exact ⟨k2, List.mem_cons_of_mem _ h2⟩
theorem pcAll_ok (x : Cfg) (a : Int) : ∀ p ∈ pcAll x a, PcOk x.ps.length x.hs.length p.ow := by
 intro p hp
 unfold pcAll pcB pcA at hp
 rcases List.mem_append.1 hp with hp | hp
 ·
  rcases List.mem_append.1 hp with hp | hp
  ·
   rcases List.mem_cons.1 hp with e | hp
   ·
    subst e; exact .inl rfl
   ·
    obtain ⟨k, hk⟩ := ann_ow hp
    unfold partH at hk
    obtain ⟨n, hn, h2⟩ := List.mem_flatMap.1 hk
    have hn := List.mem_range.1 hn
    refine .inr (.inl ⟨n, hn, ?_⟩)
    simp only [List.mem_cons, List.not_mem_nil, or_false, Prod.mk.injEq] at h2
    rcases h2 with ⟨e, _⟩ | ⟨e, _⟩ | ⟨e, _⟩ <;> rw [e] <;> simp
  ·
   obtain ⟨k, hk⟩ := ann_ow hp
   unfold chansH at hk
   obtain ⟨n, hn, h2⟩ := List.mem_flatMap.1 hk
   have hn := List.mem_range.1 hn
   cases hh : x.hs[n]? with
   | none => rw [hh] at h2; cases h2
   | some h =>
    rw [hh] at h2
    unfold chanH destH at h2
    rcases List.mem_append.1 h2 with h2 | h2
    ·
     refine .inr (.inr (.inl ⟨n, hn, ?_⟩))
     simp only [List.mem_cons, List.not_mem_nil, or_false, Prod.mk.injEq] at h2
     rcases h2 with ⟨e, _⟩ | ⟨e, _⟩ <;> rw [e] <;> simp
    ·
     obtain ⟨d, _, e⟩ := List.mem_map.1 h2
     refine .inr (.inr (.inr ⟨?_, by omega⟩))
     rw [← (Prod.mk.inj e).1]
 ·
  obtain ⟨k, hk⟩ := ann_ow hp
  unfold tabsH at hk
  obtain ⟨n, hn, h2⟩ := List.mem_flatMap.1 hk
  have hn := List.mem_range.1 hn
  cases hh : x.ps[n]? with
  | none => rw [hh] at h2; cases h2
  | some h =>
   rw [hh] at h2
   have e := (List.mem_replicate.1 h2).2
   refine .inr (.inl ⟨n, hn, ?_⟩)
   rw [(Prod.mk.inj e).1]
   simp
theorem upd_le {α : Type} (F : Nat → List α) (j : Nat) (v : List α) (h : v.length ≤ (F j).length + 1) (i : Nat) : (upd F j v i).length ≤ (F i).length + 1 := by
 unfold upd
 split
 ·
  next e =>
  rw [e]
  exact h
 ·
  exact Nat.le_succ _
theorem stp_len (s : Z9) (p : Pc) (i : Nat) : ((stp s p).D i).length ≤ (s.D i).length + 1 ∧ ((stp s p).T i).length ≤ (s.T i).length + 1 := by
 unfold stp
 repeat' split
 all_goals first
  | exact ⟨Nat.le_succ _, Nat.le_succ _⟩
  | exact ⟨upd_le _ _ _ (by simp) _, Nat.le_succ _⟩
  | exact ⟨Nat.le_succ _, upd_le _ _ _ (by simp) _⟩
theorem fold_len (l : List Pc) (s : Z9) (i : Nat) : ((l.foldl stp s).D i).length ≤ (s.D i).length + l.length ∧ ((l.foldl stp s).T i).length ≤ (s.T i).length + l.length := by
 induction l generalizing s with
 | nil => exact ⟨Nat.le_refl _, Nat.le_refl _⟩
 | cons p t ih =>
  have h1 := ih (stp s p)
  have h2 := stp_len s p i
  rw [List.foldl_cons, List.length_cons]
  omega
theorem pcAll_len {x : Cfg} (hm : x.mayB = true) (a : Int) : (pcAll x a).length ≤ 1000 := by
 have h1 := pcB_len hm a x.hs.length (Nat.le_refl _)
 have h2 := tabsH_len x x.ps.length
 have h3 := (Cfg.mayB_iff.1 hm).2.2.1
 have h4 := (Cfg.mayB_iff.1 hm).2.2.2.1
 unfold pcAll
 rw [List.length_append, ann_length]
 omega
structure MS (w : World) (x : Cfg) (C N : Nat) (d3 d7 d9 : Bool) (b1 b2 b5 : Nat) (w' : World) : Prop where
 one : One w x C N w'
 res : Blk w' (C + 1) [.int .i64 0, .slice none 0 0, .slice none 0 0, .int .i64 0] 92
 cw : C = w.heap.size
 sz : C + 2 ≤ w'.heap.size
 m1 : d3 = true → Blk w' b1 ((List.replicate x.ps.length z5).flatten) 116 ∧ C + 2 ≤ b1
 m2 : d7 = true → Blk w' b2 ((List.replicate x.hs.length z5).flatten) 107 ∧ C + 2 ≤ b2
 m5 : d9 = true → Blk w' b5 [.int .i64 0, .slice none 0 0, .slice none 0 0, .int .i64 0] 92 ∧ C + 2 ≤ b5
 n12 : d3 = true → d7 = true → b1 ≠ b2
 n15 : d3 = true → d9 = true → b5 ≠ b1
 n25 : d7 = true → d9 = true → b5 ≠ b2
section
variable {w w' w'' : World} {x : Cfg} {C N b1 b2 b5 : Nat} {d3 d7 d9 : Bool}
theorem MS.cells (h : MS w x C N d3 d7 d9 b1 b2 b5 w') : w'.cell? ⟨C, 5, none⟩ = some (.slice x.pa x.ps.length x.pc) ∧ w'.cell? ⟨C, 6, none⟩ = some (.slice x.ha x.hs.length x.hc) := ⟨h.one.cfg.cell rfl, h.one.cfg.cell rfl⟩
theorem MS.up (h : MS w x C N d3 d7 d9 b1 b2 b5 w') (hK : KF w' w'') : MS w x C N d3 d7 d9 b1 b2 b5 w'' :=
 ⟨h.one.kept hK, h.res.kept hK fun h => h, h.cw, Nat.le_trans h.sz hK.size, fun e => ⟨(h.m1 e).1.kept hK fun h => h, (h.m1 e).2⟩, fun e => ⟨(h.m2 e).1.kept hK fun h => h, (h.m2 e).2⟩, fun e => ⟨(h.m5 e).1.kept hK fun h => h, (h.m5 e).2⟩, h.n12, h.n15, h.n25⟩
theorem MS.make1 (h : MS w x C N false d7 d9 b1 b2 b5 w') : MS w x C N true d7 d9 w'.heap.size b2 b5 (w'.alloc (.cells ((List.replicate x.ps.length z5).flatten).toArray 116)) := by
 have hu := h.up (((Keeps.refl _ w').alloc (.cells ((List.replicate x.ps.length z5).flatten).toArray 116)))
 exact ⟨hu.one, hu.res, hu.cw, hu.sz, fun _ => ⟨Blk.new _ _ _, h.sz⟩, hu.m2, hu.m5, fun _ e he => by have := (h.m2 e).1.lt; omega, fun _ e he => by have := (h.m5 e).1.lt; omega, hu.n25⟩
theorem MS.make2 (h : MS w x C N d3 false d9 b1 b2 b5 w') : MS w x C N d3 true d9 b1 w'.heap.size b5 (w'.alloc (.cells ((List.replicate x.hs.length z5).flatten).toArray 107)) := by
 have hu := h.up (((Keeps.refl _ w').alloc (.cells ((List.replicate x.hs.length z5).flatten).toArray 107)))
 exact ⟨hu.one, hu.res, hu.cw, hu.sz, hu.m1, fun _ => ⟨Blk.new _ _ _, h.sz⟩, hu.m5, fun e _ he => by have := (h.m1 e).1.lt; omega, hu.n15, fun _ e he => by have := (h.m5 e).1.lt; omega⟩
theorem MS.alloc5 (h : MS w x C N d3 d7 false b1 b2 b5 w') : MS w x C N d3 d7 true b1 b2 w'.heap.size (w'.alloc (.cells #[.int .i64 0, .slice none 0 0, .slice none 0 0, .int .i64 0] 92)) := by
 have hu := h.up (((Keeps.refl _ w').alloc (.cells #[.int .i64 0, .slice none 0 0, .slice none 0 0, .int .i64 0] 92)))
 exact ⟨hu.one, hu.res, hu.cw, hu.sz, hu.m1, hu.m2, fun _ => ⟨Blk.new _ _ _, h.sz⟩, hu.n12, fun e _ he => by have := (h.m1 e).1.lt; omega, fun e _ he => by have := (h.m2 e).1.lt; omega⟩
theorem MS.stored (h : MS w x C N true true true b1 b2 b5 w') (a : Int) :
  LX w x C N b1 b2 b5 (fun _ => 0) (fun _ => 0) (z9 a) (fun _ => PP.z) (fun _ => CP.z) (w'.setRow b5 #[.int .i64 0, .slice (some ⟨b1, 0, none⟩) x.ps.length x.ps.length, .slice (some ⟨b2, 0, none⟩) x.hs.length x.hs.length, .int .i64 0]) := by
 have hK : Keeps (fun k => k = b5) w' (w'.setRow b5 #[.int .i64 0, .slice (some ⟨b1, 0, none⟩) x.ps.length x.ps.length, .slice (some ⟨b2, 0, none⟩) x.hs.length x.hs.length, .int .i64 0]) := (Keeps.refl _ _).setRow _ _ fun _ => rfl
 obtain ⟨p1, q1⟩ := h.m1 rfl
 obtain ⟨p2, q2⟩ := h.m2 rfl
 obtain ⟨p5, q5⟩ := h.m5 rfl
 have n15 := h.n15 rfl rfl
 have n25 := h.n25 rfl rfl
 have hcw := h.cw
 have hn := h.one.n
 have ho := h.one.kept' hK (by omega) (fun k e => by omega) (fun k e => by omega)
 refine ⟨⟨ho.cfg, h.res.kept hK (by omega), ho.keeps, ho.cin, h.cw, by omega, fun k e => e.elim, Nat.le_trans h.sz hK.size, p5.setRow _, ?_, ?_, ⟨q1, q2, q5⟩, ⟨h.n12 rfl rfl, n15, n25⟩, fun i _ => ⟨Row.nil _ _, (fun k e => by cases e)⟩, fun i _ => ⟨Row.nil _ _, (fun k e => by cases e)⟩⟩, fun _ => ⟨rfl, rfl, rfl, rfl⟩, fun _ => ⟨rfl, rfl⟩, fun _ => ⟨rfl, rfl⟩, (fun _ _ _ _ _ k e => by cases e), (fun _ _ _ _ _ k e => by cases e)⟩
 ·
  have := p1.kept hK (fun e => n15 e.symm)
  rw [row5_zero] at this
  exact this
 ·
  have := p2.kept hK (fun e => n25 e.symm)
  rw [row5_zero] at this
  exact this
end
end Go.Proofs.YtlnmlbkeemahcaaGreat
