import Derived.Test.YthaoopaafdgioabLb
import Derived.Test.YthaoopaafdgioabFv
namespace Go.Proofs.Ythaoopaafdgioab
open Go.RowKit
set_option linter.unusedVariables false
set_option linter.unusedSimpArgs false
set_option maxRecDepth 6000

theorem ws_at {xs ys : List Core} (h : xs.map Core.ws = ys.map Core.ws) (k : Nat) : (xs[k]? = none ∧ ys[k]? = none) ∨ ∃ X Y, xs[k]? = some X ∧ ys[k]? = some Y ∧ X.ws = Y.ws := by
  have hl : xs.length = ys.length := by simpa using congrArg List.length h
  cases hx : xs[k]? with
  | none =>
    rw [List.getElem?_eq_none_iff] at hx
    exact .inl ⟨rfl, List.getElem?_eq_none_iff.2 (by omega)⟩
  | some X =>
    obtain ⟨Y, hY, e⟩ := map_at Core.ws h hx
    exact .inr ⟨X, Y, rfl, hY, e⟩
/-- All that stands in a configuration may stand there. -/
structure Fn (y : Cfg) : Prop where
  c : ∀ X ∈ y.cs, ∀ z ∈ X.ws, z.Fine
  p : ∀ P ∈ y.ps, (∀ z ∈ P.rs, z.Fine) ∧ (∀ z ∈ P.ps, z.Fine) ∧ (∀ n ∈ P.ns, I64 n) ∧ P.name.size ≤ 9223372036854775807
  h : ∀ z ∈ y.hs, z.Fine
  ns : ∀ n ∈ y.ns, I64 n
theorem Cfg.In.fn {y : Cfg} {w : World} {N : Nat} (h : y.In w N) : Fn y :=
  ⟨fun X hX => (h.cin X hX).fine, fun P hP => ⟨(h.pin P hP).rfine, (h.pin P hP).pfine, (h.pin P hP).ns, (h.pin P hP).name⟩, h.hfine, h.ns⟩
theorem Beg.in2 {y : Cfg} {w : World} {O : Nat → Nat → ObG} (h : Beg y w O) (hy : Fn y) : (cfgO y O).In w w.heap.size := by
  have hl1 : (cfgO y O).cs.length = y.cs.length := by simp [cfgO]
  have hl2 : (cfgO y O).ps.length = y.ps.length := by simp [cfgO]
  have g1 : ∀ j X, (cfgO y O).cs[j]? = some X → j < y.cs.length ∧ X = coreO y O j := fun j X hX => by
    have hj : j < y.cs.length := by rw [← hl1]; exact get_lt hX
    refine ⟨hj, ?_⟩
    simp [cfgO, hj] at hX
    exact hX.symm
  have g2 : ∀ j P, (cfgO y O).ps[j]? = some P → j < y.ps.length ∧ P = parO y O j := fun j P hP => by
    have hj : j < y.ps.length := by rw [← hl2]; exact get_lt hP
    refine ⟨hj, ?_⟩
    simp [cfgO, hj] at hP
    exact hP.symm
  have s0 : SegA Core.vs 1 w (cfgO y O).ca (cfgO y O).cs := by
    by_cases h0 : y.cs.length = 0
    · exact .inl (List.eq_nil_of_length_eq_zero (by rw [hl1]; exact h0))
    · obtain ⟨g, ea, _⟩ := h.c0 0 (by omega)
      refine .inr ⟨g, 0, ea, fun j X hX i v hv => ?_⟩
      obtain ⟨hj, rfl⟩ := g1 j X hX
      obtain ⟨g', ea', hc⟩ := h.c0 j hj
      rw [ea] at ea'
      cases ea'
      have hi : i = 0 := by have := get_lt hv; simp at this; exact this
      subst hi
      cases hv
      simpa using hc
  have s2 : SegA Par.vs 8 w (cfgO y O).pa (cfgO y O).ps := by
    by_cases h0 : y.ps.length = 0
    · exact .inl (List.eq_nil_of_length_eq_zero (by rw [hl2]; exact h0))
    · obtain ⟨g, ea, _⟩ := h.c2 0 (by omega)
      refine .inr ⟨g, 0, ea, fun j X hX i v hv => ?_⟩
      obtain ⟨hj, rfl⟩ := g2 j X hX
      obtain ⟨g', ea', hc⟩ := h.c2 j hj
      rw [ea] at ea'
      cases ea'
      rw [Nat.zero_add]
      exact hc i v hv
  refine ⟨s0, fun hn a ha => segA_lt s0 (fun _ => by simp) hn a ha, by rw [hl1]; exact h.c0l, fun X hX => ?_, s2, fun hn a ha => segA_lt s2 (fun _ => by simp) hn a ha, by rw [hl2]; exact h.c2l, fun P hP => ?_, h.c5, fun hn a ha => segA_lt h.c5 (fun _ => by simp) hn a ha, h.c5l, hy.h, hy.ns⟩
  · obtain ⟨j, hj⟩ := List.getElem?_of_mem hX
    obtain ⟨hjl, rfl⟩ := g1 j X hj
    obtain ⟨Y, hY⟩ : ∃ Y, y.cs[j]? = some Y := ⟨_, List.getElem?_eq_getElem hjl⟩
    have hw := wsO_some hY
    obtain ⟨a1, a2, a3⟩ := h.i1 j Y hY
    have a1' : SegA Win.vs 3 w (coreO y O j).a (coreO y O j).ws := by unfold coreO; rw [hw]; exact a1
    exact ⟨a1', fun hn a ha => segA_lt a1' (fun _ => by simp) hn a ha, by unfold coreO; rw [hw]; exact ⟨a2, a3⟩, by unfold coreO; rw [hw]; exact hy.c Y (List.mem_of_getElem? hY)⟩
  · obtain ⟨j, hj⟩ := List.getElem?_of_mem hP
    obtain ⟨hjl, rfl⟩ := g2 j P hj
    obtain ⟨Y, hY⟩ : ∃ Y, y.ps[j]? = some Y := ⟨_, List.getElem?_eq_getElem hjl⟩
    obtain ⟨⟨a1, a2, a3⟩, b1, b2, b3⟩ := h.i2 j Y hY
    have hyp := hy.p Y (List.mem_of_getElem? hY)
    rw [parO_some hY]
    exact ⟨a1, fun hn a ha => segA_lt a1 (fun _ => by simp) hn a ha, ⟨a2, a3⟩, hyp.1, b1, fun hn a ha => segA_lt b1 (fun _ => by simp) hn a ha, ⟨b2, b3⟩, hyp.2.1, hyp.2.2.1, hyp.2.2.2⟩

theorem Bnd.tr {x y : Cfg} (h : x.pure = y.pure) (hb : Bnd x) : Bnd y := by
  obtain ⟨l1, l2, l3⟩ := pure_len h
  have hc : x.cs.map Core.ws = y.cs.map Core.ws := congrArg PCfg.cs h
  have hp : x.ps.map Par.pure = y.ps.map Par.pure := congrArg PCfg.ps h
  refine ⟨l1 ▸ hb.cs, l2 ▸ hb.ps, l3 ▸ hb.hs, fun Y hY => ?_, fun P hP => ?_, fun P hP => ?_⟩
  · obtain ⟨j, hj⟩ := List.getElem?_of_mem hY
    obtain ⟨X, hX, e⟩ := map_at Core.ws hc.symm hj
    rw [e]; exact hb.ws X (List.mem_of_getElem? hX)
  · obtain ⟨j, hj⟩ := List.getElem?_of_mem hP
    obtain ⟨X, hX, e⟩ := map_at Par.pure hp.symm hj
    have := congrArg PPar.rs e
    rw [show P.rs = X.rs from this]; exact hb.rs X (List.mem_of_getElem? hX)
  · obtain ⟨j, hj⟩ := List.getElem?_of_mem hP
    obtain ⟨X, hX, e⟩ := map_at Par.pure hp.symm hj
    have := congrArg PPar.ps e
    rw [show P.ps = X.ps from this]; exact hb.qs X (List.mem_of_getElem? hX)
theorem ps_at {xs ys : List Par} (h : xs.map Par.pure = ys.map Par.pure) (k : Nat) : (xs[k]? = none ∧ ys[k]? = none) ∨ ∃ X Y, xs[k]? = some X ∧ ys[k]? = some Y ∧ X.pure = Y.pure := by
  have hl : xs.length = ys.length := by simpa using congrArg List.length h
  cases hx : xs[k]? with
  | none =>
    rw [List.getElem?_eq_none_iff] at hx
    exact .inl ⟨rfl, List.getElem?_eq_none_iff.2 (by omega)⟩
  | some X =>
    obtain ⟨Y, hY, e⟩ := map_at Par.pure h hx
    exact .inr ⟨X, Y, rfl, hY, e⟩
theorem RP.tr {x y : Cfg} (h : x.pure = y.pure) {j1 j2 : Nat} {hs : List Chn} {k : Nat} {O : Nat → Nat → ObG} (hr : RP x j1 j2 hs k O) : RP y j1 j2 hs k O := by
  have hc : x.cs.map Core.ws = y.cs.map Core.ws := congrArg PCfg.cs h
  have hp : x.ps.map Par.pure = y.ps.map Par.pure := congrArg PCfg.ps h
  have e1 : wsO x = wsO y := by
    funext i
    unfold wsO
    rcases ws_at hc i with ⟨h1, h2⟩ | ⟨X, Y, h1, h2, e⟩
    · rw [h1, h2]
    · rw [h1, h2]; exact e
  have e2 : rsO x = rsO y := by
    funext i
    unfold rsO
    rcases ps_at hp i with ⟨h1, h2⟩ | ⟨X, Y, h1, h2, e⟩
    · rw [h1, h2]
    · rw [h1, h2]; exact congrArg PPar.rs e
  have e3 : psO x = psO y := by
    funext i
    unfold psO
    rcases ps_at hp i with ⟨h1, h2⟩ | ⟨X, Y, h1, h2, e⟩
    · rw [h1, h2]
    · rw [h1, h2]; exact congrArg PPar.ps e
  have e4 : parC x = parC y := by
    funext i r q
    unfold parC
    rcases ps_at hp i with ⟨h1, h2⟩ | ⟨X, Y, h1, h2, e⟩
    · rw [h1, h2]
    · rw [h1, h2]
      have := e
      simp only [Par.pure, PPar.mk.injEq] at this
      obtain ⟨a, b, c, d, f, g, _, _⟩ := this
      simp only [parV, a, b, c, d, f, g]
  obtain ⟨c0n, c0, c1n, c1, c2n, c2, c3n, c3, c4n, c4, c5n, c5, i1, i2, i3, i4, z1, z2, z3, z4⟩ := hr
  rw [e1] at c0 i1
  rw [e2, e3, e4] at c2
  rw [e2] at i2
  rw [e3] at i3
  exact ⟨c0n, c0, c1n, c1, c2n, c2, c3n, c3, c4n, c4, c5n, c5, i1, i2, i3, i4, z1, z2, z3, z4⟩

/-! ### A region's page is set -/
def Rgn.pg (r : Rgn) (g : Int) : Rgn := ⟨g, r.pages, r.frame, r.rights⟩
theorem flat_setR (r : List Value) (g : Int) (y : Rgn) : ∀ (rs : List Rgn) (j : Nat), rs[j]? = some y → (rs.flatMap Rgn.vs ++ r).set (j * 4) (.int .i64 g) = (rs.set j (y.pg g)).flatMap Rgn.vs ++ r
  | [], j, h => by simp at h
  | a :: rs, 0, h => by
    simp at h
    subst h
    rfl
  | a :: rs, j + 1, h => by
    have ih := flat_setR r g y rs j (by simpa using h)
    have e : (j + 1) * 4 = j * 4 + 4 := by omega
    rw [e, List.set_cons_succ, List.flatMap_cons, List.flatMap_cons, List.append_assoc, List.append_assoc, ← ih]
    rfl
def Par.rg (P : Par) (rs : List Rgn) : Par := ⟨P.name, P.entry, P.action, P.restarts, P.inputs, P.outputs, P.ra, P.rc, rs, P.pa, P.pc, P.ps⟩
def chg (y : Cfg) (k : Nat) (X : Par) : Cfg := ⟨y.frames, y.major, y.kernel, y.room, y.ca, y.cc, y.cs, y.pa, y.pc, y.ps.set k X, y.ha, y.hc, y.hs⟩
theorem chg_len (y : Cfg) (k : Nat) (X : Par) : (chg y k X).ps.length = y.ps.length := by simp [chg]
theorem chg_mem {y : Cfg} {k : Nat} {X Z : Par} (h : Z ∈ (chg y k X).ps) : Z ∈ y.ps ∨ Z = X := List.mem_or_eq_of_mem_set h
theorem chg_self {y : Cfg} {k : Nat} {X : Par} (hk : k < y.ps.length) : (chg y k X).ps[k]? = some X := by unfold chg; dsimp only; rw [List.getElem?_set_self hk]
theorem chg_ne {y : Cfg} {k : Nat} {X : Par} {i : Nat} (e : i ≠ k) : (chg y k X).ps[i]? = y.ps[i]? := by unfold chg; dsimp only; rw [List.getElem?_set_ne (Ne.symm e)]
theorem RP.chg {y : Cfg} {O : Nat → Nat → ObG} {k : Nat} {P : Par} (hP : y.ps[k]? = some P) {rs : List Rgn} (hl : rs.length = P.rs.length) (h : RP y y.cs.length y.ps.length y.hs 12 O) :
    RP (chg y k (P.rg rs)) (chg y k (P.rg rs)).cs.length (chg y k (P.rg rs)).ps.length (chg y k (P.rg rs)).hs 12 (updG O 2 k ⟨(O 2 k).u, (O 2 k).n, rs.flatMap Rgn.vs ++ apN rMk 12⟩) := by
  obtain ⟨c0n, c0, c1n, c1, c2n, c2, c3n, c3, c4n, c4, c5n, c5, i1, i2, i3, i4, z1, z2, z3, z4⟩ := h
  have hk := get_lt hP
  have eu : ∀ a b, (updG O 2 k ⟨(O 2 k).u, (O 2 k).n, rs.flatMap Rgn.vs ++ apN rMk 12⟩ a b).u = (O a b).u := fun a b => by
    unfold updG; split
    · rename_i e; rw [e.1, e.2]
    · rfl
  have en : ∀ a b, (updG O 2 k ⟨(O 2 k).u, (O 2 k).n, rs.flatMap Rgn.vs ++ apN rMk 12⟩ a b).n = (O a b).n := fun a b => by
    unfold updG; split
    · rename_i e; rw [e.1, e.2]
    · rfl
  have ex : ∀ a b, a ≠ 2 → updG O 2 k ⟨(O 2 k).u, (O 2 k).n, rs.flatMap Rgn.vs ++ apN rMk 12⟩ a b = O a b := fun a b h => updG_ne O _ (by omega)
  have e0 : ∀ b, updG O 2 k ⟨(O 2 k).u, (O 2 k).n, rs.flatMap Rgn.vs ++ apN rMk 12⟩ 0 b = O 0 b := fun b => ex 0 b (by omega)
  have hr : ∀ i, rsO (Go.Proofs.Ythaoopaafdgioab.chg y k (P.rg rs)) i = if i = k then rs else rsO y i := fun i => by
    by_cases e : i = k
    · subst e; rw [if_pos rfl, rsO_some (chg_self hk)]; rfl
    · rw [if_neg e]; unfold rsO; rw [chg_ne e]
  have hrl : ∀ i, (rsO (Go.Proofs.Ythaoopaafdgioab.chg y k (P.rg rs)) i).length = (rsO y i).length := fun i => by
    rw [hr]; split
    · rename_i e; rw [e, rsO_some hP, hl]
    · rfl
  have hq : ∀ i, psO (Go.Proofs.Ythaoopaafdgioab.chg y k (P.rg rs)) i = psO y i := fun i => by
    by_cases e : i = k
    · subst e; rw [psO_some (chg_self hk), psO_some hP]; rfl
    · unfold psO; rw [chg_ne e]
  have hc : ∀ i r q, parC (Go.Proofs.Ythaoopaafdgioab.chg y k (P.rg rs)) i r q = parC y i r q := fun i r q => by
    by_cases e : i = k
    · subst e; rw [parC_some (chg_self hk), parC_some hP]; rfl
    · unfold parC; rw [chg_ne e]
  rw [chg_len]
  show RP (Go.Proofs.Ythaoopaafdgioab.chg y k (P.rg rs)) y.cs.length y.ps.length y.hs 12 _
  refine ⟨?_, ?_, ?_, ?_, ?_, ?_, ?_, ?_, ?_, ?_, ?_, ?_, fun i hi => ?_, fun i hi => ?_, fun i hi => ?_, fun i hi => ?_, fun i hi => ?_, fun i hi => ?_, fun i hi => ?_, fun i hi => ?_⟩
  · rw [e0]; exact c0n
  · rw [e0, c0]; congr 1
  · rw [e0]; exact c1n
  · rw [e0, c1]; exact apN_congr fun i hi => by rw [eu]
  · rw [e0]; exact c2n
  · rw [e0, c2]; congr 1
    · exact apN_congr fun i hi => by rw [hc, hrl, hq, eu, eu]
  · rw [e0]; exact c3n
  · rw [e0, c3]; exact apN_congr fun i hi => by rw [eu]
  · rw [e0]; exact c4n
  · rw [e0, c4]; exact apN_congr fun i hi => by rw [eu]
  · rw [e0]; exact c5n
  · rw [e0]; exact c5
  · rw [ex 1 i (by omega)]; exact i1 i hi
  · rw [hrl, en]
    refine ⟨(i2 i hi).1, ?_⟩
    rw [hr]
    by_cases e : i = k
    · subst e; rw [if_pos rfl, updG_self]
    · rw [if_neg e, updG_ne O _ (by omega)]; exact (i2 i hi).2
  · rw [ex 3 i (by omega), hq]; exact i3 i hi
  · rw [ex 4 i (by omega)]; exact i4 i hi
  · rw [ex 1 i (by omega)]; exact z1 i hi
  · rw [updG_ne O _ (by omega)]; exact z2 i hi
  · rw [ex 3 i (by omega)]; exact z3 i hi
  · rw [ex 4 i (by omega)]; exact z4 i hi
theorem cfgO_chg {y : Cfg} {O : Nat → Nat → ObG} {k : Nat} {X : Par} (xs : List Value) : (cfgO (chg y k X) (updG O 2 k ⟨(O 2 k).u, (O 2 k).n, xs⟩)).vs = (cfgO y O).vs := by
  have e0 : ∀ b, updG O 2 k ⟨(O 2 k).u, (O 2 k).n, xs⟩ 0 b = O 0 b := fun b => updG_ne O _ (by omega)
  simp only [cfgO, Cfg.vs, e0, List.length_map, List.length_range, chg_len]
  rfl
theorem roomV_chg {O : Nat → Nat → ObG} {k : Nat} (o : ObG) : roomV (updG O 2 k o) = roomV O := by
  have e0 : ∀ b, updG O 2 k o 0 b = O 0 b := fun b => updG_ne O _ (by omega)
  simp only [roomV, e0]
theorem Bnd.chg {y : Cfg} {k : Nat} {P : Par} (hb : Bnd y) (hP : P ∈ y.ps) {rs : List Rgn} (hl : rs.length = P.rs.length) : Bnd (chg y k (P.rg rs)) :=
  ⟨hb.cs, by rw [chg_len]; exact hb.ps, hb.hs, hb.ws, fun Z hZ => by
    rcases chg_mem hZ with h | rfl
    · exact hb.rs Z h
    · show rs.length ≤ _; rw [hl]; exact hb.rs P hP, fun Z hZ => by
    rcases chg_mem hZ with h | rfl
    · exact hb.qs Z h
    · exact hb.qs P hP⟩
theorem Fn.chg {y : Cfg} {k : Nat} {P : Par} (hb : Fn y) (hP : P ∈ y.ps) {rs : List Rgn} (hf : ∀ z ∈ rs, z.Fine) : Fn (chg y k (P.rg rs)) :=
  ⟨hb.c, fun Z hZ => by
    rcases chg_mem hZ with h | rfl
    · exact hb.p Z h
    · exact ⟨hf, (hb.p P hP).2⟩, hb.h, hb.ns⟩

/-- What holds while the pages are set. -/
structure LJ (w : World) (n H R lo : Nat) (hv rv : List Value) (X : List (Nat × List Value × TypeId)) (y : Cfg) (O : Nat → Nat → ObG) (wr : World) : Prop where
  hB : Blk wr H hv 26
  rB : Blk wr R rv 44
  fam : FamO lo wr O
  rp : RP y y.cs.length y.ps.length y.hs 12 O
  fn : Fn y
  vs : (cfgO y O).vs = hv
  rvs : roomV O = rv
  bnd : Bnd y
  len : y.ps.length = n
  oH : Out wr O H
  oR : Out wr O R
  keeps : Keeps (fun k => lo ≤ k) w wr
  lo : w.heap.size ≤ lo
  bl : ∀ b ∈ X, Blk wr b.1 b.2.1 b.2.2 ∧ Out wr O b.1
theorem LJ.kept {w : World} {n H R lo : Nat} {hv rv : List Value} {X : List (Nat × List Value × TypeId)} {y : Cfg} {O : Nat → Nat → ObG} {wr W : World} (h : LJ w n H R lo hv rv X y O wr) (hK : Keeps (fun _ => False) wr W) : LJ w n H R lo hv rv X y O W :=
  ⟨h.hB.kept hK fun h => h, h.rB.kept hK fun h => h, h.fam.kept hK fun _ _ _ _ h => h, h.rp, h.fn, h.vs, h.rvs, h.bnd, h.len, h.oH.ge hK.size, h.oR.ge hK.size, h.keeps.trans hK fun _ _ h => h.elim, h.lo, fun b hb => ⟨(h.bl b hb).1.kept hK fun h => h, (h.bl b hb).2.ge hK.size⟩⟩
theorem LJ.in {w : World} {n H R lo : Nat} {hv rv : List Value} {X : List (Nat × List Value × TypeId)} {y : Cfg} {O : Nat → Nat → ObG} {wr : World} (h : LJ w n H R lo hv rv X y O wr) : (cfgO y O).In wr wr.heap.size := (RP.beg h.fam h.rp).in2 h.fn
/-- A partition's regions, in their own block. -/
theorem LJ.reg {w : World} {n H R lo : Nat} {hv rv : List Value} {X : List (Nat × List Value × TypeId)} {y : Cfg} {O : Nat → Nat → ObG} {wr : World} (h : LJ w n H R lo hv rv X y O wr) {k : Nat} {P : Par} (hP : y.ps[k]? = some P) :
    ∃ g cap cur, (O 2 k).u = .slice (some ⟨g, 0, none⟩) (P.rs.length + 12) cap ∧ Blk wr g cur 54 ∧ P.rs.length + 12 ≤ cap ∧ cap ≤ maxLen ∧ cur.length = cap * 4 ∧ cur.take ((P.rs.length + 12) * 4) = P.rs.flatMap Rgn.vs ++ apN rMk 12 := by
  have hi := h.rp.i2 k (get_lt hP)
  rw [rsO_some hP] at hi
  have ho := h.fam.own 2 k
  rw [hi.1, hi.2] at ho
  rcases ho.2 with ⟨_, h0⟩ | ⟨g, cap, cur, e, _, hB, h1, h2, h3, h4⟩
  · omega
  · exact ⟨g, cap, cur.toList, e, hB, h1, h2, h3, h4⟩
theorem LJ.put {w : World} {n H R lo : Nat} {hv rv : List Value} {X : List (Nat × List Value × TypeId)} {y : Cfg} {O : Nat → Nat → ObG} {wr W : World} (h : LJ w n H R lo hv rv X y O wr) {k : Nat} {P : Par} (hP : y.ps[k]? = some P) {g cap : Nat} {cur : List Value} {rs : List Rgn}
    (he : (O 2 k).u = .slice (some ⟨g, 0, none⟩) (P.rs.length + 12) cap) (hK : Keeps (· = g) wr W) (hB : Blk W g cur 54) (h1 : P.rs.length + 12 ≤ cap) (h2 : cap ≤ maxLen) (h3 : cur.length = cap * 4) (h4 : cur.take ((P.rs.length + 12) * 4) = rs.flatMap Rgn.vs ++ apN rMk 12) (hl : rs.length = P.rs.length) (hf : ∀ z ∈ rs, z.Fine) :
    LJ w n H R lo hv rv X (chg y k (P.rg rs)) (updG O 2 k ⟨(O 2 k).u, (O 2 k).n, rs.flatMap Rgn.vs ++ apN rMk 12⟩) W := by
  have hb : (O 2 k).u.ownBlock = some g := by rw [he]; rfl
  have hk := get_lt hP
  have hi := h.rp.i2 k hk
  rw [rsO_some hP] at hi
  have hK' : Keeps (fun j => some j = (O 2 k).u.ownBlock) wr W := hK.mono fun b _ e => by rw [hb, e]
  have hgl : lo ≤ g := h.fam.low 2 k g hb
  have hfl : (rs.flatMap Rgn.vs ++ apN rMk 12).length = (P.rs.length + 12) * 4 := by
    rw [← h4, List.length_take, h3]
    have : (P.rs.length + 12) * 4 ≤ cap * 4 := Nat.mul_le_mul_right _ h1
    omega
  have hown : W.ownsRow 0 (tyO 2 k).1 (tyO 2 k).2 (O 2 k).u (O 2 k).n (rs.flatMap Rgn.vs ++ apN rMk 12) := by
    rw [hi.1, he]
    exact ⟨hfl, .inr ⟨g, cap, cur.toArray, rfl, Nat.zero_le _, hB, h1, h2, h3, h4⟩⟩
  have hne : ∀ j, Out wr O j → j ≠ g := fun j ho e => ho.2 2 k (by rw [hb, e])
  exact ⟨h.hB.kept hK (hne H h.oH), h.rB.kept hK (hne R h.oR), h.fam.grow 2 k hown (.inl rfl) hK', RP.chg hP hl h.rp, h.fn.chg (List.mem_of_getElem? hP) hf, (cfgO_chg _).trans h.vs, (roomV_chg _).trans h.rvs, h.bnd.chg (List.mem_of_getElem? hP) hl, by rw [chg_len]; exact h.len, h.oH.grow 2 k (.inl rfl) hK.size, h.oR.grow 2 k (.inl rfl) hK.size, h.keeps.trans hK fun k _ e => by omega, h.lo, fun b hb => ⟨(h.bl b hb).1.kept hK (hne b.1 (h.bl b hb).2), (h.bl b hb).2.grow 2 k (.inl rfl) hK.size⟩⟩
theorem LJ.at {w : World} {n H R lo : Nat} {hv rv : List Value} {X : List (Nat × List Value × TypeId)} {y x : Cfg} {O : Nat → Nat → ObG} {wr : World} (h : LJ w n H R lo hv rv X y O wr) (hx : hv = x.vs) {k : Nat} {P : Par} (hP : y.ps[k]? = some P) :
    ∃ q, x.pa = some ⟨q, 0, none⟩ ∧ ∀ i v, (parO y O k).vs[i]? = some v → wr.cell? ⟨q, k * 8 + i, none⟩ = some v := by
  obtain ⟨q, e1, e2⟩ := (RP.beg h.fam h.rp).c2 k (get_lt hP)
  have hv' := h.vs
  rw [hx] at hv'
  have e3 : adO (O 0 2).u = x.pa := by
    simp only [cfgO, Cfg.vs, List.cons.injEq, Value.slice.injEq] at hv'
    exact hv'.2.2.2.2.2.1.1
  exact ⟨q, by rw [← e3]; exact e1, e2⟩

theorem Small.bnd {x : Cfg} (h : Small x) : Bnd x :=
  ⟨h.1, h.2.1, h.2.2.1, fun X hX => by obtain ⟨j, hj⟩ := List.getElem?_of_mem hX; exact h.2.2.2.1 j X hj, fun P hP => by obtain ⟨j, hj⟩ := List.getElem?_of_mem hP; exact (h.2.2.2.2 j P hj).1, fun P hP => by obtain ⟨j, hj⟩ := List.getElem?_of_mem hP; exact (h.2.2.2.2 j P hj).2⟩
theorem OfS.en {x : Cfg} {lo : Nat} {A En er : Int} {a1 : Option Addr} {n1 c1 : Nat} {a2 : Option Addr} {n2 c2 : Nat} {w : World} (h : OfS x lo A En er a1 n1 c1 a2 n2 c2 w) : 0 ≤ En ∧ En ≤ 100000 := by
  rcases h with ⟨_, _, _, _, e, _⟩ | ⟨hm, _, _, e, _⟩
  · omega
  · rw [e]; exact rt_bound hm
theorem own_p {x y : Cfg} (h : x.pure = y.pure) (t : Int) (ht : I64 t) {o0 o1 o2 er : Int} (e : ownA y t = (⟨o0, o1, o2⟩, er)) (w : World) (N : Nat) (hi : x.In w N) (hN : N ≤ w.heap.size) :
    Calls Try.prog 10 #[x.v, .int .i64 t] w fun r w' => r = .returned (.tuple #[.agg #[.int .i64 o0, .int .i64 o1, .int .i64 o2], .int .i64 er]) ∧ Keeps (fun _ => False) w w' := by
  have := Owner_any x t ht w N hi hN
  rw [ownA_tr h, e] at this
  exact this
theorem own_r {x y : Cfg} (h : x.pure = y.pure) (t : Int) (ht : I64 t) {o0 o1 o2 er : Int} (e : ownA y t = (⟨o0, o1, o2⟩, er)) (w : World) (N : Nat) (hi : x.In w N) (hN : N ≤ w.heap.size) :
    Calls Try.prog 7 #[x.v, .int .i64 t] w fun r w' => r = .returned (.tuple #[.agg #[.int .i64 o0, .int .i64 o1, .int .i64 o2], .int .i64 er]) ∧ Keeps (fun _ => False) w w' := by
  have := ROwner_any x t ht w N hi hN pcAll_bd
  have e2 : ownR x t = ownA x t := by
    unfold ownR ownA
    by_cases hm : x.mayB = true
    · rw [own_eq hm]
    · rw [Bool.not_eq_true] at hm; rw [if_pos hm, if_pos hm]
  rw [e2, ownA_tr h, e] at this
  exact this
theorem own_let (y : Cfg) (t : Int) : ∃ o0 o1 o2 er, ownA y t = (⟨o0, o1, o2⟩, er) := ⟨_, _, _, _, rfl⟩
theorem need_p {x y : Cfg} (h : x.pure = y.pure) {n e : Int} (h1 : ndN y = n) (h2 : ndE y = e) (w : World) (N : Nat) (hi : x.In w N) (hN : N ≤ w.heap.size) : Calls Try.prog 11 #[x.v] w fun r w' => r = .returned (.tuple #[.int .i64 n, .int .i64 e]) ∧ Keeps (fun _ => False) w w' := by
  have := Need_any x w N hi hN
  rw [(nd_tr h).1, (nd_tr h).2, h1, h2] at this
  exact this
theorem need_r {x y : Cfg} (h : x.pure = y.pure) {n e : Int} (h1 : ndN y = n) (h2 : ndE y = e) (w : World) (N : Nat) (hi : x.In w N) (hN : N ≤ w.heap.size) : Calls Try.prog 8 #[x.v] w fun r w' => r = .returned (.tuple #[.int .i64 n, .int .i64 e]) ∧ Keeps (fun _ => False) w w' := by
  have := rNeed_any x w N hi hN
  rw [(nd_tr h).1, (nd_tr h).2, h1, h2] at this
  exact this
theorem same_of {c : Cfg} {lo lo' : Nat} {A En er B Fn er2 : Int} {a1 a2 d1 d2 : Option Addr} {n1 c1 n2 c2 m1 f1 m2 f2 : Nat} {w5 : World} (hR1 : OfS c lo A En er a1 n1 c1 a2 n2 c2 w5) (hR2 : OfS c lo' B Fn er2 d1 m1 f1 d2 m2 f2 w5) :
    er = er2 ∧ En = Fn ∧ Calls Try.prog 13 #[.agg #[.int .i64 A, .slice a1 n1 c1, .slice a2 n2 c2, .int .i64 En], .agg #[.int .i64 B, .slice d1 m1 f1, .slice d2 m2 f2, .int .i64 Fn]] w5 fun e w' => e = .returned (.bool true) ∧ Keeps (fun _ => False) w5 w' := by
  rcases hR1 with ⟨h1, rfl, rfl, rfl, rfl, rfl⟩ | ⟨h1, rfl, rfl, rfl, b1, b2, F, G, T, D, rfl, rfl, rfl, rfl, rfl, rfl, hLD, hF, hG⟩
  · rcases hR2 with ⟨_, rfl, rfl, rfl, rfl, rfl⟩ | ⟨h2, _⟩
    · exact ⟨rfl, rfl, sameZ_any 0 _ _ _ _ _ _ _ _ w5⟩
    · rw [h1] at h2; cases h2
  · rcases hR2 with ⟨h2, _⟩ | ⟨_, rfl, rfl, rfl, b1', b2', F', G', T', D', rfl, rfl, rfl, rfl, rfl, rfl, hLD', hF', hG'⟩
    · rw [h1] at h2; cases h2
    · have hk := Cfg.mayB_iff.1 h1
      exact ⟨rfl, rfl, sameL_any c.ps.length c.hs.length b1 b2 b1' b2' F F' G G' T T' D D' _ _ w5 hLD.duo hLD'.duo (eqd_of hF hG hF' hG') hk.2.2.1 hk.2.2.2.1⟩
theorem LJ.box {w : World} {n H R lo : Nat} {hv rv : List Value} {X : List (Nat × List Value × TypeId)} {y : Cfg} {O : Nat → Nat → ObG} {wr : World} (h : LJ w n H R lo hv rv X y O wr) (cs : List Value) (t : TypeId) : LJ w n H R lo hv rv ((wr.heap.size, cs, t) :: X) y O (wr.alloc (.cells cs.toArray t)) := by
  have k : Keeps (fun _ => False) wr (wr.alloc (.cells cs.toArray t)) := (Keeps.refl _ _).alloc _
  obtain ⟨z1, z2, z3, z4, z5, z6, z7, z8, z9, z10, z11, z12, z13, z14⟩ := h.kept k
  refine ⟨z1, z2, z3, z4, z5, z6, z7, z8, z9, z10, z11, z12, z13, fun b hb => ?_⟩
  rcases List.mem_cons.1 hb with rfl | hb
  · exact ⟨Blk.new _ _ _, h.fam.outNew k (Nat.le_refl _) (by simp)⟩
  · exact z14 b hb
theorem LJ.drop {w : World} {n H R lo : Nat} {hv rv : List Value} {X : List (Nat × List Value × TypeId)} {b : Nat × List Value × TypeId} {y : Cfg} {O : Nat → Nat → ObG} {wr : World} (h : LJ w n H R lo hv rv (b :: X) y O wr) : LJ w n H R lo hv rv X y O wr :=
  ⟨h.hB, h.rB, h.fam, h.rp, h.fn, h.vs, h.rvs, h.bnd, h.len, h.oH, h.oR, h.keeps, h.lo, fun c hc => h.bl c (List.mem_cons_of_mem _ hc)⟩
/-- A region's page in a row that begins with the regions. -/
theorem rgnP_cell {wr : World} {g : Nat} {cur : List Value} {n : Nat} {rs : List Rgn} {r : List Value} (hB : Blk wr g cur 54) (ht : cur.take n = rs.flatMap Rgn.vs ++ r) {j : Nat} {a : Rgn} (ha : rs[j]? = some a) : wr.cell? ⟨g, j * 4, none⟩ = some (.int .i64 a.page) := by
  refine hB.cell ?_
  have h1 : (rs.flatMap Rgn.vs)[j * 4 + 0]? = some (.int .i64 a.page) := flat_get eRgn rs j a 0 _ ha rfl
  have h2 : (rs.flatMap Rgn.vs ++ r)[j * 4 + 0]? = some (.int .i64 a.page) := by rw [List.getElem?_append_left (get_lt h1)]; exact h1
  rw [← ht] at h2
  rw [List.getElem?_take] at h2
  split at h2
  · exact h2
  · cases h2
theorem LJ.page {w : World} {n H R lo : Nat} {hv rv : List Value} {X : List (Nat × List Value × TypeId)} {y : Cfg} {O : Nat → Nat → ObG} {wr : World} (h : LJ w n H R lo hv rv X y O wr) {j m g cap k : Nat} (hP : ∃ P, y.ps[j]? = some P ∧ P.rs.length = m) (he : (O 2 j).u = .slice (some ⟨g, 0, none⟩) (m + 12) cap) (hk : k < m) {pg : Int} (hpg : I64 pg) :
    (∃ v, wr.cell? ⟨g, k * 4, none⟩ = some (.int .i64 v)) ∧ wr.frozen? ⟨g, k * 4, none⟩ = false ∧ ∃ y' O', LJ w n H R lo hv rv X y' O' (wr.setCell ⟨g, k * 4, none⟩ (.int .i64 pg)) ∧ (∃ P, y'.ps[j]? = some P ∧ P.rs.length = m) ∧ (O' 2 j).u = .slice (some ⟨g, 0, none⟩) (m + 12) cap := by
  obtain ⟨P, hP, hm⟩ := hP
  obtain ⟨g', cap', cur, e, hB, h1, h2, h3, h4⟩ := h.reg hP
  rw [he] at e
  obtain ⟨rfl, rfl⟩ : g = g' ∧ cap = cap' := by simp at e; exact ⟨e.1, e.2.2⟩
  obtain ⟨a, ha⟩ : ∃ a, P.rs[k]? = some a := ⟨_, List.getElem?_eq_getElem (by omega)⟩
  have hf := h.fn.p P (List.mem_of_getElem? hP)
  refine ⟨⟨_, rgnP_cell hB h4 ha⟩, hB.frozen _, chg y j (P.rg (P.rs.set k (a.pg pg))), updG O 2 j ⟨(O 2 j).u, (O 2 j).n, (P.rs.set k (a.pg pg)).flatMap Rgn.vs ++ apN rMk 12⟩, ?_, ⟨_, chg_self (get_lt hP), by simp [Par.rg, hm]⟩, ?_⟩
  · refine h.put hP (g := g) (cap := cap) (cur := cur.set (k * 4) (.int .i64 pg)) (by rw [he, hm]) ((Keeps.refl _ _).setCell _ _ fun _ => rfl) (hB.setCell _ _) h1 h2 (by rw [List.length_set]; exact h3) ?_ (List.length_set ..) fun z hz => ?_
    · rw [List.take_set, h4]; exact flat_setR _ _ _ _ _ ha
    · rcases List.mem_or_eq_of_mem_set hz with hz | rfl
      · exact hf.1 z hz
      · have := hf.1 a (List.mem_of_getElem? ha)
        exact ⟨hpg, this.2⟩
  · rw [updG_self]; exact he
/-- One of the blocks besides is written over. -/
theorem LJ.over {w : World} {n H R lo : Nat} {hv rv : List Value} {X : List (Nat × List Value × TypeId)} {b : Nat} {cs : List Value} {t : TypeId} {y : Cfg} {O : Nat → Nat → ObG} {wr W : World} (h : LJ w n H R lo hv rv ((b, cs, t) :: X) y O wr) (hK : Keeps (· = b) wr W) (hl : lo ≤ b) (hH : b ≠ H) (hR : b ≠ R) (hX : ∀ e ∈ X, e.1 ≠ b) : LJ w n H R lo hv rv X y O W := by
  have ho := (h.bl _ List.mem_cons_self).2
  exact ⟨h.hB.kept hK (Ne.symm hH), h.rB.kept hK (Ne.symm hR), h.fam.kept hK fun i j k hk e => ho.2 i j (by rw [hk, e]), h.rp, h.fn, h.vs, h.rvs, h.bnd, h.len, h.oH.ge hK.size, h.oR.ge hK.size, h.keeps.trans hK fun k _ e => by omega, h.lo, fun c hc => ⟨(h.bl c (List.mem_cons_of_mem _ hc)).1.kept hK (hX c hc), (h.bl c (List.mem_cons_of_mem _ hc)).2.ge hK.size⟩⟩
theorem set3b {w : World} {C : Nat} {a0 a1 a2 : Value} {t : TypeId} (hB : Blk w C [a0, a1, a2] t) (v0 v1 v2 : Value) :
    Blk (((w.setCell ⟨C, 0, none⟩ v0).setCell ⟨C, 1, none⟩ v1).setCell ⟨C, 2, none⟩ v2) C [v0, v1, v2] t ∧ Keeps (· = C) w (((w.setCell ⟨C, 0, none⟩ v0).setCell ⟨C, 1, none⟩ v1).setCell ⟨C, 2, none⟩ v2) :=
  ⟨((hB.setCell 0 v0).setCell 1 v1).setCell 2 v2, (((Keeps.refl (· = C) w).setCell ⟨C, 0, none⟩ v0 fun _ => rfl).setCell ⟨C, 1, none⟩ v1 fun _ => rfl).setCell ⟨C, 2, none⟩ v2 fun _ => rfl⟩
theorem OfS.past {x : Cfg} {lo : Nat} {A En er : Int} {a1 a2 : Option Addr} {n1 c1 n2 c2 : Nat} {w w' : World} {S : Nat → Prop} (h : OfS x lo A En er a1 n1 c1 a2 n2 c2 w) (hK : Keeps S w w') (hS : ∀ k, S k → k < lo) : OfS x lo A En er a1 n1 c1 a2 n2 c2 w' := by
  rcases h with h | ⟨h1, h2, h3, h4, b1, b2, F, G, T, D, e1, e2, e3, e4, e5, e6, h5, h6, h7⟩
  · exact .inl h
  · exact .inr ⟨h1, h2, h3, h4, b1, b2, F, G, T, D, e1, e2, e3, e4, e5, e6, h5.kept hK hS (Nat.le_refl _), h6, h7⟩
/-- All that the end looks at. -/
structure FinI (w : World) (L H R lo : Nat) (hv rv : List Value) (XE : List (Nat × List Value × TypeId)) (y X Y : Cfg) (O' : Nat → Nat → ObG) (D E23 E25 E27 E13 lo2 lo4 N : Nat) (A2 En2 er2 A3 En3 er3 s0 s1 s2 : Int) (g1 g2 i1 i2 : Option Addr) (m3 f3 m4 f4 m5 f5 m6 f6 : Nat) (V : World) : Prop where
  lj : LJ w L H R lo hv rv XE y O' V
  d : Blk V D Y.vs 26
  xin : X.In V N
  yin : Y.In V N
  nn : N ≤ V.heap.size
  o2 : OfS Y lo2 A2 En2 er2 g1 m3 f3 g2 m4 f4 V
  b23 : Blk V E23 [.int .i64 A2, .slice g1 m3 f3, .slice g2 m4 f4, .int .i64 En2] 31
  b25 : Blk V E25 [.int .i64 s0, .int .i64 s1, .int .i64 s2] 36
  o3 : OfS Y lo4 A3 En3 er3 i1 m5 f5 i2 m6 f6 V
  b27 : Blk V E27 [.int .i64 A3, .slice i1 m5 f5, .slice i2 m6 f6, .int .i64 En3] 31
  b13 : Blk V E13 [.int .i64 s0, .int .i64 s1, .int .i64 s2] 36
theorem FinI.kept {w : World} {L H R lo : Nat} {hv rv : List Value} {XE : List (Nat × List Value × TypeId)} {y X Y : Cfg} {O' : Nat → Nat → ObG} {D E23 E25 E27 E13 lo2 lo4 N : Nat} {A2 En2 er2 A3 En3 er3 s0 s1 s2 : Int} {g1 g2 i1 i2 : Option Addr} {m3 f3 m4 f4 m5 f5 m6 f6 : Nat} {V V' : World}
    (h : FinI w L H R lo hv rv XE y X Y O' D E23 E25 E27 E13 lo2 lo4 N A2 En2 er2 A3 En3 er3 s0 s1 s2 g1 g2 i1 i2 m3 f3 m4 f4 m5 f5 m6 f6 V) (hK : Keeps (fun _ => False) V V') : FinI w L H R lo hv rv XE y X Y O' D E23 E25 E27 E13 lo2 lo4 N A2 En2 er2 A3 En3 er3 s0 s1 s2 g1 g2 i1 i2 m3 f3 m4 f4 m5 f5 m6 f6 V' :=
  ⟨h.lj.kept hK, h.d.kept hK fun h => h, h.xin.keeps h.nn hK, h.yin.keeps h.nn hK, Nat.le_trans h.nn hK.size, h.o2.grow hK, h.b23.kept hK fun h => h, h.b25.kept hK fun h => h, h.o3.grow hK, h.b27.kept hK fun h => h, h.b13.kept hK fun h => h⟩
end Go.Proofs.Ythaoopaafdgioab
