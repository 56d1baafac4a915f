import Derived.Test.YtnkfdmlpjgmckaaKz
import Derived.Test.YtnkfdmlpjgmckaaKq
namespace Go.Proofs.Ytnkfdmlpjgmckaa
open Go.RowKit
set_option linter.unusedVariables false
set_option linter.unusedSimpArgs false
set_option maxRecDepth 6000

/-- All that stands in a configuration may stand there. -/
structure Fn (y : Cfg) : Prop where
  c : ∀ X ∈ y.cs, ∀ z ∈ X.ws, z.Fine
  p : ∀ P ∈ y.ps, (∀ z ∈ P.rs, z.Fine) ∧ (∀ z ∈ P.ps, z.Fine) ∧ (∀ n ∈ P.ns, I64 n) ∧ P.name.size ≤ 9223372036854775807
  h : ∀ z ∈ y.hs, z.Fine
  ns : ∀ n ∈ y.ns, I64 n
theorem Cfg.In.fn {y : Cfg} {w : World} {N : Nat} (h : y.In w N) : Fn y :=
  ⟨fun X hX => (h.cin X hX).fine, fun P hP => ⟨(h.pin P hP).rfine, (h.pin P hP).pfine, (h.pin P hP).ns, (h.pin P hP).name⟩, h.hfine, h.ns⟩
theorem Beg.in2 {y : Cfg} {w : World} {O : Nat → Nat → ObG} (h : Beg y w O) (hy : Fn y) : (cfgO y O).In w w.heap.size := by
  have hl1 : (cfgO y O).cs.length = y.cs.length := by simp [cfgO]
  have hl2 : (cfgO y O).ps.length = y.ps.length := by simp [cfgO]
  have g1 : ∀ j X, (cfgO y O).cs[j]? = some X → j < y.cs.length ∧ X = coreO y O j := fun j X hX => by
    have hj : j < y.cs.length := by rw [← hl1]; exact get_lt hX
    refine ⟨hj, ?_⟩
    simp [cfgO, hj] at hX
    exact hX.symm
  have g2 : ∀ j P, (cfgO y O).ps[j]? = some P → j < y.ps.length ∧ P = parO y O j := fun j P hP => by
    have hj : j < y.ps.length := by rw [← hl2]; exact get_lt hP
    refine ⟨hj, ?_⟩
    simp [cfgO, hj] at hP
    exact hP.symm
  have s0 : SegA Core.vs 1 w (cfgO y O).ca (cfgO y O).cs := by
    by_cases h0 : y.cs.length = 0
    · exact .inl (List.eq_nil_of_length_eq_zero (by rw [hl1]; exact h0))
    · obtain ⟨g, ea, _⟩ := h.c0 0 (by omega)
      refine .inr ⟨g, 0, ea, fun j X hX i v hv => ?_⟩
      obtain ⟨hj, rfl⟩ := g1 j X hX
      obtain ⟨g', ea', hc⟩ := h.c0 j hj
      rw [ea] at ea'
      cases ea'
      have hi : i = 0 := by have := get_lt hv; simp at this; exact this
      subst hi
      cases hv
      simpa using hc
  have s2 : SegA Par.vs 8 w (cfgO y O).pa (cfgO y O).ps := by
    by_cases h0 : y.ps.length = 0
    · exact .inl (List.eq_nil_of_length_eq_zero (by rw [hl2]; exact h0))
    · obtain ⟨g, ea, _⟩ := h.c2 0 (by omega)
      refine .inr ⟨g, 0, ea, fun j X hX i v hv => ?_⟩
      obtain ⟨hj, rfl⟩ := g2 j X hX
      obtain ⟨g', ea', hc⟩ := h.c2 j hj
      rw [ea] at ea'
      cases ea'
      rw [Nat.zero_add]
      exact hc i v hv
  refine ⟨s0, fun hn a ha => segA_lt s0 (fun _ => by simp) hn a ha, by rw [hl1]; exact h.c0l, fun X hX => ?_, s2, fun hn a ha => segA_lt s2 (fun _ => by simp) hn a ha, by rw [hl2]; exact h.c2l, fun P hP => ?_, h.c5, fun hn a ha => segA_lt h.c5 (fun _ => by simp) hn a ha, h.c5l, hy.h, hy.ns⟩
  · obtain ⟨j, hj⟩ := List.getElem?_of_mem hX
    obtain ⟨hjl, rfl⟩ := g1 j X hj
    obtain ⟨Y, hY⟩ : ∃ Y, y.cs[j]? = some Y := ⟨_, List.getElem?_eq_getElem hjl⟩
    have hw := wsO_some hY
    obtain ⟨a1, a2, a3⟩ := h.i1 j Y hY
    have a1' : SegA Win.vs 3 w (coreO y O j).a (coreO y O j).ws := by unfold coreO; rw [hw]; exact a1
    exact ⟨a1', fun hn a ha => segA_lt a1' (fun _ => by simp) hn a ha, by unfold coreO; rw [hw]; exact ⟨a2, a3⟩, by unfold coreO; rw [hw]; exact hy.c Y (List.mem_of_getElem? hY)⟩
  · obtain ⟨j, hj⟩ := List.getElem?_of_mem hP
    obtain ⟨hjl, rfl⟩ := g2 j P hj
    obtain ⟨Y, hY⟩ : ∃ Y, y.ps[j]? = some Y := ⟨_, List.getElem?_eq_getElem hjl⟩
    obtain ⟨⟨a1, a2, a3⟩, b1, b2, b3⟩ := h.i2 j Y hY
    have hyp := hy.p Y (List.mem_of_getElem? hY)
    rw [parO_some hY]
    exact ⟨a1, fun hn a ha => segA_lt a1 (fun _ => by simp) hn a ha, ⟨a2, a3⟩, hyp.1, b1, fun hn a ha => segA_lt b1 (fun _ => by simp) hn a ha, ⟨b2, b3⟩, hyp.2.1, hyp.2.2.1, hyp.2.2.2⟩

theorem Bnd.tr {x y : Cfg} (h : x.pure = y.pure) (hb : Bnd x) : Bnd y := by
  obtain ⟨l1, l2, l3⟩ := pure_len h
  have hc : x.cs.map Core.ws = y.cs.map Core.ws := congrArg PCfg.cs h
  have hp : x.ps.map Par.pure = y.ps.map Par.pure := congrArg PCfg.ps h
  refine ⟨l1 ▸ hb.cs, l2 ▸ hb.ps, l3 ▸ hb.hs, fun Y hY => ?_, fun P hP => ?_, fun P hP => ?_⟩
  · obtain ⟨j, hj⟩ := List.getElem?_of_mem hY
    obtain ⟨X, hX, e⟩ := map_at Core.ws hc.symm hj
    rw [e]; exact hb.ws X (List.mem_of_getElem? hX)
  · obtain ⟨j, hj⟩ := List.getElem?_of_mem hP
    obtain ⟨X, hX, e⟩ := map_at Par.pure hp.symm hj
    have := congrArg PPar.rs e
    rw [show P.rs = X.rs from this]; exact hb.rs X (List.mem_of_getElem? hX)
  · obtain ⟨j, hj⟩ := List.getElem?_of_mem hP
    obtain ⟨X, hX, e⟩ := map_at Par.pure hp.symm hj
    have := congrArg PPar.ps e
    rw [show P.ps = X.ps from this]; exact hb.qs X (List.mem_of_getElem? hX)
theorem ps_at {xs ys : List Par} (h : xs.map Par.pure = ys.map Par.pure) (k : Nat) : (xs[k]? = none ∧ ys[k]? = none) ∨ ∃ X Y, xs[k]? = some X ∧ ys[k]? = some Y ∧ X.pure = Y.pure := by
  have hl : xs.length = ys.length := by simpa using congrArg List.length h
  cases hx : xs[k]? with
  | none =>
    rw [List.getElem?_eq_none_iff] at hx
    exact .inl ⟨rfl, List.getElem?_eq_none_iff.2 (by omega)⟩
  | some X =>
    obtain ⟨Y, hY, e⟩ := map_at Par.pure h hx
    exact .inr ⟨X, Y, rfl, hY, e⟩
theorem RP.tr {x y : Cfg} (h : x.pure = y.pure) {j1 j2 : Nat} {hs : List Chn} {k : Nat} {O : Nat → Nat → ObG} (hr : RP x j1 j2 hs k O) : RP y j1 j2 hs k O := by
  have hc : x.cs.map Core.ws = y.cs.map Core.ws := congrArg PCfg.cs h
  have hp : x.ps.map Par.pure = y.ps.map Par.pure := congrArg PCfg.ps h
  have e1 : wsO x = wsO y := by
    funext i
    unfold wsO
    rcases ws_at hc i with ⟨h1, h2⟩ | ⟨X, Y, h1, h2, e⟩
    · rw [h1, h2]
    · rw [h1, h2]; exact e
  have e2 : rsO x = rsO y := by
    funext i
    unfold rsO
    rcases ps_at hp i with ⟨h1, h2⟩ | ⟨X, Y, h1, h2, e⟩
    · rw [h1, h2]
    · rw [h1, h2]; exact congrArg PPar.rs e
  have e3 : psO x = psO y := by
    funext i
    unfold psO
    rcases ps_at hp i with ⟨h1, h2⟩ | ⟨X, Y, h1, h2, e⟩
    · rw [h1, h2]
    · rw [h1, h2]; exact congrArg PPar.ps e
  have e4 : parC x = parC y := by
    funext i r q
    unfold parC
    rcases ps_at hp i with ⟨h1, h2⟩ | ⟨X, Y, h1, h2, e⟩
    · rw [h1, h2]
    · rw [h1, h2]
      have := e
      simp only [Par.pure, PPar.mk.injEq] at this
      obtain ⟨a, b, c, d, f, g, _, _⟩ := this
      simp only [parV, a, b, c, d, f, g]
  obtain ⟨c0n, c0, c1n, c1, c2n, c2, c3n, c3, c4n, c4, c5n, c5, i1, i2, i3, i4, z1, z2, z3, z4⟩ := hr
  rw [e1] at c0 i1
  rw [e2, e3, e4] at c2
  rw [e2] at i2
  rw [e3] at i3
  exact ⟨c0n, c0, c1n, c1, c2n, c2, c3n, c3, c4n, c4, c5n, c5, i1, i2, i3, i4, z1, z2, z3, z4⟩

/-! ### The first and the last window change places -/
theorem flat_set3 (r : List Value) (y : Win) : ∀ (ws : List Win) (j : Nat), j < ws.length →
    ((((ws.flatMap Win.vs ++ r).set (j * 3) (.int .i64 y.p)).set (j * 3 + 1) (.int .i64 y.u)).set (j * 3 + 2) (.int .i64 y.s)) = (ws.set j y).flatMap Win.vs ++ r
  | [], j, h => by simp at h
  | a :: ws, 0, h => rfl
  | a :: ws, j + 1, h => by
    have ih := flat_set3 r y ws j (by simpa using h)
    have e : (j + 1) * 3 = j * 3 + 3 := by omega
    rw [e, List.set_cons_succ, List.flatMap_cons, List.flatMap_cons, List.append_assoc, List.append_assoc, ← ih]
    rfl
def swp (ws : List Win) (a z : Win) : List Win := (ws.set (ws.length - 1) a).set 0 z
theorem swp_len (ws : List Win) (a z : Win) : (swp ws a z).length = ws.length := by simp [swp]
theorem swp_mem {ws : List Win} {a z : Win} (ha : a ∈ ws) (hz : z ∈ ws) {v : Win} (h : v ∈ swp ws a z) : v ∈ ws := by
  unfold swp at h
  rcases List.mem_or_eq_of_mem_set h with h | rfl
  · rcases List.mem_or_eq_of_mem_set h with h | rfl
    · exact h
    · exact ha
  · exact hz
def chg (y : Cfg) (k : Nat) (X : Core) : Cfg := ⟨y.frames, y.major, y.kernel, y.room, y.ca, y.cc, y.cs.set k X, y.pa, y.pc, y.ps, y.ha, y.hc, y.hs⟩
theorem chg_at {y : Cfg} {k : Nat} {X : Core} (i : Nat) (hk : k < y.cs.length) : wsO (chg y k X) i = if i = k then X.ws else wsO y i := by
  unfold wsO chg
  by_cases e : i = k
  · subst e; rw [if_pos rfl]; dsimp only; rw [List.getElem?_set_self hk]; rfl
  · rw [if_neg e]; dsimp only; rw [List.getElem?_set_ne (Ne.symm e)]
theorem chg_len (y : Cfg) (k : Nat) (X : Core) : (chg y k X).cs.length = y.cs.length := by simp [chg]
theorem chg_mem {y : Cfg} {k : Nat} {X Z : Core} (h : Z ∈ (chg y k X).cs) : Z ∈ y.cs ∨ Z = X := List.mem_or_eq_of_mem_set h
theorem RP.chg {y : Cfg} {O : Nat → Nat → ObG} {k : Nat} {X : Core} (hk : k < y.cs.length) (hl : X.ws.length = (wsO y k).length) (h : RP y y.cs.length y.ps.length y.hs 12 O) :
    RP (chg y k X) (chg y k X).cs.length (chg y k X).ps.length (chg y k X).hs 12 (upd O 1 k ⟨(O 1 k).u, (O 1 k).n, X.ws.flatMap Win.vs ++ apN wMk 12⟩) := by
  obtain ⟨c0n, c0, c1n, c1, c2n, c2, c3n, c3, c4n, c4, c5n, c5, i1, i2, i3, i4, z1, z2, z3, z4⟩ := h
  have eu : ∀ a b, (upd O 1 k ⟨(O 1 k).u, (O 1 k).n, X.ws.flatMap Win.vs ++ apN wMk 12⟩ a b).u = (O a b).u := fun a b => by
    unfold upd; split
    · rename_i e; rw [e.1, e.2]
    · rfl
  have en : ∀ a b, (upd O 1 k ⟨(O 1 k).u, (O 1 k).n, X.ws.flatMap Win.vs ++ apN wMk 12⟩ a b).n = (O a b).n := fun a b => by
    unfold upd; split
    · rename_i e; rw [e.1, e.2]
    · rfl
  have ex : ∀ a b, a ≠ 1 → upd O 1 k ⟨(O 1 k).u, (O 1 k).n, X.ws.flatMap Win.vs ++ apN wMk 12⟩ a b = O a b := fun a b h => upd_ne O _ (by omega)
  have e0 : ∀ b, upd O 1 k ⟨(O 1 k).u, (O 1 k).n, X.ws.flatMap Win.vs ++ apN wMk 12⟩ 0 b = O 0 b := fun b => ex 0 b (by omega)
  have hw : ∀ i, (wsO (Go.Proofs.Ytnkfdmlpjgmckaa.chg y k X) i).length = (wsO y i).length := fun i => by
    rw [chg_at i hk]; split
    · rename_i e; rw [e, hl]
    · rfl
  rw [chg_len]
  show RP (Go.Proofs.Ytnkfdmlpjgmckaa.chg y k X) y.cs.length y.ps.length y.hs 12 _
  refine ⟨?_, ?_, ?_, ?_, ?_, ?_, ?_, ?_, ?_, ?_, ?_, ?_, fun i hi => ?_, fun i hi => ?_, fun i hi => ?_, fun i hi => ?_, fun i hi => ?_, fun i hi => ?_, fun i hi => ?_, fun i hi => ?_⟩
  · rw [e0]; exact c0n
  · rw [e0, c0]; congr 1
    · exact apN_congr fun i hi => by rw [hw, eu]

  · rw [e0]; exact c1n
  · rw [e0, c1]; exact apN_congr fun i hi => by rw [eu]
  · rw [e0]; exact c2n
  · rw [e0, c2]; congr 1

  · rw [e0]; exact c3n
  · rw [e0, c3]; exact apN_congr fun i hi => by rw [eu]
  · rw [e0]; exact c4n
  · rw [e0, c4]; exact apN_congr fun i hi => by rw [eu]
  · rw [e0]; exact c5n
  · rw [e0]; exact c5
  · rw [hw, en]
    refine ⟨(i1 i hi).1, ?_⟩
    rw [chg_at i hk]
    by_cases e : i = k
    · subst e; rw [if_pos rfl, upd_self]
    · rw [if_neg e, upd_ne O _ (by omega)]; exact (i1 i hi).2
  · rw [ex 2 i (by omega)]; exact i2 i hi
  · rw [ex 3 i (by omega)]; exact i3 i hi
  · rw [ex 4 i (by omega)]; exact i4 i hi
  · rw [upd_ne O _ (by omega)]; exact z1 i hi
  · rw [ex 2 i (by omega)]; exact z2 i hi
  · rw [ex 3 i (by omega)]; exact z3 i hi
  · rw [ex 4 i (by omega)]; exact z4 i hi
theorem cfgO_chg {y : Cfg} {O : Nat → Nat → ObG} {k : Nat} {X : Core} (xs : List Value) : (cfgO (chg y k X) (upd O 1 k ⟨(O 1 k).u, (O 1 k).n, xs⟩)).vs = (cfgO y O).vs := by
  have e0 : ∀ b, upd O 1 k ⟨(O 1 k).u, (O 1 k).n, xs⟩ 0 b = O 0 b := fun b => upd_ne O _ (by omega)
  simp only [cfgO, Cfg.vs, e0, List.length_map, List.length_range, chg_len]
  rfl
theorem roomV_chg {O : Nat → Nat → ObG} {k : Nat} (o : ObG) : roomV (upd O 1 k o) = roomV O := by
  have e0 : ∀ b, upd O 1 k o 0 b = O 0 b := fun b => upd_ne O _ (by omega)
  simp only [roomV, e0]
theorem Bnd.chg {y : Cfg} {k : Nat} {X : Core} (hb : Bnd y) (hX : X.ws.length ≤ 2147483647) : Bnd (chg y k X) :=
  ⟨by rw [chg_len]; exact hb.cs, hb.ps, hb.hs, fun Z hZ => by
    rcases chg_mem hZ with h | rfl
    · exact hb.ws Z h
    · exact hX, hb.rs, hb.qs⟩
theorem Fn.chg {y : Cfg} {k : Nat} {X : Core} (hb : Fn y) (hX : ∀ z ∈ X.ws, z.Fine) : Fn (chg y k X) :=
  ⟨fun Z hZ => by
    rcases chg_mem hZ with h | rfl
    · exact hb.c Z h
    · exact hX, hb.p, hb.h, hb.ns⟩
theorem tot_chg {y : Cfg} {k : Nat} {X Y : Core} (hY : y.cs[k]? = some Y) (hX : X.ws.length = Y.ws.length) : tot (chg y k X).cs (chg y k X).cs.length = tot y.cs y.cs.length := by
  unfold tot
  rw [List.take_length, List.take_length]
  congr 1
  unfold chg
  dsimp only
  apply List.ext_getElem?
  intro i
  rw [List.getElem?_map, List.getElem?_map]
  by_cases e : k = i
  · subst e
    rw [List.getElem?_set_self (get_lt hY), hY]
    exact congrArg some hX
  · rw [List.getElem?_set_ne e]

/-- What holds while the windows change places. -/
structure LI (w : World) (n H R lo : Nat) (hv rv : List Value) (y : Cfg) (O : Nat → Nat → ObG) (wr : World) : Prop where
  hB : Blk wr H hv 27
  rB : Blk wr R rv 53
  fam : FamO lo wr O
  rp : RP y y.cs.length y.ps.length y.hs 12 O
  fn : Fn y
  vs : (cfgO y O).vs = hv
  rvs : roomV O = rv
  bnd : Bnd y
  tot : tot y.cs y.cs.length ≤ 2147483647
  len : y.cs.length = n
  oH : Out wr O H
  oR : Out wr O R
  keeps : Keeps (fun k => lo ≤ k) w wr
  lo : w.heap.size ≤ lo
theorem LI.kept {w : World} {n H R lo : Nat} {hv rv : List Value} {y : Cfg} {O : Nat → Nat → ObG} {wr W : World} (h : LI w n H R lo hv rv y O wr) (hK : Keeps (fun _ => False) wr W) : LI w n H R lo hv rv y O W :=
  ⟨h.hB.kept hK fun h => h, h.rB.kept hK fun h => h, h.fam.kept hK fun _ _ _ _ h => h, h.rp, h.fn, h.vs, h.rvs, h.bnd, h.tot, h.len, h.oH.ge hK.size, h.oR.ge hK.size, h.keeps.trans hK fun _ _ h => h.elim, h.lo⟩
theorem LI.in {w : World} {n H R lo : Nat} {hv rv : List Value} {y : Cfg} {O : Nat → Nat → ObG} {wr : World} (h : LI w n H R lo hv rv y O wr) : (cfgO y O).In wr wr.heap.size := (RP.beg h.fam h.rp).in2 h.fn
/-- A core of it, in its own block. -/
theorem LI.core {w : World} {n H R lo : Nat} {hv rv : List Value} {y : Cfg} {O : Nat → Nat → ObG} {wr : World} (h : LI w n H R lo hv rv y O wr) {k : Nat} {X : Core} (hX : y.cs[k]? = some X) :
    ∃ g cap cur, (O 1 k).u = .slice (some ⟨g, 0, none⟩) (X.ws.length + 12) cap ∧ Blk wr g cur 40 ∧ X.ws.length + 12 ≤ cap ∧ cap ≤ maxLen ∧ cur.length = cap * 3 ∧ cur.take ((X.ws.length + 12) * 3) = X.ws.flatMap Win.vs ++ apN wMk 12 := by
  have hi := h.rp.i1 k (get_lt hX)
  rw [wsO_some hX] at hi
  have ho := h.fam.own 1 k
  rw [hi.1, hi.2] at ho
  rcases ho.2 with ⟨_, h0⟩ | ⟨g, cap, cur, e, _, hB, h1, h2, h3, h4⟩
  · omega
  · exact ⟨g, cap, cur.toList, e, hB, h1, h2, h3, h4⟩
theorem LI.put {w : World} {n H R lo : Nat} {hv rv : List Value} {y : Cfg} {O : Nat → Nat → ObG} {wr W : World} (h : LI w n H R lo hv rv y O wr) {k : Nat} {X : Core} (hX : y.cs[k]? = some X) {g cap : Nat} {cur : List Value} {ws : List Win}
    (he : (O 1 k).u = .slice (some ⟨g, 0, none⟩) (X.ws.length + 12) cap) (hK : Keeps (· = g) wr W) (hB : Blk W g cur 40) (h1 : X.ws.length + 12 ≤ cap) (h2 : cap ≤ maxLen) (h3 : cur.length = cap * 3) (h4 : cur.take ((X.ws.length + 12) * 3) = ws.flatMap Win.vs ++ apN wMk 12) (hl : ws.length = X.ws.length) (hf : ∀ z ∈ ws, z.Fine) :
    LI w n H R lo hv rv (chg y k ⟨X.a, X.c, ws⟩) (upd O 1 k ⟨(O 1 k).u, (O 1 k).n, ws.flatMap Win.vs ++ apN wMk 12⟩) W := by
  have hb : (O 1 k).u.ownBlock = some g := by rw [he]; rfl
  have hk := get_lt hX
  have hi := h.rp.i1 k hk
  rw [wsO_some hX] at hi
  have hK' : Keeps (fun j => some j = (O 1 k).u.ownBlock) wr W := hK.mono fun b _ e => by rw [hb, e]
  have hgl : lo ≤ g := h.fam.low 1 k g hb
  have hfl : (ws.flatMap Win.vs ++ apN wMk 12).length = (X.ws.length + 12) * 3 := by
    rw [← h4, List.length_take, h3]
    have : (X.ws.length + 12) * 3 ≤ cap * 3 := Nat.mul_le_mul_right _ h1
    omega
  have hown : W.ownsRow 0 (tyO 1 k).1 (tyO 1 k).2 (O 1 k).u (O 1 k).n (ws.flatMap Win.vs ++ apN wMk 12) := by
    rw [hi.1, he]
    exact ⟨hfl, .inr ⟨g, cap, cur.toArray, rfl, Nat.zero_le _, hB, h1, h2, h3, h4⟩⟩
  have hne : ∀ j, Out wr O j → j ≠ g := fun j ho e => ho.2 1 k (by rw [hb, e])
  refine ⟨h.hB.kept hK (hne H h.oH), h.rB.kept hK (hne R h.oR), h.fam.grow 1 k hown (.inl rfl) hK', RP.chg hk (by rw [wsO_some hX]; exact hl) h.rp, h.fn.chg hf, (cfgO_chg _).trans h.vs, (roomV_chg _).trans h.rvs, h.bnd.chg (by have := h.bnd.ws X (List.mem_of_getElem? hX); show ws.length ≤ _; omega), ?_, by rw [chg_len]; exact h.len, h.oH.grow 1 k (.inl rfl) hK.size, h.oR.grow 1 k (.inl rfl) hK.size, h.keeps.trans hK fun b _ e => by omega, h.lo⟩
  rw [tot_chg hX hl]
  exact h.tot
end Go.Proofs.Ytnkfdmlpjgmckaa
namespace Go.Proofs.Ytnkfdmlpjgmckaa
open Go.RowKit
set_option linter.unusedVariables false
set_option maxRecDepth 6000

theorem LI.at {w : World} {n H R lo : Nat} {hv rv : List Value} {y x : Cfg} {O : Nat → Nat → ObG} {wr : World} (h : LI w n H R lo hv rv y O wr) (hx : hv = x.vs) {k : Nat} {X : Core} (hX : y.cs[k]? = some X) :
    ∃ q g cap cur, x.ca = some ⟨q, 0, none⟩ ∧ wr.cell? ⟨q, k, none⟩ = some (.slice (some ⟨g, 0, none⟩) X.ws.length cap) ∧ (O 1 k).u = .slice (some ⟨g, 0, none⟩) (X.ws.length + 12) cap ∧ Blk wr g cur 40 ∧ X.ws.length + 12 ≤ cap ∧ cap ≤ maxLen ∧ cur.length = cap * 3 ∧ cur.take ((X.ws.length + 12) * 3) = X.ws.flatMap Win.vs ++ apN wMk 12 := by
  obtain ⟨g, cap, cur, he, h1, h2, h3, h4, h5⟩ := h.core hX
  obtain ⟨q, e1, e2⟩ := (RP.beg h.fam h.rp).c0 k (get_lt hX)
  have hv' := h.vs
  rw [hx] at hv'
  have e3 : adO (O 0 0).u = x.ca := by
    simp only [cfgO, Cfg.vs, List.cons.injEq, Value.slice.injEq] at hv'
    exact hv'.2.2.2.2.1.1
  refine ⟨q, g, cap, cur, by rw [← e3]; exact e1, ?_, he, h1, h2, h3, h4, h5⟩
  rw [e2]
  unfold coreO
  rw [he, wsO_some hX]
  rfl
/-- A window's cells in a row that begins with the windows. -/
theorem win_cells {wr : World} {g : Nat} {cur : List Value} {n : Nat} {ws : List Win} {r : List Value} (hB : Blk wr g cur 40) (ht : cur.take n = ws.flatMap Win.vs ++ r) {j : Nat} {a : Win} (ha : ws[j]? = some a) :
    wr.cell? ⟨g, j * 3, none⟩ = some (.int .i64 a.p) ∧ wr.cell? ⟨g, j * 3 + 1, none⟩ = some (.int .i64 a.u) ∧ wr.cell? ⟨g, j * 3 + 2, none⟩ = some (.int .i64 a.s) := by
  have key : ∀ i v, a.vs[i]? = some v → wr.cell? ⟨g, j * 3 + i, none⟩ = some v := fun i v hv => by
    refine hB.cell ?_
    have h1 : (ws.flatMap Win.vs)[j * 3 + i]? = some v := flat_get eWin ws j a i v ha hv
    have h2 : (ws.flatMap Win.vs ++ r)[j * 3 + i]? = some v := by rw [List.getElem?_append_left (get_lt h1)]; exact h1
    rw [← ht] at h2
    rw [List.getElem?_take] at h2
    split at h2
    · exact h2
    · cases h2
  exact ⟨key 0 _ rfl, key 1 _ rfl, key 2 _ rfl⟩
theorem take_sets (cur : List Value) (n i : Nat) (a b c : Value) : (((cur.set i a).set (i + 1) b).set (i + 2) c).take n = (((cur.take n).set i a).set (i + 1) b).set (i + 2) c := by
  simp only [List.take_set]

set_option maxHeartbeats 8000000 in
theorem planKept_any (c : Cfg) (k p : Int) (w : World) (N : Nat) (hi : c.In w N) (hN : N ≤ w.heap.size) (hs : Small c) :
    Calls Try.prog 7 #[c.v, .int .i64 k, .int .i64 p] w fun e w' => e = .returned (.bool true) ∧ Keeps (fun _ => False) w w' := by
  obtain ⟨W, hW⟩ : ∃ W, W = c.laid w := ⟨_, rfl⟩
  obtain ⟨C, hC⟩ : ∃ C, C = w.heap.size := ⟨_, rfl⟩
  have HO : Hid (One w c C N W ∧ Small c) := by rw [hW, hC]; exact ⟨One.mk' hi hN, hs⟩
  clear hi hN hs
  unfold Cfg.laid at hW
  go_enter Try.func7, Try.ntmps7
  go_wp2_with fail
  rw [← hW, ← hC]
  clear hW hC
  refine (vastQ_any c W N HO.out.1.cin HO.out.1.nn).mono ?_
  rintro e w1 ⟨b, rfl, hK, hv⟩
  have HO1 : Hid (One w c C N w1) := HO.out.1.kept hK
  clear hK
  cases b with
  | true =>
    clear hv
    go_wp2
    go_ret
    exact ⟨rfl, HO1.out.keeps⟩
  | false =>
    have HT : Hid (tot c.cs c.cs.length ≤ 2147483647 ∧ Bnd c) := hv rfl HO.out.2
    clear hv HO
    obtain ⟨c0, c1, c2, c3, c4, c5, c6⟩ := HO1.out.cells
    go_upto_region 3 with fail
    go_wp2_with fail
    refine (Roomed_any c w1 N HO1.out.cin HO1.out.nn HT.out.2).mono ?_
    rintro e w2 ⟨O, lo, rfl, hF, hRP, hlo, hK⟩
    rw [cfgV_eq hF]
    obtain ⟨x, hx⟩ : ∃ x, x = cfgO c O := ⟨_, rfl⟩
    obtain ⟨d0, p0, e0, _⟩ := hF.form 0 0
    obtain ⟨d1, p1, e1, _⟩ := hF.form 0 1
    obtain ⟨d2, p2, e2, _⟩ := hF.form 0 2
    obtain ⟨d3, p3, e3, _⟩ := hF.form 0 3
    obtain ⟨d4, p4, e4, _⟩ := hF.form 0 4
    obtain ⟨d5, p5, e5, _⟩ := hF.form 0 5
    have er : roomV O = [.slice d0 (O 0 0).n p0, .slice d1 (O 0 1).n p1, .slice d2 (O 0 2).n p2, .slice d3 (O 0 3).n p3, .slice d4 (O 0 4).n p4, .slice d5 (O 0 5).n p5] := by unfold roomV; rw [e0, e1, e2, e3, e4, e5]
    rw [er, ← hx]
    generalize (O 0 0).n = n0 at er ⊢
    generalize (O 0 1).n = n1 at er ⊢
    generalize (O 0 2).n = n2 at er ⊢
    generalize (O 0 3).n = n3 at er ⊢
    generalize (O 0 4).n = n4 at er ⊢
    generalize (O 0 5).n = n5 at er ⊢
    have HF : Hid (FamO lo w2 O ∧ RP c c.cs.length c.ps.length c.hs 12 O ∧ w1.heap.size ≤ lo ∧ x = cfgO c O ∧ roomV O = [.slice d0 n0 p0, .slice d1 n1 p1, .slice d2 n2 p2, .slice d3 n3 p3, .slice d4 n4 p4, .slice d5 n5 p5]) := ⟨hF, hRP, hlo, hx, er⟩
    have HO2 : Hid (One w c C N w2) := HO1.out.kept hK
    have HO1s : Hid (w.heap.size ≤ w1.heap.size) := HO1.out.keeps.size
    clear hK hF hRP hlo hx er e0 e1 e2 e3 e4 e5 c0 c1 c2 c3 c4 c5 c6 HO1
    obtain ⟨H, hH⟩ : ∃ H, H = w2.heap.size := ⟨_, rfl⟩
    obtain ⟨R, hR⟩ : ∃ R, R = w2.heap.size + 1 := ⟨_, rfl⟩
    obtain ⟨W, hW⟩ : ∃ W, W = (w2.alloc (.cells x.vs.toArray 27)).alloc (.cells #[.slice d0 n0 p0, .slice d1 n1 p1, .slice d2 n2 p2, .slice d3 n3 p3, .slice d4 n4 p4, .slice d5 n5 p5] 53) := ⟨_, rfl⟩
    obtain ⟨hv, hhv⟩ : ∃ hv, hv = x.vs := ⟨_, rfl⟩
    obtain ⟨rv, hrv⟩ : ∃ rv, rv = [Value.slice d0 n0 p0, .slice d1 n1 p1, .slice d2 n2 p2, .slice d3 n3 p3, .slice d4 n4 p4, .slice d5 n5 p5] := ⟨_, rfl⟩
    have HI : Hid (One w c C N W ∧ LI w c.cs.length H R lo hv rv c O W) := by
      obtain ⟨hF, hRP, hlo, hx, er⟩ := HF.out
      have kW : Keeps (fun _ => False) w2 W := by rw [hW]; exact ((Keeps.refl _ _).alloc _).alloc _
      have hsz : W.heap.size = w2.heap.size + 2 := by rw [hW]; simp
      refine ⟨HO2.out.kept kW, ?_, ?_, hF.kept kW fun _ _ _ _ h => h, hRP, HO2.out.cin.fn, by rw [hhv, hx], by rw [er, hrv], HT.out.2, HT.out.1, rfl, hF.outNew kW (by omega) (by omega), hF.outNew kW (by omega) (by omega), (HO2.out.keeps.trans kW fun _ _ h => h).mono fun _ _ h => h.elim, Nat.le_trans HO1s.out hlo⟩
      · rw [hhv, hH, hW]; exact (Blk.new w2 x.vs.toArray 27).alloc _
      · have := Blk.new (w2.alloc (.cells x.vs.toArray 27)) #[.slice d0 n0 p0, .slice d1 n1 p1, .slice d2 n2 p2, .slice d3 n3 p3, .slice d4 n4 p4, .slice d5 n5 p5] 53
        rw [hrv, hR, hW]; simpa using this
    go_upto_region 4 with fail
    rw [← hW, ← hR, ← hH]
    clear hW hR hH
    have x0 := HI.out.2.hB.cell (i := 0) (v := .int .i64 x.frames) (by rw [hhv]; rfl)
    have x1 := HI.out.2.hB.cell (i := 1) (v := .int .i64 x.major) (by rw [hhv]; rfl)
    have x2 := HI.out.2.hB.cell (i := 2) (v := .int .i64 x.kernel) (by rw [hhv]; rfl)
    have x3 := HI.out.2.hB.cell (i := 3) (v := .int .i64 x.room) (by rw [hhv]; rfl)
    have x4 := HI.out.2.hB.cell (i := 4) (v := .slice x.ca x.cs.length x.cc) (by rw [hhv]; rfl)
    have x5 := HI.out.2.hB.cell (i := 5) (v := .slice x.pa x.ps.length x.pc) (by rw [hhv]; rfl)
    have x6 := HI.out.2.hB.cell (i := 6) (v := .slice x.ha x.hs.length x.hc) (by rw [hhv]; rfl)
    have HV : Hid (hv = x.vs ∧ rv = [Value.slice d0 n0 p0, .slice d1 n1 p1, .slice d2 n2 p2, .slice d3 n3 p3, .slice d4 n4 p4, .slice d5 n5 p5]) := ⟨hhv, hrv⟩
    clear hhv hrv HO2
    obtain ⟨c0, c1, c2, c3, c4, c5, c6⟩ := HI.out.1.cells
    have HP : Hid (x.In W W.heap.size ∧ x.pure = c.pure ∧ tot x.cs x.cs.length ≤ 2147483647) := by
      have hx := HF.out.2.2.2.1
      have h1 := HI.out.2.in
      rw [← hx] at h1
      have h2 : x.pure = c.pure := by rw [hx]; exact cfgO_pure c O
      exact ⟨h1, h2, (Eqv.of h2).symm.tot HT.out.1⟩
    go_wp2_with fail
    refine (asked_any x c k p W W.heap.size N HP.out.1 (Nat.le_refl _) HI.out.1.cin HI.out.1.nn HP.out.2.1 HP.out.2.2).mono ?_
    rintro e w3 ⟨rfl, hK⟩
    have HI3 : Hid (One w c C N w3 ∧ LI w c.cs.length H R lo hv rv c O w3 ∧ x.In w3 W.heap.size) := ⟨HI.out.1.kept hK, HI.out.2.kept hK, HP.out.1.keeps (Nat.le_refl _) hK⟩
    clear hK x0 x1 x2 x3 x4 x5 x6 c0 c1 c2 c3 c4 c5 c6 HI
    have x0 := HI3.out.2.1.hB.cell (i := 0) (v := .int .i64 x.frames) (by rw [HV.out.1]; rfl)
    have x1 := HI3.out.2.1.hB.cell (i := 1) (v := .int .i64 x.major) (by rw [HV.out.1]; rfl)
    have x2 := HI3.out.2.1.hB.cell (i := 2) (v := .int .i64 x.kernel) (by rw [HV.out.1]; rfl)
    have x3 := HI3.out.2.1.hB.cell (i := 3) (v := .int .i64 x.room) (by rw [HV.out.1]; rfl)
    have x4 := HI3.out.2.1.hB.cell (i := 4) (v := .slice x.ca x.cs.length x.cc) (by rw [HV.out.1]; rfl)
    have x5 := HI3.out.2.1.hB.cell (i := 5) (v := .slice x.pa x.ps.length x.pc) (by rw [HV.out.1]; rfl)
    have x6 := HI3.out.2.1.hB.cell (i := 6) (v := .slice x.ha x.hs.length x.hc) (by rw [HV.out.1]; rfl)
    have r0 := HI3.out.2.1.rB.cell (i := 0) (v := .slice d0 n0 p0) (by rw [HV.out.2]; rfl)
    have r1 := HI3.out.2.1.rB.cell (i := 1) (v := .slice d1 n1 p1) (by rw [HV.out.2]; rfl)
    have r2 := HI3.out.2.1.rB.cell (i := 2) (v := .slice d2 n2 p2) (by rw [HV.out.2]; rfl)
    have r3 := HI3.out.2.1.rB.cell (i := 3) (v := .slice d3 n3 p3) (by rw [HV.out.2]; rfl)
    have r4 := HI3.out.2.1.rB.cell (i := 4) (v := .slice d4 n4 p4) (by rw [HV.out.2]; rfl)
    have r5 := HI3.out.2.1.rB.cell (i := 5) (v := .slice d5 n5 p5) (by rw [HV.out.2]; rfl)
    obtain ⟨c0, c1, c2, c3, c4, c5, c6⟩ := HI3.out.1.cells
    have HC := Kept_any x c O lo w3 HI3.out.2.2.ok HI3.out.1.cin.ok HP.out.2.1 HT.out.2 HI3.out.2.1.fam HI3.out.2.1.rp
    rw [HI3.out.2.1.rvs, HV.out.2] at HC
    have HC : Hid (Calls _ _ _ _ _) := HC
    go_wp2_with fail
    refine HC.out.mono ?_
    rintro e w4 ⟨rfl, hK⟩
    have HI4 : Hid (LI w c.cs.length H R lo hv rv c O w4) := HI3.out.2.1.kept hK
    have HL : Hid (x.cs.length = c.cs.length ∧ x.cs.length ≤ x.cc ∧ x.cc ≤ maxLen) := ⟨(pure_len HP.out.2.1).1, HI3.out.2.2.clen⟩
    clear hK x0 x1 x2 x3 x4 x5 x6 c0 c1 c2 c3 c4 c5 c6 r0 r1 r2 r3 r4 r5 HI3 HC HP
    obtain ⟨L, hL⟩ : ∃ L, x.cs.length = L := ⟨_, rfl⟩
    rw [← HL.out.1, hL] at HI4
    have hcc : (L : Int) ≤ x.cc ∧ (x.cc : Int) ≤ 9223372036854775807 := by have := HL.out; unfold maxLen at this; omega
    have HL2 : Hid (x.cs.length = L) := hL
    clear hL
    go_upto_region 6 with fail
    go_wp2
    go_loopw [9] (fun i wr => ∃ (j : Nat) (y : Cfg) (O' : Nat → Nat → ObG), j ≤ L ∧ i = .int .i64 j ∧ LI w L H R lo hv rv y O' wr) (fun i _ => L - (intOf i).toNat)
    case atStart => exact ⟨0, c, O, by omega, rfl, HI4.out⟩
    case round =>
      obtain ⟨j, y, O', hj, rfl, hI⟩ := hrel
      clear HI4
      have HI : Hid (LI w L H R lo hv rv y O' wr) := hI
      clear hI
      have x4 := HI.out.hB.cell (i := 4) (v := .slice x.ca L x.cc) (by rw [HV.out.1, ← HL2.out]; rfl)
      by_cases hlt : j < L
      · obtain ⟨X, hX⟩ : ∃ X, y.cs[j]? = some X := ⟨_, List.getElem?_eq_getElem (by rw [HI.out.len]; exact hlt)⟩
        obtain ⟨q, g, cap, cur, ha, hq, hu, hB, h1, h2, h3, h4⟩ := HI.out.at HV.out.1 hX
        rw [ha] at x4
        obtain ⟨Lw, hLw⟩ : ∃ Lw, X.ws.length = Lw := ⟨_, rfl⟩
        rw [hLw] at hq
        have hcap : (Lw : Int) ≤ cap ∧ (cap : Int) ≤ 9223372036854775807 := by unfold maxLen at h2; omega
        have HX : Hid (y.cs[j]? = some X ∧ X.ws.length = Lw ∧ (O' 1 j).u = .slice (some ⟨g, 0, none⟩) (X.ws.length + 12) cap ∧ Blk wr g cur 40 ∧ X.ws.length + 12 ≤ cap ∧ cap ≤ maxLen ∧ cur.length = cap * 3 ∧ cur.take ((X.ws.length + 12) * 3) = X.ws.flatMap Win.vs ++ apN wMk 12) := ⟨hX, hLw, hu, hB, h1, h2, h3, h4⟩
        clear hX hLw hu hB h1 h2 h3 h4 ha
        by_cases hone : (1 : Int) < Lw
        · obtain ⟨m, hm⟩ : ∃ m : Nat, Lw = m + 1 := ⟨Lw - 1, by omega⟩
          obtain ⟨a, haw⟩ : ∃ a, X.ws[0]? = some a := ⟨_, List.getElem?_eq_getElem (by have := HX.out.2.1; omega)⟩
          obtain ⟨z, hzw⟩ : ∃ z, X.ws[m]? = some z := ⟨_, List.getElem?_eq_getElem (by have := HX.out.2.1; omega)⟩
          have hsub : IntKind.i64.wrap ((Lw : Int) - 1) = (m : Int) := by rw [IntKind.wrap_i64]; omega
          have hml : (m : Int) < Lw := by omega
          have HM : Hid (X.ws[0]? = some a ∧ X.ws[m]? = some z ∧ Lw = m + 1) := ⟨haw, hzw, hm⟩
          obtain ⟨z0, z1, z2⟩ := win_cells HX.out.2.2.2.1 HX.out.2.2.2.2.2.2.2 hzw
          clear haw hzw hm
          obtain ⟨B, hBB⟩ : ∃ B, B = wr.heap.size := ⟨_, rfl⟩
          obtain ⟨W1, hW1⟩ : ∃ W1, W1 = wr.alloc (.cells #[.int .i64 z.p, .int .i64 z.u, .int .i64 z.s] 40) := ⟨_, rfl⟩
          have H1 : Hid (Blk W1 g cur 40 ∧ Blk W1 B z.vs 40 ∧ Keeps (fun _ => False) wr W1 ∧ g < wr.heap.size ∧ B = wr.heap.size) := by
            rw [hW1, hBB]
            exact ⟨HX.out.2.2.2.1.alloc _, Blk.new _ _ _, (Keeps.refl _ _).alloc _, HX.out.2.2.2.1.lt, rfl⟩
          go_upto_region 12 with fail
          rw [← hW1, ← hBB]
          clear hW1 hBB z0 z1 z2
          obtain ⟨a0, a1, a2⟩ : W1.cell? ⟨g, 0, none⟩ = some (.int .i64 a.p) ∧ W1.cell? ⟨g, 1, none⟩ = some (.int .i64 a.u) ∧ W1.cell? ⟨g, 2, none⟩ = some (.int .i64 a.s) := by
            simpa using win_cells H1.out.1 HX.out.2.2.2.2.2.2.2 HM.out.1
          obtain ⟨z0, z1, z2⟩ := win_cells H1.out.1 HX.out.2.2.2.2.2.2.2 HM.out.2.1
          have f0 := H1.out.1.frozen (m * 3)
          have f1 := H1.out.1.frozen (m * 3 + 1)
          have f2 := H1.out.1.frozen (m * 3 + 2)
          obtain ⟨W2, hW2⟩ : ∃ W2, W2 = ((W1.setCell ⟨g, m * 3, none⟩ (.int .i64 a.p)).setCell ⟨g, m * 3 + 1, none⟩ (.int .i64 a.u)).setCell ⟨g, m * 3 + 2, none⟩ (.int .i64 a.s) := ⟨_, rfl⟩
          obtain ⟨cur2, hc2⟩ : ∃ cur2, cur2 = ((cur.set (m * 3) (.int .i64 a.p)).set (m * 3 + 1) (.int .i64 a.u)).set (m * 3 + 2) (.int .i64 a.s) := ⟨_, rfl⟩
          have H2 : Hid (Blk W2 g cur2 40 ∧ Blk W2 B z.vs 40 ∧ Keeps (· = g) wr W2 ∧ cur2.length = cap * 3 ∧ cur2.take ((X.ws.length + 12) * 3) = (X.ws.set m a).flatMap Win.vs ++ apN wMk 12) := by
            obtain ⟨b1, b2, kk, hg, hb⟩ := H1.out
            have k2 : Keeps (· = g) wr W1 := kk.mono fun _ _ h => h.elim
            have hne : B ≠ g := by omega
            refine ⟨?_, ?_, ?_, ?_, ?_⟩
            · rw [hW2, hc2]; exact ((b1.setCell _ _).setCell _ _).setCell _ _
            · rw [hW2]; exact ((b2.setCell_ne hne _).setCell_ne hne _).setCell_ne hne _
            · rw [hW2]; exact ((k2.setCell _ _ fun _ => rfl).setCell _ _ fun _ => rfl).setCell _ _ fun _ => rfl
            · rw [hc2]; simp only [List.length_set]; exact HX.out.2.2.2.2.2.2.1
            · rw [hc2, take_sets, HX.out.2.2.2.2.2.2.2]
              exact flat_set3 _ _ _ _ (get_lt HM.out.2.1)
          go_upto_region 13 with fail
          rw [← hW2]
          clear hW2 hc2 a0 a1 a2 z0 z1 z2 f0 f1 f2
          have b0 := H2.out.2.1.cell (i := 0) rfl
          have b1 := H2.out.2.1.cell (i := 1) rfl
          have b2 := H2.out.2.1.cell (i := 2) rfl
          have hs0 : (X.ws.set m a)[0]? = some a := by rw [List.getElem?_set_ne (by have := HM.out.2.2; omega)]; exact HM.out.1
          obtain ⟨a0, a1, a2⟩ : W2.cell? ⟨g, 0, none⟩ = some (.int .i64 a.p) ∧ W2.cell? ⟨g, 1, none⟩ = some (.int .i64 a.u) ∧ W2.cell? ⟨g, 2, none⟩ = some (.int .i64 a.s) := by
            simpa using win_cells H2.out.1 H2.out.2.2.2.2 hs0
          have f0 := H2.out.1.frozen 0
          have f1 := H2.out.1.frozen 1
          have f2 := H2.out.1.frozen 2
          clear hs0
          obtain ⟨W3, hW3⟩ : ∃ W3, W3 = ((W2.setCell ⟨g, 0, none⟩ (.int .i64 z.p)).setCell ⟨g, 1, none⟩ (.int .i64 z.u)).setCell ⟨g, 2, none⟩ (.int .i64 z.s) := ⟨_, rfl⟩
          have H3 : Hid (LI w L H R lo hv rv (chg y j ⟨X.a, X.c, swp X.ws a z⟩) (upd O' 1 j ⟨(O' 1 j).u, (O' 1 j).n, (swp X.ws a z).flatMap Win.vs ++ apN wMk 12⟩) W3) := by
            obtain ⟨q1, q2, kk, q4, q5⟩ := H2.out
            have hf := HI.out.fn.c X (List.mem_of_getElem? HX.out.1)
            refine HI.out.put HX.out.1 (g := g) (cap := cap) (cur := ((cur2.set 0 (.int .i64 z.p)).set 1 (.int .i64 z.u)).set 2 (.int .i64 z.s)) HX.out.2.2.1 ?_ ?_ HX.out.2.2.2.2.1 HX.out.2.2.2.2.2.1 ?_ ?_ (swp_len _ _ _) fun v hv => hf v (swp_mem (List.mem_of_getElem? HM.out.1) (List.mem_of_getElem? HM.out.2.1) hv)
            · rw [hW3]; exact ((kk.setCell _ _ fun _ => rfl).setCell _ _ fun _ => rfl).setCell _ _ fun _ => rfl
            · rw [hW3]; exact ((q1.setCell _ _).setCell _ _).setCell _ _
            · simp only [List.length_set]; exact q4
            · have e1 := take_sets cur2 ((X.ws.length + 12) * 3) 0 (.int .i64 z.p) (.int .i64 z.u) (.int .i64 z.s)
              have e2 := flat_set3 (apN wMk 12) z (X.ws.set m a) 0 (by rw [List.length_set]; exact get_lt HM.out.1)
              simp only [Nat.zero_mul, Nat.zero_add] at e1 e2
              rw [e1, q5, e2]
              have hlen : m = X.ws.length - 1 := by have := HM.out.2.2; have := HX.out.2.1; omega
              unfold swp
              rw [← hlen]
          go_upto_region 8 with fail
          rw [← hW3]
          clear hW3 b0 b1 b2 a0 a1 a2 f0 f1 f2
          go_wp2
          go_roundw
          case rel => exact ⟨j + 1, _, _, by omega, by go_num, H3.out⟩
          case measure => simp [intOf]; omega
        · go_wp2
          go_roundw
          case rel => exact ⟨j + 1, y, O', by omega, by go_num, HI.out⟩
          case measure => simp [intOf]; omega
      · obtain ⟨X, hX⟩ : ∃ X, X = cfgO y O' := ⟨_, rfl⟩
        have HX : Hid (X.In wr wr.heap.size ∧ X = cfgO y O' ∧ X.vs = x.vs ∧ X.pure = y.pure ∧ Bnd X ∧ tot X.cs X.cs.length ≤ 2147483647) := by
          have h1 : X.pure = y.pure := by rw [hX]; exact cfgO_pure y O'
          exact ⟨by rw [hX]; exact HI.out.in, hX, by rw [hX, HI.out.vs, HV.out.1], h1, HI.out.bnd.tr h1.symm, (Eqv.of h1).symm.tot HI.out.tot⟩
        clear hX x4
        have HB : ∀ W, LI w L H R lo hv rv y O' W → W.cell? ⟨H, 0, none⟩ = some (.int .i64 X.frames) ∧ W.cell? ⟨H, 1, none⟩ = some (.int .i64 X.major) ∧ W.cell? ⟨H, 2, none⟩ = some (.int .i64 X.kernel) ∧ W.cell? ⟨H, 3, none⟩ = some (.int .i64 X.room)
            ∧ W.cell? ⟨H, 4, none⟩ = some (.slice X.ca X.cs.length X.cc) ∧ W.cell? ⟨H, 5, none⟩ = some (.slice X.pa X.ps.length X.pc) ∧ W.cell? ⟨H, 6, none⟩ = some (.slice X.ha X.hs.length X.hc) := fun W hI => by
          have h := hI.hB
          rw [HV.out.1, ← HX.out.2.2.1] at h
          exact ⟨h.cell rfl, h.cell rfl, h.cell rfl, h.cell rfl, h.cell rfl, h.cell rfl, h.cell rfl⟩
        have HR : ∀ W, LI w L H R lo hv rv y O' W → W.cell? ⟨R, 0, none⟩ = some (.slice d0 n0 p0) ∧ W.cell? ⟨R, 1, none⟩ = some (.slice d1 n1 p1) ∧ W.cell? ⟨R, 2, none⟩ = some (.slice d2 n2 p2) ∧ W.cell? ⟨R, 3, none⟩ = some (.slice d3 n3 p3) ∧ W.cell? ⟨R, 4, none⟩ = some (.slice d4 n4 p4) ∧ W.cell? ⟨R, 5, none⟩ = some (.slice d5 n5 p5) := fun W hI => by
          have h := hI.rB
          rw [HV.out.2] at h
          exact ⟨h.cell rfl, h.cell rfl, h.cell rfl, h.cell rfl, h.cell rfl, h.cell rfl⟩
        have HB : Hid (∀ W, LI w L H R lo hv rv y O' W → _) := HB
        have HR : Hid (∀ W, LI w L H R lo hv rv y O' W → _) := HR
        have x4 := HI.out.hB.cell (i := 4) (v := .slice x.ca L x.cc) (by rw [HV.out.1, ← HL2.out]; rfl)
        go_upto_region 14 with fail
        clear x4
        obtain ⟨x0, x1, x2, x3, x4, x5, x6⟩ := HB.out wr HI.out
        go_wp2_with fail
        refine (CopiedR_any X wr wr.heap.size HX.out.1 (Nat.le_refl _) HX.out.2.2.2.2.1).mono ?_
        rintro e w5 ⟨O2, lo2, rfl, hF2, hCQ, hlo2, hK⟩
        obtain ⟨Y, hY⟩ : ∃ Y, Y = cfgO X O2 := ⟨_, rfl⟩
        rw [← hY]
        have HY : Hid (LI w L H R lo hv rv y O' w5 ∧ X.In w5 wr.heap.size ∧ Y.In w5 w5.heap.size ∧ X.pure = Y.pure ∧ wr.heap.size ≤ w5.heap.size) :=
          ⟨HI.out.kept hK, HX.out.1.keeps (Nat.le_refl _) hK, by rw [hY]; exact (CQ.beg hF2 hCQ).in HX.out.1, by rw [hY, cfgO_pure], hK.size⟩
        clear hF2 hCQ hlo2 hK hY x0 x1 x2 x3 x4 x5 x6
        obtain ⟨D, hD⟩ : ∃ D, D = w5.heap.size := ⟨_, rfl⟩
        obtain ⟨W6, hW6⟩ : ∃ W6, W6 = w5.alloc (.cells Y.vs.toArray 27) := ⟨_, rfl⟩
        have HZ : Hid (LI w L H R lo hv rv y O' W6 ∧ One w5 Y D w5.heap.size W6 ∧ X.In W6 wr.heap.size) := by
          have k6 : Keeps (fun _ => False) w5 W6 := by rw [hW6]; exact (Keeps.refl _ _).alloc _
          refine ⟨HY.out.1.kept k6, ?_, HY.out.2.1.keeps HY.out.2.2.2.2 k6⟩
          rw [hD, hW6]
          exact One.mk' HY.out.2.2.1 (Nat.le_refl _)
        go_upto_region 15 with fail
        rw [← hW6, ← hD]
        clear hW6 hD
        obtain ⟨x0, x1, x2, x3, x4, x5, x6⟩ := HB.out W6 HZ.out.1
        obtain ⟨c0, c1, c2, c3, c4, c5, c6⟩ := HZ.out.2.1.cells
        go_wp2_with fail
        refine (asked_any X Y k p W6 wr.heap.size w5.heap.size HZ.out.2.2 (Nat.le_trans HY.out.2.2.2.2 HZ.out.2.1.nn) HZ.out.2.1.cin HZ.out.2.1.nn HY.out.2.2.2.1 HX.out.2.2.2.2.2).mono ?_
        rintro e w7 ⟨rfl, hK⟩
        have H7 : Hid (LI w L H R lo hv rv y O' w7 ∧ One w5 Y D w5.heap.size w7 ∧ X.In w7 wr.heap.size) := ⟨HZ.out.1.kept hK, HZ.out.2.1.kept hK, HZ.out.2.2.keeps (Nat.le_trans HY.out.2.2.2.2 HZ.out.2.1.nn) hK⟩
        clear hK x0 x1 x2 x3 x4 x5 x6 c0 c1 c2 c3 c4 c5 c6
        obtain ⟨x0, x1, x2, x3, x4, x5, x6⟩ := HB.out w7 H7.out.1
        obtain ⟨c0, c1, c2, c3, c4, c5, c6⟩ := H7.out.2.1.cells
        obtain ⟨r0, r1, r2, r3, r4, r5⟩ := HR.out w7 H7.out.1
        have HC : Calls Try.prog 25 #[X.v, .agg (roomV O').toArray, Y.v] w7 fun e w' => e = .returned (.bool true) ∧ Keeps (fun _ => False) w7 w' := by
          have hp := HY.out.2.2.2.1
          have hpy : y.pure = Y.pure := HX.out.2.2.2.1.symm.trans hp
          obtain ⟨l1, l2, l3⟩ := pure_len hpy
          have hh : y.hs = Y.hs := congrArg PCfg.hs hpy
          refine Kept_any X Y O' lo w7 H7.out.2.2.ok H7.out.2.1.cin.ok hp (HX.out.2.2.2.2.1.tr hp) H7.out.1.fam ?_
          rw [← l1, ← l2, ← hh]
          exact RP.tr hpy H7.out.1.rp
        rw [H7.out.1.rvs, HV.out.2] at HC
        have HC : Hid (Calls _ _ _ _ _) := HC
        go_wp2_with fail
        refine HC.out.mono ?_
        rintro e w8 ⟨rfl, hK⟩
        have H8 : Hid (LI w L H R lo hv rv y O' w8) := H7.out.1.kept hK
        clear hK HC x0 x1 x2 x3 x4 x5 x6 c0 c1 c2 c3 c4 c5 c6 r0 r1 r2 r3 r4 r5
        go_wp2_with fail
        refine (awake_any w8).mono ?_
        rintro e w9 ⟨rfl, hK⟩
        have H9 : Hid (LI w L H R lo hv rv y O' w9) := H8.out.kept hK
        clear hK
        go_wp2
        go_ret
        exact ⟨rfl, H9.out.keeps.mono fun b hb h => by have := H9.out.lo; omega⟩
end Go.Proofs.Ytnkfdmlpjgmckaa
