import Derived.Test.YtlnmlbkeemahcaaGreatLe
import Derived.Test.YtlnmlbkeemahcaaGreatJSb
import Derived.Test.YtlnmlbkeemahcaaGreatCv
namespace Go.Proofs.YtlnmlbkeemahcaaGreat
open Go.RowKit
set_option linter.unusedVariables false
set_option linter.unusedSimpArgs false
set_option maxRecDepth 6000
theorem get_lt {α : Type} {xs : List α} {i : Nat} {v : α} (h : xs[i]? = some v) : i < xs.length := (List.getElem?_eq_some_iff.1 h).1
def wsO (y : Cfg) (i : Nat) : List Win := ((y.cs[i]?).map (·.ws)).getD []
theorem wsO_some {y : Cfg} {i : Nat} {X : Core} (h : y.cs[i]? = some X) : wsO y i = X.ws := by unfold wsO; rw [h]; rfl
def adO : Value → Option Addr
 | .slice a _ _ => a
 | _ => none
def cpO : Value → Nat
 | .slice _ _ c => c
 | _ => 0
theorem map_range {α : Type} (xs : List α) (f : Nat → α) (h : ∀ j x, xs[j]? = some x → f j = x) : (List.range xs.length).map f = xs := by
 apply List.ext_getElem?
 intro j
 rw [List.getElem?_map]
 by_cases hj : j < xs.length
 ·
  rw [List.getElem?_range hj]
  exact (congrArg some (h j _ (List.getElem?_eq_getElem hj))).trans (List.getElem?_eq_getElem hj).symm
 ·
  rw [List.getElem?_eq_none (by simpa using hj), List.getElem?_eq_none (by omega)]
  rfl
def coreO (y : Cfg) (O : Nat → Nat → ObG) (i : Nat) : Core := ⟨adO (O 1 i).u, cpO (O 1 i).u, wsO y i⟩
def parO (y : Cfg) (O : Nat → Nat → ObG) (i : Nat) : Par := match y.ps[i]? with | some P => ⟨P.name, P.entry, P.action, P.restarts, P.inputs, P.outputs, adO (O 2 i).u, cpO (O 2 i).u, P.rs, adO (O 3 i).u, cpO (O 3 i).u, P.ps⟩ | none => ⟨{ data := #[] }, 0, 0, 0, 0, 0, none, 0, [], none, 0, []⟩
theorem parO_some {y : Cfg} {O : Nat → Nat → ObG} {i : Nat} {P : Par} (h : y.ps[i]? = some P) : parO y O i = ⟨P.name, P.entry, P.action, P.restarts, P.inputs, P.outputs, adO (O 2 i).u, cpO (O 2 i).u, P.rs, adO (O 3 i).u, cpO (O 3 i).u, P.ps⟩ := by unfold parO; rw [h]
def cfgO (y : Cfg) (O : Nat → Nat → ObG) : Cfg := ⟨y.frames, y.major, y.kernel, y.room, adO (O 0 1).u, cpO (O 0 1).u, (List.range y.cs.length).map (coreO y O), adO (O 0 3).u, cpO (O 0 3).u, (List.range y.ps.length).map (parO y O), adO (O 0 0).u, cpO (O 0 0).u, y.hs⟩
theorem cfgO_pure (y : Cfg) (O : Nat → Nat → ObG) : (cfgO y O).pure = y.pure := by
 unfold Cfg.pure cfgO
 simp only [PCfg.mk.injEq, true_and, and_true]
 refine ⟨?_, ?_⟩
 ·
  rw [List.map_map]
  have : y.cs.length = (y.cs.map Core.ws).length := by simp
  rw [this]
  refine map_range _ _ fun j l hl => ?_
  rw [List.getElem?_map] at hl
  obtain ⟨X, hX, rfl⟩ := Option.map_eq_some_iff.1 hl
  exact wsO_some hX
 ·
  rw [List.map_map]
  have : y.ps.length = (y.ps.map Par.pure).length := by simp
  rw [this]
  refine map_range _ _ fun j l hl => ?_
  rw [List.getElem?_map] at hl
  obtain ⟨P, hP, rfl⟩ := Option.map_eq_some_iff.1 hl
  show (parO y O j).pure = P.pure
  rw [parO_some hP]
  rfl
structure PFn (P : Par) : Prop where
 rfine : ∀ y ∈ P.rs, y.Fine
 pfine : ∀ y ∈ P.ps, y.Fine
 ns : ∀ n ∈ P.ns, I64 n
 name : P.name.size ≤ 9223372036854775807
structure Fn (y : Cfg) : Prop where
 hfine : ∀ c ∈ y.hs, c.Fine
 ns : ∀ n ∈ y.ns, I64 n
 cf : ∀ X ∈ y.cs, ∀ z ∈ X.ws, z.Fine
 pin : ∀ P ∈ y.ps, PFn P
theorem Cfg.In.fn {y : Cfg} {w : World} {N : Nat} (h : y.In w N) : Fn y := ⟨h.hfine, h.ns, fun X hX => (h.cin X hX).fine, fun P hP => ⟨(h.pin P hP).rfine, (h.pin P hP).pfine, (h.pin P hP).ns, (h.pin P hP).name⟩⟩
structure Beg (y : Cfg) (w : World) (O : Nat → Nat → ObG) : Prop where
 c0 : ∀ j, j < y.cs.length → ∃ g, adO (O 0 1).u = some ⟨g, 0, none⟩ ∧ w.cell? ⟨g, j, none⟩ = some (coreO y O j).v
 c0l : y.cs.length ≤ cpO (O 0 1).u ∧ cpO (O 0 1).u ≤ maxLen
 c2 : ∀ j, j < y.ps.length → ∃ g, adO (O 0 3).u = some ⟨g, 0, none⟩ ∧ ∀ i v, (parO y O j).vs[i]? = some v → w.cell? ⟨g, j * 8 + i, none⟩ = some v
 c2l : y.ps.length ≤ cpO (O 0 3).u ∧ cpO (O 0 3).u ≤ maxLen
 c5 : SegA Chn.vs 3 w (adO (O 0 0).u) y.hs
 c5l : y.hs.length ≤ cpO (O 0 0).u ∧ cpO (O 0 0).u ≤ maxLen
 i1 : ∀ j X, y.cs[j]? = some X → SegA Win.vs 3 w (adO (O 1 j).u) X.ws ∧ X.ws.length ≤ cpO (O 1 j).u ∧ cpO (O 1 j).u ≤ maxLen
 i2 : ∀ j P, y.ps[j]? = some P → (SegA Rgn.vs 4 w (adO (O 2 j).u) P.rs ∧ P.rs.length ≤ cpO (O 2 j).u ∧ cpO (O 2 j).u ≤ maxLen) ∧ SegA Prt.vs 2 w (adO (O 3 j).u) P.ps ∧ P.ps.length ≤ cpO (O 3 j).u ∧ cpO (O 3 j).u ≤ maxLen
theorem Beg.in {y : Cfg} {w : World} {O : Nat → Nat → ObG} (h : Beg y w O) (hy : Fn y) : (cfgO y O).In w w.heap.size := by
 have hl1 : (cfgO y O).cs.length = y.cs.length := by simp [cfgO]
 have hl2 : (cfgO y O).ps.length = y.ps.length := by simp [cfgO]
 have g1 : ∀ j X, (cfgO y O).cs[j]? = some X → j < y.cs.length ∧ X = coreO y O j := fun j X hX => by
  have hj : j < y.cs.length := by rw [← hl1]; exact get_lt hX
  refine ⟨hj, ?_⟩
  simp [cfgO, hj] at hX
  exact hX.symm
 have g2 : ∀ j P, (cfgO y O).ps[j]? = some P → j < y.ps.length ∧ P = parO y O j := fun j P hP => by
  have hj : j < y.ps.length := by rw [← hl2]; exact get_lt hP
  refine ⟨hj, ?_⟩
  simp [cfgO, hj] at hP
  exact hP.symm
 have s0 : SegA Core.vs 1 w (cfgO y O).ca (cfgO y O).cs := by
  by_cases h0 : y.cs.length = 0
  ·
   exact .inl (List.eq_nil_of_length_eq_zero (by rw [hl1]; exact h0))
  ·
   obtain ⟨g, ea, _⟩ := h.c0 0 (by omega)
   refine .inr ⟨g, 0, ea, fun j X hX i v hv => ?_⟩
   obtain ⟨hj, rfl⟩ := g1 j X hX
   obtain ⟨g', ea', hc⟩ := h.c0 j hj
   rw [ea] at ea'
   cases ea'
   have hi : i = 0 := by have := get_lt hv; simp at this; exact this
   subst hi
   cases hv
   simpa using hc
 have s2 : SegA Par.vs 8 w (cfgO y O).pa (cfgO y O).ps := by
  by_cases h0 : y.ps.length = 0
  ·
   exact .inl (List.eq_nil_of_length_eq_zero (by rw [hl2]; exact h0))
  ·
   obtain ⟨g, ea, _⟩ := h.c2 0 (by omega)
   refine .inr ⟨g, 0, ea, fun j X hX i v hv => ?_⟩
   obtain ⟨hj, rfl⟩ := g2 j X hX
   obtain ⟨g', ea', hc⟩ := h.c2 j hj
   rw [ea] at ea'
   cases ea'
   rw [Nat.zero_add]
   exact hc i v hv
 refine ⟨s0, fun hn a ha => segA_lt s0 (fun _ => by simp) hn a ha, by rw [hl1]; exact h.c0l, fun X hX => ?_, s2, fun hn a ha => segA_lt s2 (fun _ => by simp) hn a ha, by rw [hl2]; exact h.c2l, fun P hP => ?_, h.c5, fun hn a ha => segA_lt h.c5 (fun _ => by simp) hn a ha, h.c5l, hy.hfine, hy.ns⟩
 ·
  obtain ⟨j, hj⟩ := List.getElem?_of_mem hX
  obtain ⟨hjl, rfl⟩ := g1 j X hj
  obtain ⟨Y, hY⟩ : ∃ Y, y.cs[j]? = some Y := ⟨_, List.getElem?_eq_getElem hjl⟩
  have hw := wsO_some hY
  obtain ⟨a1, a2, a3⟩ := h.i1 j Y hY
  have a1' : SegA Win.vs 3 w (coreO y O j).a (coreO y O j).ws := by unfold coreO; rw [hw]; exact a1
  exact ⟨a1', fun hn a ha => segA_lt a1' (fun _ => by simp) hn a ha, by unfold coreO; rw [hw]; exact ⟨a2, a3⟩, by unfold coreO; rw [hw]; exact hy.cf Y (List.mem_of_getElem? hY)⟩
 ·
  obtain ⟨j, hj⟩ := List.getElem?_of_mem hP
  obtain ⟨hjl, rfl⟩ := g2 j P hj
  obtain ⟨Y, hY⟩ : ∃ Y, y.ps[j]? = some Y := ⟨_, List.getElem?_eq_getElem hjl⟩
  obtain ⟨⟨a1, a2, a3⟩, b1, b2, b3⟩ := h.i2 j Y hY
  have hyp := hy.pin Y (List.mem_of_getElem? hY)
  rw [parO_some hY]
  exact ⟨a1, fun hn a ha => segA_lt a1 (fun _ => by simp) hn a ha, ⟨a2, a3⟩, hyp.rfine, b1, fun hn a ha => segA_lt b1 (fun _ => by simp) hn a ha, ⟨b2, b3⟩, hyp.pfine, hyp.ns, hyp.name⟩
theorem Fam.ad {ty : Nat → Nat → TypeId × Nat} {lo : Nat} {w : World} {O : Nat → Nat → ObG} (h : Fam ty lo w O) (a b : Nat) : (O a b).u = .slice (adO (O a b).u) (O a b).n (cpO (O a b).u) ∧ (O a b).n ≤ cpO (O a b).u ∧ cpO (O a b).u ≤ maxLen := by
 obtain ⟨d, c, e, h1, h2⟩ := h.form a b
 rw [e]
 exact ⟨rfl, h1, h2⟩
theorem Fam.cut {ty : Nat → Nat → TypeId × Nat} {lo : Nat} {w : World} {O : Nat → Nat → ObG} (h : Fam ty lo w O) (a b n : Nat) : cut n (O a b).u = .slice (adO (O a b).u) n (cpO (O a b).u) := by
 obtain ⟨d, c, e, h1, h2⟩ := h.form a b
 rw [e]
 rfl
theorem LP.beg {y : Cfg} {lo : Nat} {w : World} {O : Nat → Nat → ObG} (hF : FamO lo w O) (h : LP y (y.cs.length + 24) (y.ps.length + 24) O) (hfl : Fl eChn hM y.hs (O 0 0)) : Beg y w O := by
 refine ⟨fun j hj => ?_, ?_, fun j hj => ?_, ?_, ?_, ?_, fun j X hX => ?_, fun j P hP => ?_⟩
 ·
  obtain ⟨X, hX⟩ : ∃ X, y.cs[j]? = some X := ⟨_, List.getElem?_eq_getElem hj⟩
  obtain ⟨a1, _, _⟩ := h.c1 j X (by omega) hX
  obtain ⟨g, ea, _, hc⟩ := at_cell (hF.own 0 1) a1 (hF.ad 0 1).1 (by simp)
  have h0 : w.cell? ⟨g, j * 1 + 0, none⟩ = some (Go.Proofs.YtlnmlbkeemahcaaGreat.cut X.ws.length (O 1 j).u) := hc 0 _ rfl
  rw [Nat.mul_one, Nat.add_zero, hF.cut 1 j] at h0
  refine ⟨g, ea, ?_⟩
  unfold coreO
  rw [wsO_some hX]
  exact h0
 ·
  have := (hF.ad 0 1).2; have := h.n1; omega
 ·
  obtain ⟨P, hP⟩ : ∃ P, y.ps[j]? = some P := ⟨_, List.getElem?_eq_getElem hj⟩
  obtain ⟨a1, _⟩ := h.c3 j P (by omega) hP
  obtain ⟨g, ea, _, hc⟩ := at_cell (hF.own 0 3) a1 (hF.ad 0 3).1 (by simp [parV])
  refine ⟨g, ea, fun i v hv => ?_⟩
  refine hc i v ?_
  rw [parO_some hP] at hv
  rw [hF.cut 2 j, hF.cut 3 j]
  exact hv
 ·
  have := (hF.ad 0 3).2; have := h.n3; omega
 ·
  exact seg_own eChn (hF.own 0 0) hfl.2.1 (hF.ad 0 0).1
 ·
  have := (hF.ad 0 0).2; have := hfl.1; omega
 ·
  obtain ⟨_, _, fl⟩ := h.c1 j X (by have := get_lt hX; omega) hX
  exact ⟨seg_own eWin (hF.own 1 j) fl.2.1 (hF.ad 1 j).1, by have := (hF.ad 1 j).2; have := fl.1; omega, (hF.ad 1 j).2.2⟩
 ·
  obtain ⟨_, _, _, f1, f2⟩ := h.c3 j P (by have := get_lt hP; omega) hP
  exact ⟨⟨seg_own eRgn (hF.own 2 j) f1.2.1 (hF.ad 2 j).1, by have := (hF.ad 2 j).2; have := f1.1; omega, (hF.ad 2 j).2.2⟩, seg_own ePrt (hF.own 3 j) f2.2.1 (hF.ad 3 j).1, by have := (hF.ad 3 j).2; have := f2.1; omega, (hF.ad 3 j).2.2⟩
def Dis (O : Nat → Nat → ObG) : Prop := ∀ a b c d k, ¬ (a = c ∧ b = d) → (O a b).u.ownBlock = some k → (O c d).u.ownBlock ≠ some k
theorem ad_own {u : Value} {x : Addr} (h : adO u = some x) : u.ownBlock = some x.block := by
 cases u <;> simp only [adO] at h <;> try (cases h)
 rfl
theorem Dis.ne {O : Nat → Nat → ObG} (h : Dis O) {a b c d : Nat} {x y : Addr} (hne : ¬ (a = c ∧ b = d)) (h1 : adO (O a b).u = some x) (h2 : adO (O c d).u = some y) : y.block ≠ x.block := fun e => h a b c d x.block hne (ad_own h1) (by rw [ad_own h2, e])
theorem cell_far {w : World} {g o : Nat} {v : Value} {x : Addr} (h : x.block ≠ g) : (w.setCell ⟨g, o, none⟩ v).cell? x = w.cell? x := World.cell?_setCell_far w ⟨g, o, none⟩ x v fun e => h e.symm
theorem cell_off {w : World} {g o o' : Nat} {v : Value} (h : o' ≠ o) : (w.setCell ⟨g, o, none⟩ v).cell? ⟨g, o', none⟩ = w.cell? ⟨g, o', none⟩ := World.cell?_setCell_other w ⟨g, o, none⟩ ⟨g, o', none⟩ v fun e => h (congrArg Addr.off e).symm
theorem cell_new {w : World} {g o o' : Nat} {u v : Value} (h : w.cell? ⟨g, o', none⟩ = some u) (e : o' = o) : (w.setCell ⟨g, o, none⟩ v).cell? ⟨g, o', none⟩ = some v := by subst e; exact World.cell?_setCell_same w ⟨g, o', none⟩ v h
theorem Beg.setE {x : Cfg} {w : World} {O : Nat → Nat → ObG} (h : Beg x w O) (hd : Dis O) {P : Par} {r : List Par} (hps : x.ps = P :: r) {g : Nat} (hg : adO (O 0 3).u = some ⟨g, 0, none⟩) (m : Int) :
  Beg { x with ps := { P with entry := m } :: r } (w.setCell ⟨g, 1, none⟩ (.int .i64 m)) O := by
 have hl : ({ P with entry := m } :: r).length = x.ps.length := by rw [hps]; rfl
 have kS : Keeps (fun k => k = g) w (w.setCell ⟨g, 1, none⟩ (.int .i64 m)) := (Keeps.refl _ w).setCell ⟨g, 1, none⟩ _ fun _ => rfl
 refine ⟨fun j hj => ?_, h.c0l, fun j hj => ?_, by rw [hl]; exact h.c2l, h.c5.kept kS fun _ y hy e => hd.ne (a := 0) (b := 3) (c := 0) (d := 0) (by omega) hg hy e, h.c5l, fun j X hX => ⟨(h.i1 j X hX).1.kept kS fun _ y hy e => hd.ne (a := 0) (b := 3) (c := 1) (d := j) (by omega) hg hy e, (h.i1 j X hX).2⟩, fun j Q hQ => ?_⟩
 ·
  obtain ⟨g', ea, hc⟩ := h.c0 j hj
  refine ⟨g', ea, ?_⟩
  have hne : g' ≠ g := hd.ne (a := 0) (b := 3) (c := 0) (d := 1) (by omega) hg ea
  rw [cell_far (x := ⟨g', _, none⟩) hne]
  exact hc
 ·
  obtain ⟨g', ea, hc⟩ := h.c2 j (by rw [← hl]; exact hj)
  rw [hg] at ea
  cases ea
  refine ⟨g, hg, fun i v hv => ?_⟩
  cases j with
  | zero =>
   have e1 : parO { x with ps := { P with entry := m } :: r } O 0 = ⟨P.name, m, P.action, P.restarts, P.inputs, P.outputs, adO (O 2 0).u, cpO (O 2 0).u, P.rs, adO (O 3 0).u, cpO (O 3 0).u, P.ps⟩ := parO_some (P := { P with entry := m }) rfl
   have e0 : parO x O 0 = ⟨P.name, P.entry, P.action, P.restarts, P.inputs, P.outputs, adO (O 2 0).u, cpO (O 2 0).u, P.rs, adO (O 3 0).u, cpO (O 3 0).u, P.ps⟩ := parO_some (by rw [hps]; rfl)
   rw [e1] at hv
   rw [e0] at hc
   by_cases hi : i = 1
   ·
    subst hi
    have h1 : w.cell? ⟨g, 0 * 8 + 1, none⟩ = some (.int .i64 P.entry) := hc 1 _ rfl
    cases hv
    exact cell_new h1 rfl
   ·
    rw [cell_off (by omega)]
    refine hc i v ?_
    match i, hi with
    | 0, _ => exact hv
    | 1, hi => exact (hi rfl).elim
    | n + 2, _ => exact hv
  | succ j =>
   have e0 : parO { x with ps := { P with entry := m } :: r } O (j + 1) = parO x O (j + 1) := by unfold parO; rw [hps]; rfl
   rw [e0] at hv
   rw [cell_off (by omega)]
   exact hc i v hv
 ·
  obtain ⟨Q', hQ', e1, e2⟩ : ∃ Q', x.ps[j]? = some Q' ∧ Q.rs = Q'.rs ∧ Q.ps = Q'.ps := by
   rw [hps]
   cases j with
   | zero => cases hQ; exact ⟨P, rfl, rfl, rfl⟩
   | succ j => exact ⟨Q, hQ, rfl, rfl⟩
  obtain ⟨⟨a1, a2⟩, b1, b2⟩ := h.i2 j Q' hQ'
  rw [e1, e2]
  exact ⟨⟨a1.kept kS fun _ y hy e => hd.ne (a := 0) (b := 3) (c := 2) (d := j) (by omega) hg hy e, a2⟩, b1.kept kS fun _ y hy e => hd.ne (a := 0) (b := 3) (c := 3) (d := j) (by omega) hg hy e, b2⟩
theorem Beg.setU {x : Cfg} {w : World} {O : Nat → Nat → ObG} (h : Beg x w O) (hd : Dis O) {X : Core} {r : List Core} {y : Win} {q : List Win} (hcs : x.cs = X :: r) (hws : X.ws = y :: q) {g : Nat} (hg : adO (O 1 0).u = some ⟨g, 0, none⟩) (u : Int) :
  Beg { x with cs := { X with ws := { y with u := u } :: q } :: r } (w.setCell ⟨g, 1, none⟩ (.int .i64 u)) O := by
 have hl : ({ X with ws := { y with u := u } :: q } :: r).length = x.cs.length := by rw [hcs]; rfl
 have kS : Keeps (fun k => k = g) w (w.setCell ⟨g, 1, none⟩ (.int .i64 u)) := (Keeps.refl _ w).setCell ⟨g, 1, none⟩ _ fun _ => rfl
 refine ⟨fun j hj => ?_, by rw [hl]; exact h.c0l, fun j hj => ?_, h.c2l, h.c5.kept kS fun _ z hz e => hd.ne (a := 1) (b := 0) (c := 0) (d := 0) (by omega) hg hz e, h.c5l, fun j Y hY => ?_, fun j Q hQ => ⟨⟨(h.i2 j Q hQ).1.1.kept kS fun _ z hz e => hd.ne (a := 1) (b := 0) (c := 2) (d := j) (by omega) hg hz e, (h.i2 j Q hQ).1.2⟩, (h.i2 j Q hQ).2.1.kept kS fun _ z hz e => hd.ne (a := 1) (b := 0) (c := 3) (d := j) (by omega) hg hz e, (h.i2 j Q hQ).2.2⟩⟩
 ·
  obtain ⟨g', ea, hc⟩ := h.c0 j (by rw [← hl]; exact hj)
  refine ⟨g', ea, ?_⟩
  have hne : g' ≠ g := hd.ne (a := 1) (b := 0) (c := 0) (d := 1) (by omega) hg ea
  rw [cell_far (x := ⟨g', _, none⟩) hne]
  rw [hc]
  cases j with
  | zero =>
   have e1 : wsO { x with cs := { X with ws := { y with u := u } :: q } :: r } 0 = { y with u := u } :: q := wsO_some (X := { X with ws := { y with u := u } :: q }) rfl
   have e0 : wsO x 0 = y :: q := by rw [wsO_some (X := X) (by rw [hcs]; rfl), hws]
   unfold coreO
   rw [e0, e1]
   rfl
  | succ j =>
   have e0 : wsO { x with cs := { X with ws := { y with u := u } :: q } :: r } (j + 1) = wsO x (j + 1) := by unfold wsO; rw [hcs]; rfl
   unfold coreO
   rw [e0]
 ·
  obtain ⟨g', ea, hc⟩ := h.c2 j hj
  refine ⟨g', ea, fun i v hv => ?_⟩
  have hne : g' ≠ g := hd.ne (a := 1) (b := 0) (c := 0) (d := 3) (by omega) hg ea
  rw [cell_far (x := ⟨g', _, none⟩) hne]
  exact hc i v hv
 ·
  cases j with
  | zero =>
   cases hY
   obtain ⟨a1, a2⟩ := h.i1 0 X (by rw [hcs]; rfl)
   rw [hws] at a1 a2
   refine ⟨?_, a2⟩
   rcases a1 with a1 | ⟨g', o', ea, hc⟩
   ·
    cases a1
   ·
    rw [hg] at ea
    cases ea
    refine .inr ⟨g, 0, hg, fun j z hz i v hv => ?_⟩
    cases j with
    | zero =>
     cases hz
     by_cases hi : i = 1
     ·
      subst hi
      have h1 : w.cell? ⟨g, 0 + 0 * 3 + 1, none⟩ = some (.int .i64 y.u) := hc 0 y rfl 1 _ rfl
      cases hv
      exact cell_new h1 (by omega)
     ·
      rw [cell_off (by omega)]
      refine hc 0 y rfl i v ?_
      match i, hi with
      | 0, _ => exact hv
      | 1, hi => exact (hi rfl).elim
      | n + 2, _ => exact hv
    | succ j =>
     rw [cell_off (by omega)]
     exact hc (j + 1) z hz i v hv
  | succ j =>
   obtain ⟨a1, a2⟩ := h.i1 (j + 1) Y (by rw [hcs]; exact hY)
   exact ⟨a1.kept kS fun _ z hz e => hd.ne (a := 1) (b := 0) (c := 1) (d := j + 1) (by omega) hg hz e, a2⟩
theorem Fn.setE {x : Cfg} (h : Fn x) {P : Par} {r : List Par} (hps : x.ps = P :: r) {m : Int} (hm : I64 m) : Fn { x with ps := { P with entry := m } :: r } := by
 have hP := h.pin P (by rw [hps]; simp)
 refine ⟨h.hfine, h.ns, h.cf, fun Q hQ => ?_⟩
 rcases List.mem_cons.1 hQ with rfl | hQ
 ·
  refine ⟨hP.rfine, hP.pfine, fun n hn => ?_, hP.name⟩
  rcases List.mem_cons.1 hn with rfl | hn
  ·
   exact hm
  ·
   exact hP.ns n (List.mem_cons_of_mem _ hn)
 ·
  exact h.pin Q (by rw [hps]; exact List.mem_cons_of_mem _ hQ)
theorem Fn.setU {x : Cfg} (h : Fn x) {X : Core} {r : List Core} {y : Win} {q : List Win} (hcs : x.cs = X :: r) (hws : X.ws = y :: q) {u : Int} (hu : I64 u) : Fn { x with cs := { X with ws := { y with u := u } :: q } :: r } := by
 have hX := h.cf X (by rw [hcs]; simp)
 rw [hws] at hX
 refine ⟨h.hfine, h.ns, fun Y hY => ?_, h.pin⟩
 rcases List.mem_cons.1 hY with rfl | hY
 ·
  intro z hz
  rcases List.mem_cons.1 hz with rfl | hz
  ·
   have := hX y (by simp)
   exact ⟨this.1, hu, this.2.2⟩
  ·
   exact hX z (List.mem_cons_of_mem _ hz)
 ·
  exact h.cf Y (by rw [hcs]; exact List.mem_cons_of_mem _ hY)
theorem Sml.pure {x y : Cfg} (h : Sml x) (hp : x.pure = y.pure) : Sml y := by
 have e1 : x.cs.map Core.ws = y.cs.map Core.ws := congrArg PCfg.cs hp
 have e2 : x.ps.map Par.pure = y.ps.map Par.pure := congrArg PCfg.ps hp
 have e3 : x.hs = y.hs := congrArg PCfg.hs hp
 have l1 : x.cs.length = y.cs.length := by have := congrArg List.length e1; simpa using this
 have l2 : x.ps.length = y.ps.length := by have := congrArg List.length e2; simpa using this
 refine ⟨by rw [← l1]; exact h.cs, by rw [← l2]; exact h.ps, by rw [← e3]; exact h.hs, fun Y hY => ?_, fun Q hQ => ?_, fun Q hQ => ?_⟩
 ·
  have : Y.ws ∈ x.cs.map Core.ws := by rw [e1]; exact List.mem_map_of_mem hY
  obtain ⟨X, hX, e⟩ := List.mem_map.1 this
  rw [← e]; exact h.ws X hX
 ·
  have : Q.pure ∈ x.ps.map Par.pure := by rw [e2]; exact List.mem_map_of_mem hQ
  obtain ⟨P, hP, e⟩ := List.mem_map.1 this
  have e' : P.rs = Q.rs := congrArg PPar.rs e
  rw [← e']; exact h.rs P hP
 ·
  have : Q.pure ∈ x.ps.map Par.pure := by rw [e2]; exact List.mem_map_of_mem hQ
  obtain ⟨P, hP, e⟩ := List.mem_map.1 this
  have e' : P.ps = Q.ps := congrArg PPar.ps e
  rw [← e']; exact h.qs P hP
theorem Sml.setE {x : Cfg} (h : Sml x) {P : Par} {r : List Par} (hps : x.ps = P :: r) {m : Int} : Sml { x with ps := { P with entry := m } :: r } := by
 refine ⟨h.cs, by have := h.ps; rw [hps] at this; exact this, h.hs, h.ws, fun Q hQ => ?_, fun Q hQ => ?_⟩
 ·
  rcases List.mem_cons.1 hQ with rfl | hQ
  ·
   exact h.rs P (by rw [hps]; simp)
  ·
   exact h.rs Q (by rw [hps]; exact List.mem_cons_of_mem _ hQ)
 ·
  rcases List.mem_cons.1 hQ with rfl | hQ
  ·
   exact h.qs P (by rw [hps]; simp)
  ·
   exact h.qs Q (by rw [hps]; exact List.mem_cons_of_mem _ hQ)
theorem Sml.setU {x : Cfg} (h : Sml x) {X : Core} {r : List Core} {y : Win} {q : List Win} (hcs : x.cs = X :: r) (hws : X.ws = y :: q) {u : Int} : Sml { x with cs := { X with ws := { y with u := u } :: q } :: r } := by
 refine ⟨by have := h.cs; rw [hcs] at this; exact this, h.ps, h.hs, fun Y hY => ?_, h.rs, h.qs⟩
 rcases List.mem_cons.1 hY with rfl | hY
 ·
  have := h.ws X (by rw [hcs]; simp)
  rw [hws] at this; exact this
 ·
  exact h.ws Y (by rw [hcs]; exact List.mem_cons_of_mem _ hY)
end Go.Proofs.YtlnmlbkeemahcaaGreat
