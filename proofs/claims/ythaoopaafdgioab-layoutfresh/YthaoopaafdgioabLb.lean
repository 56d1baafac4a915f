import Derived.Test.YthaoopaafdgioabIs
import Derived.Test.YthaoopaafdgioabSu
import Derived.Test.YthaoopaafdgioabKy
namespace Go.Proofs.Ythaoopaafdgioab
open Go.RowKit
set_option linter.unusedVariables false
set_option linter.unusedSimpArgs false
set_option maxRecDepth 6000

/-! ### What a layout tells hangs on the contents alone -/
def Core.b (X : Core) : Core := ⟨none, 0, X.ws⟩
def Par.b (P : Par) : Par := ⟨P.name, P.entry, P.action, P.restarts, P.inputs, P.outputs, none, 0, P.rs, none, 0, P.ps⟩
def Cfg.b (x : Cfg) : Cfg := ⟨x.frames, x.major, x.kernel, x.room, none, 0, x.cs.map Core.b, none, 0, x.ps.map Par.b, none, 0, x.hs⟩
theorem endsL_b (d : Bool) (n : Int) (ps : List Par) (i : Nat) : endsL d n (ps.map Par.b) i = endsL d n ps i := by
  unfold endsL
  simp only [List.getElem?_map]
  congr 1
  funext k
  cases ps[k]? <;> rfl
theorem dstsOf_b (x : Cfg) (n : Nat) : dstsOf x.b n = dstsOf x n := by
  simp only [dstsOf, Cfg.b, endsL_b, List.length_map]
theorem chSz_b (x : Cfg) (n : Nat) : chSz x.b n = chSz x n := by
  unfold chSz
  rw [dstsOf_b]
  rfl
theorem chAt_b (x : Cfg) (c : Int) (n : Nat) : chAt x.b c n = chAt x c n := by
  induction n with
  | zero => rfl
  | succ n ih => simp only [chAt, ih, chSz_b]
theorem rtSz_b (x : Cfg) (i : Nat) : rtSz x.b i = rtSz x i := by
  simp only [rtSz, Cfg.b, List.getElem?_map]
  cases x.ps[i]? <;> rfl
theorem rtAt_b (x : Cfg) (c : Int) (n : Nat) : rtAt x.b c n = rtAt x c n := by
  induction n with
  | zero => rfl
  | succ n ih => simp only [rtAt, ih, rtSz_b]
theorem len_b (x : Cfg) : x.b.ps.length = x.ps.length ∧ x.b.cs.length = x.cs.length := ⟨List.length_map .., List.length_map ..⟩
theorem mayB_b (x : Cfg) : x.b.mayB = x.mayB := by
  have e1 : (chnB (x.ps.map Par.b) x.hs) = chnB x.ps x.hs := by
    funext n
    unfold chnB
    cases x.hs[n]? with
    | none => rfl
    | some h => simp only [joined, endsL_b, List.length_map]
  simp only [Cfg.mayB, Cfg.b, List.length_map, List.all_map, e1]
  rfl
theorem bare_eq {x y : Cfg} (h : x.pure = y.pure) : x.b = y.b := by
  have e1 : x.cs.map Core.b = y.cs.map Core.b := by
    have := congrArg (List.map fun ws => (⟨none, 0, ws⟩ : Core)) (congrArg PCfg.cs h)
    simp only [Cfg.pure, List.map_map] at this
    exact this
  have e2 : x.ps.map Par.b = y.ps.map Par.b := by
    have := congrArg (List.map fun (p : PPar) => (⟨p.name, p.entry, p.action, p.restarts, p.inputs, p.outputs, none, 0, p.rs, none, 0, p.ps⟩ : Par)) (congrArg PCfg.ps h)
    simp only [Cfg.pure, List.map_map] at this
    exact this
  have h1 : x.frames = y.frames := congrArg PCfg.frames h
  have h2 : x.major = y.major := congrArg PCfg.major h
  have h3 : x.kernel = y.kernel := congrArg PCfg.kernel h
  have h4 : x.room = y.room := congrArg PCfg.room h
  have h5 : x.hs = y.hs := congrArg PCfg.hs h
  unfold Cfg.b
  rw [e1, e2, h1, h2, h3, h4, h5]
theorem chB_b (x : Cfg) (a : Int) : chB x.b a = chB x a := by unfold chB; rw [(len_b x).1]
theorem chE_b (x : Cfg) (a : Int) : chE x.b a = chE x a := by unfold chE; rw [chAt_b, chB_b]; rfl
theorem rtB_b (x : Cfg) (a : Int) : rtB x.b a = rtB x a := by unfold rtB; rw [chE_b]
theorem FOK_b (x : Cfg) (a b : Int) (n : Nat) (F : Nat → PP) (T : Nat → List Int) : FOK x.b a b n F T ↔ FOK x a b n F T := by
  unfold FOK
  rw [(len_b x).1]
  have e : ∀ i, (∃ P, x.b.ps[i]? = some P ∧ (F i).root = rtAt x.b b i / 16 ∧ T i = tabL (rtAt x.b b i) (cntT P.rs 16)) ↔ (∃ P, x.ps[i]? = some P ∧ (F i).root = rtAt x b i / 16 ∧ T i = tabL (rtAt x b i) (cntT P.rs 16)) := fun i => by
    rw [rtAt_b]
    simp only [Cfg.b, List.getElem?_map]
    cases x.ps[i]? with
    | none => simp
    | some P =>
      simp only [Option.map_some, Option.some.injEq]
      exact ⟨fun ⟨Q, hQ, h⟩ => ⟨P, rfl, by subst hQ; exact h⟩, fun ⟨Q, hQ, h⟩ => ⟨P.b, rfl, by subst hQ; exact h⟩⟩
  simp only [e]
theorem GOK_b (x : Cfg) (b : Int) (n : Nat) (G : Nat → CP) (D : Nat → List Dst) : GOK x.b b n G D ↔ GOK x b n G D := by
  unfold GOK
  simp only [chAt_b, dstsOf_b]
  have e : ∀ i : Nat, endsL true i x.b.ps x.b.ps.length = endsL true i x.ps x.ps.length := fun i => by simp only [Cfg.b, endsL_b, List.length_map]
  simp only [e]
  rfl
theorem LD_b (x : Cfg) (lo b1 b2 : Nat) (F : Nat → PP) (G : Nat → CP) (T : Nat → List Int) (D : Nat → List Dst) (w : World) : LD x.b lo b1 b2 F G T D w ↔ LD x lo b1 b2 F G T D w := by
  have e := (len_b x).1
  exact ⟨fun h => ⟨by have := h.p; rw [e] at this; exact this, h.c, h.lw, by have := h.tr; rw [e] at this; exact this, h.dr⟩, fun h => ⟨by rw [e]; exact h.p, h.c, h.lw, by rw [e]; exact h.tr, h.dr⟩⟩
theorem OfS_b (x : Cfg) (lo : Nat) (A En er : Int) (a1 : Option Addr) (n1 c1 : Nat) (a2 : Option Addr) (n2 c2 : Nat) (w : World) : OfS x.b lo A En er a1 n1 c1 a2 n2 c2 w ↔ OfS x lo A En er a1 n1 c1 a2 n2 c2 w := by
  unfold OfS
  rw [mayB_b, show x.b.kernel = x.kernel from rfl, show x.b.hs = x.hs from rfl, (len_b x).1, rtB_b, chB_b, rtAt_b]
  simp only [LD_b, FOK_b, GOK_b]
theorem OfS.tr {x y : Cfg} (h : x.pure = y.pure) {lo : Nat} {A En er : Int} {a1 : Option Addr} {n1 c1 : Nat} {a2 : Option Addr} {n2 c2 : Nat} {w : World} (ho : OfS x lo A En er a1 n1 c1 a2 n2 c2 w) : OfS y lo A En er a1 n1 c1 a2 n2 c2 w :=
  (OfS_b y ..).1 (bare_eq h ▸ (OfS_b x ..).2 ho)
theorem nd_b (x : Cfg) : ndE x.b = ndE x ∧ ndN x.b = ndN x := by
  unfold ndE ndN
  rw [mayB_b, show x.b.kernel = x.kernel from rfl, (len_b x).1, rtB_b, rtAt_b]
  exact ⟨rfl, rfl⟩
theorem nd_tr {x y : Cfg} (h : x.pure = y.pure) : ndE x = ndE y ∧ ndN x = ndN y := by
  rw [← (nd_b x).1, ← (nd_b x).2, bare_eq h, (nd_b y).1, (nd_b y).2]; exact ⟨rfl, rfl⟩
theorem chansH_b (x : Cfg) (j : Nat) : chansH x.b j = chansH x j := by unfold chansH; simp only [dstsOf_b]; rfl
theorem tabsH_b (x : Cfg) (j : Nat) : tabsH x.b j = tabsH x j := by
  unfold tabsH
  congr 1
  funext p
  simp only [Cfg.b, List.getElem?_map]
  cases x.ps[p]? <;> rfl
theorem layH_b (x : Cfg) (a : Int) : layH x.b a = layH x a := by
  unfold layH
  rw [(len_b x).1, chansH_b, tabsH_b, chE_b]
  rfl
theorem regO_b (fr : Int) (x : Cfg) : regO fr x.b.ps = regO fr x.ps := by
  unfold regO
  simp only [Cfg.b, List.findIdx?_map]
  rfl
theorem ownA_b (x : Cfg) (t : Int) : ownA x.b t = ownA x t := by
  unfold ownA ownO
  rw [mayB_b, show x.b.kernel = x.kernel from rfl, show x.b.frames = x.frames from rfl, layH_b, regO_b]
theorem ownA_tr {x y : Cfg} (h : x.pure = y.pure) (t : Int) : ownA x t = ownA y t := by rw [← ownA_b x, bare_eq h, ownA_b]
end Go.Proofs.Ythaoopaafdgioab
