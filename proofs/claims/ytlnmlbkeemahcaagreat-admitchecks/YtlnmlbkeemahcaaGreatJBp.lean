import Derived.Test.YtlnmlbkeemahcaaGreatGd
import Derived.Test.YtlnmlbkeemahcaaGreatJSb
namespace Go.Proofs.YtlnmlbkeemahcaaGreat
open Go.RowKit
set_option linter.unusedVariables false
set_option linter.unusedSimpArgs false
set_option maxRecDepth 6000
def Core.b (X : Core) : Core := ⟨none, 0, X.ws⟩
def Par.b (P : Par) : Par := ⟨P.name, P.entry, P.action, P.restarts, P.inputs, P.outputs, none, 0, P.rs, none, 0, P.ps⟩
def Cfg.b (x : Cfg) : Cfg := ⟨x.frames, x.major, x.kernel, x.room, none, 0, x.cs.map Core.b, none, 0, x.ps.map Par.b, none, 0, x.hs⟩
theorem Cfg.b_pure {x y : Cfg} (h : x.pure = y.pure) : x.b = y.b := by
 have e1 : ∀ l : List Core, l.map Core.b = (l.map Core.ws).map fun ws => (⟨none, 0, ws⟩ : Core) := fun l => by rw [List.map_map]; rfl
 have e2 : ∀ l : List Par, l.map Par.b = (l.map Par.pure).map fun P => (⟨P.name, P.entry, P.action, P.restarts, P.inputs, P.outputs, none, 0, P.rs, none, 0, P.ps⟩ : Par) := fun l => by rw [List.map_map]; rfl
 obtain ⟨n1, n2, n3, n4, ca1, cc1, cs, pa1, pc1, ps, ha1, kc1, hs⟩ := x
 obtain ⟨n1', n2', n3', n4', ca2, cc2, cs', pa2, pc2, ps', ha2, kc2, hs'⟩ := y
 simp only [Cfg.pure, PCfg.mk.injEq] at h
 obtain ⟨rfl, rfl, rfl, rfl, hcs, hps, rfl⟩ := h
 simp only [Cfg.b, e1, e2, hcs, hps]
theorem endsL_b (d : Bool) (n : Int) (ps : List Par) (i : Nat) : endsL d n (ps.map Par.b) i = endsL d n ps i := by
 unfold endsL
 simp only [List.getElem?_map]
 congr 1
 funext k
 cases ps[k]? <;> rfl
theorem dstsOf_b (x : Cfg) (n : Nat) : dstsOf x.b n = dstsOf x n := by
 simp only [dstsOf, Cfg.b, endsL_b, List.length_map]
theorem chSz_b (x : Cfg) (n : Nat) : chSz x.b n = chSz x n := by
 unfold chSz
 rw [dstsOf_b]
 rfl
theorem chAt_b (x : Cfg) (c : Int) (n : Nat) : chAt x.b c n = chAt x c n := by
 induction n with
 | zero => rfl
 | succ n ih => simp only [chAt, ih, chSz_b]
theorem rtSz_b (x : Cfg) (i : Nat) : rtSz x.b i = rtSz x i := by
 simp only [rtSz, Cfg.b, List.getElem?_map]
 cases x.ps[i]? <;> rfl
theorem rtAt_b (x : Cfg) (c : Int) (n : Nat) : rtAt x.b c n = rtAt x c n := by
 induction n with
 | zero => rfl
 | succ n ih => simp only [rtAt, ih, rtSz_b]
theorem len_b (x : Cfg) : x.b.ps.length = x.ps.length ∧ x.b.cs.length = x.cs.length := ⟨List.length_map .., List.length_map ..⟩
theorem endW_b (x : Cfg) : x.b.endW = x.endW := by
 have e1 : chB x.b (16 * x.kernel) = chB x (16 * x.kernel) := by unfold chB; rw [(len_b x).1]
 have e2 : chE x.b (16 * x.kernel) = chE x (16 * x.kernel) := by unfold chE; rw [chAt_b, e1]; rfl
 have e3 : rtB x.b (16 * x.kernel) = rtB x (16 * x.kernel) := by unfold rtB; rw [e2]
 show rtAt x.b (rtB x.b (16 * x.kernel)) x.b.ps.length / 16 = _
 rw [rtAt_b, e3, (len_b x).1]
 rfl
theorem mayB_b (x : Cfg) : x.b.mayB = x.mayB := by
 have e1 : (chnB (x.ps.map Par.b) x.hs) = chnB x.ps x.hs := by
  funext n
  unfold chnB
  cases x.hs[n]? with
  | none => rfl
  | some h => simp only [joined, endsL_b, List.length_map]
 simp only [Cfg.mayB, Cfg.b, List.length_map, List.all_map, e1]
 rfl
theorem kerB_b (x : Cfg) : x.b.kerB = x.kerB := by
 have e1 : x.b.hitB = x.hitB := by simp only [Cfg.hitB, Cfg.b, List.any_map]; rfl
 have e2 : x.b.fitB = x.fitB := by unfold Cfg.fitB; rw [mayB_b, endW_b]; rfl
 unfold Cfg.kerB
 rw [e1, e2]
 rfl
theorem rgnsF_b (x : Cfg) (p : Nat) (P : Par) : rgnsF x.b p P.b = rgnsF x p P := by
 unfold rgnsF
 congr 2
 funext i
 congr 1
 show rgnF' x.b p P.b i = _
 unfold rgnF'
 show (match P.rs[i]? with | some r => rgnF x.b p P.b i r | none => []) = _
 cases P.rs[i]? with
 | none => rfl
 | some r => simp only [rgnF, Cfg.b, ← List.map_take, List.any_map]; rfl
theorem prtsF_b (x : Cfg) (p : Nat) (P : Par) : prtsF x.b p P.b = prtsF x p P := rfl
theorem parF_b (x : Cfg) (p : Nat) (P : Par) : parF x.b p P.b = parF x p P := by
 unfold parF
 rw [rgnsF_b, prtsF_b]
 have e : (x.b.ps.take p).any (fun Q => Q.name.toList == P.b.name.toList) = (x.ps.take p).any (fun Q => Q.name.toList == P.name.toList) := by
  simp only [Cfg.b, ← List.map_take, List.any_map]; rfl
 rw [e]
 rfl
theorem parsF_b (x : Cfg) : parsF x.b = parsF x := by
 unfold parsF
 rw [(len_b x).1]
 congr 2
 funext p
 congr 1
 simp only [parF', Cfg.b, List.getElem?_map]
 cases x.ps[p]? with
 | none => rfl
 | some P => exact parF_b x p P
theorem cntQ_b (q : Prt) (ps : List Par) : cntQ q (ps.map Par.b) = cntQ q ps := by
 unfold cntQ
 rw [List.flatMap_map]
 rfl
theorem chnsF_b (x : Cfg) : chnsF x.b = chnsF x := by
 unfold chnsF
 show firstF ((List.range x.hs.length).map fun p => firstF (chnF' x.b p)) = _
 congr 2
 funext p
 congr 1
 unfold chnF'
 show (match x.hs[p]? with | some h => chnF x.b p h | none => []) = _
 cases x.hs[p]? with
 | none => rfl
 | some h => simp only [chnF, Cfg.b, cntQ_b]
theorem winsF_b (x : Cfg) (p : Nat) (X : Core) : winsF x.b p X.b = winsF x p X := by
 unfold winsF
 show firstF ((List.range X.ws.length).map fun i => firstF (winF' x.b p X.b i)) = _
 congr 2
 funext i
 congr 1
 unfold winF'
 show (match X.ws[i]? with | some y => winF x.b p i y | none => []) = _
 cases X.ws[i]? with
 | none => rfl
 | some y =>
  have e : hasW y.p (x.b.cs.take p) = hasW y.p (x.cs.take p) := by
   simp only [hasW, Cfg.b, ← List.map_take, List.any_map]; rfl
  simp only [winF]
  rw [e, (len_b x).1]
theorem corsF_b (x : Cfg) : corsF x.b = corsF x := by
 unfold corsF
 rw [(len_b x).2]
 congr 2
 funext p
 congr 1
 simp only [corF', Cfg.b, List.getElem?_map]
 cases x.cs[p]? with
 | none => rfl
 | some X =>
  show corF x.b p X.b = corF x p X
  unfold corF
  rw [winsF_b]
  rfl
theorem chk_b (x : Cfg) : chk x.b = chk x := by
 unfold chk cfgF
 rw [parsF_b, chnsF_b, corsF_b, kerB_b, (len_b x).1, (len_b x).2]
 rfl
theorem chk_pure {x y : Cfg} (h : x.pure = y.pure) : chk x = chk y := by rw [← chk_b x, Cfg.b_pure h, chk_b]
end Go.Proofs.YtlnmlbkeemahcaaGreat
