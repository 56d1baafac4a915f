import Derived.Test.YthaoopaafdgioabKa
namespace Go.Proofs.Ythaoopaafdgioab
open Go.RowKit
set_option linter.unusedVariables false
set_option linter.unusedSimpArgs false
set_option maxRecDepth 6000

/-- k things, put behind one another. -/
def apN (f : Nat → List Value) (k : Nat) : List Value := (List.range k).flatMap f
theorem apN_zero (f : Nat → List Value) : apN f 0 = [] := rfl
theorem apN_succ (f : Nat → List Value) (k : Nat) : apN f (k + 1) = apN f k ++ f k := by unfold apN; rw [List.range_succ, List.flatMap_append]; simp
theorem apN_congr {f g : Nat → List Value} : ∀ {k : Nat}, (∀ i, i < k → f i = g i) → apN f k = apN g k
  | 0, _ => rfl
  | k + 1, h => by rw [apN_succ, apN_succ, apN_congr fun i hi => h i (by omega), h k (by omega)]
theorem apN_len {f : Nat → List Value} {s : Nat} : ∀ {k : Nat}, (∀ i, i < k → (f i).length = s) → (apN f k).length = k * s
  | 0, _ => by simp [apN]
  | k + 1, h => by rw [apN_succ, List.length_append, apN_len fun i hi => h i (by omega), h k (by omega), Nat.add_mul, Nat.one_mul]
theorem apN_get {f : Nat → List Value} {s : Nat} : ∀ {K : Nat}, (∀ i, i < K → (f i).length = s) → ∀ {k i : Nat}, k < K → i < s → (apN f K)[k * s + i]? = (f k)[i]?
  | 0, _, k, i, hk, _ => by omega
  | K + 1, h, k, i, hk, hi => by
    rw [apN_succ]
    have hK : (apN f K).length = K * s := apN_len fun i hi => h i (by omega)
    by_cases e : k = K
    · subst e
      rw [List.getElem?_append_right (by rw [hK]; omega), hK, Nat.add_sub_cancel_left]
    · have : (k + 1) * s ≤ K * s := Nat.mul_le_mul_right _ (by omega)
      rw [Nat.add_mul, Nat.one_mul] at this
      rw [List.getElem?_append_left (by rw [hK]; omega)]
      exact apN_get (fun i hi => h i (by omega)) (by omega) hi

/-! ### What stands in the lists of a configuration with room behind them -/
def wsO (y : Cfg) (i : Nat) : List Win := ((y.cs[i]?).map (·.ws)).getD []
def rsO (y : Cfg) (i : Nat) : List Rgn := ((y.ps[i]?).map (·.rs)).getD []
def psO (y : Cfg) (i : Nat) : List Prt := ((y.ps[i]?).map (·.ps)).getD []
theorem wsO_some {y : Cfg} {i : Nat} {X : Core} (h : y.cs[i]? = some X) : wsO y i = X.ws := by unfold wsO; rw [h]; rfl
theorem rsO_some {y : Cfg} {i : Nat} {P : Par} (h : y.ps[i]? = some P) : rsO y i = P.rs := by unfold rsO; rw [h]; rfl
theorem psO_some {y : Cfg} {i : Nat} {P : Par} (h : y.ps[i]? = some P) : psO y i = P.ps := by unfold psO; rw [h]; rfl
def mk7 (k : Nat) : Int := -70 - (k : Int)
def wMk (k : Nat) : List Value := [.int .i64 (mk7 k), .int .i64 0, .int .i64 0]
def rMk (k : Nat) : List Value := [.int .i64 (mk7 k), .int .i64 0, .int .i64 0, .int .i64 0]
def pMk (k : Nat) : List Value := [.int .i64 (mk7 k), .bool false]
def hMk (k : Nat) : List Value := [.int .i64 (mk7 k), .int .i64 0, .int .i64 0]
def qMk (k : Nat) : List Value := [.string { data := #[] }, .int .i64 (mk7 k), .int .i64 0, .int .i64 0, .int .i64 0, .int .i64 0, .slice none 0 0, .slice none 0 0]
def parV (P : Par) (r q : Value) : List Value := [.string P.name, .int .i64 P.entry, .int .i64 P.action, .int .i64 P.restarts, .int .i64 P.inputs, .int .i64 P.outputs, r, q]
def parC (y : Cfg) (i : Nat) (r q : Value) : List Value := match y.ps[i]? with | some P => parV P r q | none => []
theorem parC_some {y : Cfg} {i : Nat} {P : Par} (h : y.ps[i]? = some P) (r q : Value) : parC y i r q = parV P r q := by unfold parC; rw [h]

structure RP (y : Cfg) (j1 j2 : Nat) (hs : List Chn) (k : Nat) (O : Nat → Nat → ObG) : Prop where
  c0n : (O 0 0).n = j1 + k
  c0 : (O 0 0).xs = apN (fun i => [cut (wsO y i).length (O 1 i).u]) j1 ++ apN (fun i => [(O 4 i).u]) k
  c1n : (O 0 1).n = j1
  c1 : (O 0 1).xs = apN (fun i => [(O 1 i).u]) j1
  c2n : (O 0 2).n = j2 + k
  c2 : (O 0 2).xs = apN (fun i => parC y i (cut (rsO y i).length (O 2 i).u) (cut (psO y i).length (O 3 i).u)) j2 ++ apN qMk k
  c3n : (O 0 3).n = j2
  c3 : (O 0 3).xs = apN (fun i => [(O 2 i).u]) j2
  c4n : (O 0 4).n = j2
  c4 : (O 0 4).xs = apN (fun i => [(O 3 i).u]) j2
  c5n : (O 0 5).n = hs.length + k
  c5 : (O 0 5).xs = hs.flatMap Chn.vs ++ apN hMk k
  i1 : ∀ i, i < j1 → (O 1 i).n = (wsO y i).length + 12 ∧ (O 1 i).xs = (wsO y i).flatMap Win.vs ++ apN wMk 12
  i2 : ∀ i, i < j2 → (O 2 i).n = (rsO y i).length + 12 ∧ (O 2 i).xs = (rsO y i).flatMap Rgn.vs ++ apN rMk 12
  i3 : ∀ i, i < j2 → (O 3 i).n = (psO y i).length + 12 ∧ (O 3 i).xs = (psO y i).flatMap Prt.vs ++ apN pMk 12
  i4 : ∀ i, i < k → (O 4 i).n = 1 ∧ (O 4 i).xs = wMk i
  z1 : ∀ i, j1 ≤ i → O 1 i = ObG.nil
  z2 : ∀ i, j2 ≤ i → O 2 i = ObG.nil
  z3 : ∀ i, j2 ≤ i → O 3 i = ObG.nil
  z4 : ∀ i, k ≤ i → O 4 i = ObG.nil
theorem RP.start (y : Cfg) : RP y 0 0 [] 0 (fun _ _ => ObG.nil) :=
  ⟨rfl, rfl, rfl, rfl, rfl, rfl, rfl, rfl, rfl, rfl, rfl, rfl, fun i hi => by omega, fun i hi => by omega, fun i hi => by omega, fun i hi => by omega, fun _ _ => rfl, fun _ _ => rfl, fun _ _ => rfl, fun _ _ => rfl⟩

theorem upd01 (O : Nat → Nat → ObG) (j : Nat) (l : ObG) (b : Nat) : updG O 1 j l 0 b = O 0 b := updG_ne O _ (by omega)
theorem RP.core {y : Cfg} {j j2 : Nat} {hs : List Chn} {O : Nat → Nat → ObG} (h : RP y j j2 hs 0 O) {l : ObG} {uW uC : Value} (hn : l.n = (wsO y j).length + 12) (hx : l.xs = (wsO y j).flatMap Win.vs ++ apN wMk 12) :
    RP y (j + 1) j2 hs 0 (updG (updG (updG O 1 j l) 0 1 ⟨uW, (O 0 1).n + 1, (O 0 1).xs ++ [l.u]⟩) 0 0 ⟨uC, (O 0 0).n + 1, (O 0 0).xs ++ [cut (wsO y j).length l.u]⟩) := by
  obtain ⟨c0n, c0, c1n, c1, c2n, c2, c3n, c3, c4n, c4, c5n, c5, i1, i2, i3, i4, z1, z2, z3, z4⟩ := h
  have e1 : ∀ i, i < j → updG O 1 j l 1 i = O 1 i := fun i hi => updG_ne O _ (by omega)
  refine ⟨?_, ?_, ?_, ?_, ?_, ?_, ?_, ?_, ?_, ?_, ?_, ?_, fun i hi => ?_, fun i hi => ?_, fun i hi => ?_, fun i hi => ?_, fun i hi => ?_, fun i hi => ?_, fun i hi => ?_, fun i hi => ?_⟩
  all_goals simp only [updG, Nat.zero_ne_one, Nat.one_ne_zero, Nat.reduceEqDiff, false_and, and_false, and_true, true_and, if_false, if_true, Nat.succ_ne_zero, reduceIte]
  · omega
  · rw [c0]
    simp only [apN_zero, List.append_nil, apN_succ, if_pos rfl]
    congr 1
    exact apN_congr fun i hi => by rw [if_neg (by omega)]
  · omega
  · rw [c1, apN_succ, if_pos rfl]
    congr 1
    exact apN_congr fun i hi => by rw [if_neg (by omega)]
  · exact c2n
  · exact c2
  · exact c3n
  · exact c3
  · exact c4n
  · exact c4
  · exact c5n
  · exact c5
  · by_cases e : i = j
    · subst e
      rw [if_pos rfl]
      exact ⟨hn, hx⟩
    · rw [if_neg e]
      exact i1 i (by omega)
  · exact i2 i hi
  · exact i3 i hi
  · omega
  · rw [if_neg (by omega)]
    exact z1 i (by omega)
  · exact z2 i hi
  · exact z3 i hi
  · exact z4 i hi

theorem RP.par {y : Cfg} {j1 j : Nat} {hs : List Chn} {O : Nat → Nat → ObG} (h : RP y j1 j hs 0 O) {l q : ObG} {uR uQ uP : Value} (hn : l.n = (rsO y j).length + 12) (hx : l.xs = (rsO y j).flatMap Rgn.vs ++ apN rMk 12) (qn : q.n = (psO y j).length + 12) (qx : q.xs = (psO y j).flatMap Prt.vs ++ apN pMk 12) :
    RP y j1 (j + 1) hs 0 (updG (updG (updG (updG (updG O 2 j l) 3 j q) 0 3 ⟨uR, (O 0 3).n + 1, (O 0 3).xs ++ [l.u]⟩) 0 4 ⟨uQ, (O 0 4).n + 1, (O 0 4).xs ++ [q.u]⟩) 0 2 ⟨uP, (O 0 2).n + 1, (O 0 2).xs ++ parC y j (cut (rsO y j).length l.u) (cut (psO y j).length q.u)⟩) := by
  obtain ⟨c0n, c0, c1n, c1, c2n, c2, c3n, c3, c4n, c4, c5n, c5, i1, i2, i3, i4, z1, z2, z3, z4⟩ := h
  refine ⟨?_, ?_, ?_, ?_, ?_, ?_, ?_, ?_, ?_, ?_, ?_, ?_, fun i hi => ?_, fun i hi => ?_, fun i hi => ?_, fun i hi => ?_, fun i hi => ?_, fun i hi => ?_, fun i hi => ?_, fun i hi => ?_⟩
  all_goals simp only [updG, Nat.zero_ne_one, Nat.one_ne_zero, Nat.reduceEqDiff, false_and, and_false, and_true, true_and, if_false, if_true, Nat.succ_ne_zero, reduceIte]
  · exact c0n
  · exact c0
  · exact c1n
  · exact c1
  · omega
  · rw [c2]
    simp only [apN_zero, List.append_nil, apN_succ, if_pos rfl]
    congr 1
    exact apN_congr fun i hi => by rw [if_neg (by omega), if_neg (by omega)]
  · omega
  · rw [c3, apN_succ, if_pos rfl]
    congr 1
    exact apN_congr fun i hi => by rw [if_neg (by omega)]
  · omega
  · rw [c4, apN_succ, if_pos rfl]
    congr 1
    exact apN_congr fun i hi => by rw [if_neg (by omega)]
  · exact c5n
  · exact c5
  · exact i1 i hi
  · by_cases e : i = j
    · subst e
      rw [if_pos rfl]
      exact ⟨hn, hx⟩
    · rw [if_neg e]
      exact i2 i (by omega)
  · by_cases e : i = j
    · subst e
      rw [if_pos rfl]
      exact ⟨qn, qx⟩
    · rw [if_neg e]
      exact i3 i (by omega)
  · omega
  · exact z1 i hi
  · rw [if_neg (by omega)]
    exact z2 i (by omega)
  · rw [if_neg (by omega)]
    exact z3 i (by omega)
  · exact z4 i hi

theorem RP.chs {y : Cfg} {j1 j2 : Nat} {O : Nat → Nat → ObG} (h : RP y j1 j2 [] 0 O) (hs : List Chn) (u : Value) : RP y j1 j2 hs 0 (updG O 0 5 ⟨u, hs.length, hs.flatMap Chn.vs⟩) := by
  obtain ⟨c0n, c0, c1n, c1, c2n, c2, c3n, c3, c4n, c4, c5n, c5, i1, i2, i3, i4, z1, z2, z3, z4⟩ := h
  refine ⟨?_, ?_, ?_, ?_, ?_, ?_, ?_, ?_, ?_, ?_, ?_, ?_, fun i hi => ?_, fun i hi => ?_, fun i hi => ?_, fun i hi => ?_, fun i hi => ?_, fun i hi => ?_, fun i hi => ?_, fun i hi => ?_⟩
  all_goals simp only [updG, Nat.zero_ne_one, Nat.one_ne_zero, Nat.reduceEqDiff, false_and, and_false, and_true, true_and, if_false, if_true, Nat.succ_ne_zero, reduceIte, apN_zero, List.append_nil, Nat.add_zero]
  · exact c0n
  · simpa [apN_zero] using c0
  · exact c1n
  · exact c1
  · exact c2n
  · simpa [apN_zero] using c2
  · exact c3n
  · exact c3
  · exact c4n
  · exact c4
  · exact i1 i hi
  · exact i2 i hi
  · exact i3 i hi
  · omega
  · exact z1 i hi
  · exact z2 i hi
  · exact z3 i hi
  · exact z4 i hi

theorem RP.spare {y : Cfg} {j1 j2 k : Nat} {hs : List Chn} {O : Nat → Nat → ObG} (h : RP y j1 j2 hs k O) {s uC uP uH : Value} :
    RP y j1 j2 hs (k + 1) (updG (updG (updG (updG O 4 k ⟨s, 1, wMk k⟩) 0 0 ⟨uC, (O 0 0).n + 1, (O 0 0).xs ++ [s]⟩) 0 2 ⟨uP, (O 0 2).n + 1, (O 0 2).xs ++ qMk k⟩) 0 5 ⟨uH, (O 0 5).n + 1, (O 0 5).xs ++ hMk k⟩) := by
  obtain ⟨c0n, c0, c1n, c1, c2n, c2, c3n, c3, c4n, c4, c5n, c5, i1, i2, i3, i4, z1, z2, z3, z4⟩ := h
  refine ⟨?_, ?_, ?_, ?_, ?_, ?_, ?_, ?_, ?_, ?_, ?_, ?_, fun i hi => ?_, fun i hi => ?_, fun i hi => ?_, fun i hi => ?_, fun i hi => ?_, fun i hi => ?_, fun i hi => ?_, fun i hi => ?_⟩
  all_goals simp only [updG, Nat.zero_ne_one, Nat.one_ne_zero, Nat.reduceEqDiff, false_and, and_false, and_true, true_and, if_false, if_true, Nat.succ_ne_zero, reduceIte]
  · omega
  · rw [c0, apN_succ, if_pos rfl, List.append_assoc]
    congr 2
    exact apN_congr fun i hi => by rw [if_neg (by omega)]
  · exact c1n
  · exact c1
  · omega
  · rw [c2, apN_succ, List.append_assoc]
  · exact c3n
  · exact c3
  · exact c4n
  · exact c4
  · omega
  · rw [c5, apN_succ, List.append_assoc]
  · exact i1 i hi
  · exact i2 i hi
  · exact i3 i hi
  · by_cases e : i = k
    · subst e
      rw [if_pos rfl]
      exact ⟨rfl, rfl⟩
    · rw [if_neg e]
      exact i4 i (by omega)
  · exact z1 i hi
  · exact z2 i hi
  · exact z3 i hi
  · rw [if_neg (by omega)]
    exact z4 i (by omega)

/-- A new block of one thing is a row of one. -/
theorem own_new (w : World) (cs : Array Value) (e : TypeId) (s : Nat) (hs : cs.size = s) (h0 : 0 < s) : (w.alloc (.cells cs e)).ownsRow 0 e s (.slice (some ⟨w.heap.size, 0, none⟩) 1 1) 1 cs.toList := by
  refine ⟨by simp [hs], .inr ⟨w.heap.size, 1, cs, rfl, by simp, ?_, by omega, by unfold maxLen; omega, by omega, ?_⟩⟩
  · exact heap_alloc_new w _
  · rw [List.take_of_length_le (by simp [hs])]
end Go.Proofs.Ythaoopaafdgioab
