import Derived.Test.YtnkfdmlpjgmckaaKy
import Derived.Test.YtnkfdmlpjgmckaaT
import Derived.Test.YtnkfdmlpjgmckaaSh
import Derived.Test.YtnkfdmlpjgmckaaLa
import Derived.Test.YtnkfdmlpjgmckaaLb
import Derived.Test.YtnkfdmlpjgmckaaV
namespace Go.Proofs.Ytnkfdmlpjgmckaa
open Go.RowKit
set_option linter.unusedVariables false
set_option maxRecDepth 6000

/-- Two configurations of which the plan tells the same. -/
structure Eqv (x y : Cfg) : Prop where
  cs : x.cs.map Core.ws = y.cs.map Core.ws
  ps : x.ps.length = y.ps.length
  mj : x.major = y.major
theorem Eqv.of {x y : Cfg} (h : x.pure = y.pure) : Eqv x y := by
  refine ⟨?_, (pure_len h).2.1, ?_⟩
  · exact congrArg PCfg.cs h
  · exact congrArg PCfg.major h
theorem Eqv.symm {x y : Cfg} (h : Eqv x y) : Eqv y x := ⟨h.cs.symm, h.ps.symm, h.mj.symm⟩
theorem Eqv.len {x y : Cfg} (h : Eqv x y) : x.cs.length = y.cs.length := by simpa using congrArg List.length h.cs
theorem ws_at {xs ys : List Core} (h : xs.map Core.ws = ys.map Core.ws) (k : Nat) : (xs[k]? = none ∧ ys[k]? = none) ∨ ∃ X Y, xs[k]? = some X ∧ ys[k]? = some Y ∧ X.ws = Y.ws := by
  have hl : xs.length = ys.length := by simpa using congrArg List.length h
  cases hx : xs[k]? with
  | none =>
    rw [List.getElem?_eq_none_iff] at hx
    exact .inl ⟨rfl, List.getElem?_eq_none_iff.2 (by omega)⟩
  | some X =>
    obtain ⟨Y, hY, e⟩ := map_at Core.ws h hx
    exact .inr ⟨X, Y, rfl, hY, e⟩
theorem allMay_eq {xs ys : List Core} (h : xs.map Core.ws = ys.map Core.ws) : allMay xs = allMay ys := by
  have e : ∀ zs : List Core, allMay zs = (zs.map Core.ws).all may := fun zs => by unfold allMay; rw [List.all_map]; rfl
  rw [e, e, h]
theorem fills_eq {xs ys : List Core} (h : xs.map Core.ws = ys.map Core.ws) (mj : Int) : fills mj xs = fills mj ys := by
  have e : ∀ zs : List Core, fillsC mj zs = (zs.map Core.ws).all fun ws => may ws && decide (beg ws ws.length = mj) := fun zs => by unfold fillsC; rw [List.all_map]; rfl
  unfold fills
  rw [e, e, h]
theorem pickAll_eq {xs ys : List Core} (h : xs.map Core.ws = ys.map Core.ws) (p : Int) (k : Nat) : pickAll p xs k = pickAll p ys k := by
  induction k with
  | zero => rfl
  | succ k ih =>
    rcases ws_at h k with ⟨h1, h2⟩ | ⟨X, Y, h1, h2, e⟩
    · simp only [pickAll, h1, h2, ih]
    · simp only [pickAll, h1, h2, ih, e]
theorem useAll_eq {xs ys : List Core} (h : xs.map Core.ws = ys.map Core.ws) (p : Int) (k : Nat) : useAll p xs k = useAll p ys k := by
  induction k with
  | zero => rfl
  | succ k ih =>
    rcases ws_at h k with ⟨h1, h2⟩ | ⟨X, Y, h1, h2, e⟩
    · simp only [useAll, h1, h2, ih]
    · simp only [useAll, h1, h2, ih, e]
theorem mxC_eq {xs ys : List Core} (h : xs.map Core.ws = ys.map Core.ws) (n k : Nat) : mxC n xs k = mxC n ys k := by
  induction k with
  | zero => rfl
  | succ k ih =>
    rcases ws_at h k with ⟨h1, h2⟩ | ⟨X, Y, h1, h2, e⟩
    · simp only [mxC, h1, h2, ih]
    · simp only [mxC, h1, h2, ih, e]
theorem tot_eq {xs ys : List Core} (h : xs.map Core.ws = ys.map Core.ws) (k : Nat) : tot xs k = tot ys k := by
  have e : ∀ zs : List Core, tot zs k = (((zs.map Core.ws).take k).map List.length).sum := fun zs => by unfold tot; rw [← List.map_take, List.map_map]; rfl
  rw [e, e, h]
theorem Eqv.rounds {x y : Cfg} (h : Eqv x y) : rounds x.cs = rounds y.cs := by
  unfold Go.Proofs.Ytnkfdmlpjgmckaa.rounds
  rw [h.len, allMay_eq h.cs, mxC_eq h.cs]
theorem Eqv.tot {x y : Cfg} (h : Eqv x y) (ht : tot x.cs x.cs.length ≤ 2147483647) : tot y.cs y.cs.length ≤ 2147483647 := by
  rw [← tot_eq h.cs, ← h.len]; exact ht
theorem Eqv.at {x y : Cfg} (h : Eqv x y) {k t : Int} {pl : Plc} {e : Int} (hr : AtR x k t pl e) : AtR y k t pl e := by
  rcases hr with ⟨h1, h2⟩ | ⟨n, X, h1, h2, h3⟩
  · exact .inl ⟨by rw [← h.len]; exact h1, h2⟩
  · obtain ⟨Y, hY, e⟩ := map_at Core.ws h.cs h2
    exact .inr ⟨n, Y, h1, hY, e ▸ h3⟩
theorem Eqv.sh {x y : Cfg} (h : Eqv x y) {p : Int} {r : Nat} {e : Int} (hr : ShR x p r e) : ShR y p r e := by
  unfold ShR at *
  rw [h.ps, h.mj, fills_eq h.cs, useAll_eq h.cs, h.len] at hr
  exact hr
theorem Eqv.gp {x y : Cfg} (h : Eqv x y) {p r e : Int} (hr : GpR x p r e) : GpR y p r e := by
  unfold GpR at *
  rw [h.ps, h.mj, fills_eq h.cs, pickAll_eq h.cs, h.len] at hr
  exact hr
theorem Eqv.co {x y : Cfg} (h : Eqv x y) {p r e : Int} (hr : CoR x p r e) : CoR y p r e := by
  have key : ∀ (i : Nat) (Y : Core), y.cs[i]? = some Y → ∃ X : Core, x.cs[i]? = some X ∧ Y.ws = X.ws := fun i Y hY => map_at Core.ws h.cs.symm hY
  unfold CoR at *
  rw [h.ps] at hr
  rcases hr with h1 | ⟨h1, h2, ⟨h3, h4⟩ | ⟨k, X, h3, h4, h5, h6⟩⟩
  · exact .inl h1
  · refine .inr ⟨h1, h2, .inl ⟨h3, fun i Y hY => ?_⟩⟩
    obtain ⟨X, hX, e⟩ := key i Y hY
    rw [e]; exact h4 i X hX
  · obtain ⟨Y, hY, e⟩ := map_at Core.ws h.cs h4
    refine .inr ⟨h1, h2, .inr ⟨k, Y, h3, hY, e ▸ h5, fun i Z hi hZ => ?_⟩⟩
    obtain ⟨X', hX', e'⟩ := key i Z hZ
    rw [e']; exact h6 i X' hi hX'

/-- What both Starts tell. -/
def StK (x : Cfg) (k : Int) (l : List Int) (e : Int) : Prop :=
  ((k < 0 ∨ x.cs.length ≤ k) ∧ l = [] ∧ e = 140) ∨ ∃ (n : Nat) (X : Core), k = n ∧ x.cs[n]? = some X ∧ ((may X.ws = false ∧ l = [] ∧ e = 1) ∨ (may X.ws = true ∧ l = begs X.ws ∧ e = 0))
theorem StK.of (x : Cfg) (k : Int) : ∃ l e, StK x k l e ∧ l.length ≤ 16 := by
  by_cases hk : k < 0 ∨ x.cs.length ≤ k
  · exact ⟨[], 140, .inl ⟨hk, rfl, rfl⟩, by simp⟩
  · obtain ⟨n, rfl⟩ : ∃ n : Nat, k = n := ⟨k.toNat, by omega⟩
    obtain ⟨X, hX⟩ : ∃ X, x.cs[n]? = some X := ⟨_, List.getElem?_eq_getElem (by omega)⟩
    by_cases hm : may X.ws = true
    · exact ⟨_, _, .inr ⟨n, X, rfl, hX, .inr ⟨hm, rfl, rfl⟩⟩, by rw [begs_len]; exact (may_iff.1 hm).2.1⟩
    · exact ⟨_, _, .inr ⟨n, X, rfl, hX, .inl ⟨by simpa using hm, rfl, rfl⟩⟩, by simp⟩
theorem Eqv.st {x y : Cfg} (h : Eqv x y) {k : Int} {l : List Int} {e : Int} (hr : StK x k l e) : StK y k l e := by
  rcases hr with ⟨h1, h2⟩ | ⟨n, X, h1, h2, h3⟩
  · exact .inl ⟨by rw [← h.len]; exact h1, h2⟩
  · obtain ⟨Y, hY, e⟩ := map_at Core.ws h.cs h2
    exact .inr ⟨n, Y, h1, hY, e ▸ h3⟩
theorem seg_ints {w : World} {g : Nat} {l : List Int} {t : TypeId} (h : Blk w g (l.map (.int .i64)) t) : SegA ivs 1 w (some ⟨g, 0, none⟩) l := by
  refine .inr ⟨g, 0, rfl, fun j x hj i v hv => ?_⟩
  have hi : i = 0 := by have := (List.getElem?_eq_some_iff.1 hv).1; simp [ivs] at this; omega
  subst hi
  simp [ivs] at hv
  subst hv
  have := h.cell (i := j) (v := .int .i64 x) (by simp [hj])
  simpa using this
/-- A list that is told, with its error. -/
def LsR (w : World) (l : List Int) (e0 : Int) (e : Ending) (w' : World) : Prop := ∃ a c, e = .returned (.tuple #[.slice a l.length c, .int .i64 e0]) ∧ SegA ivs 1 w' a l ∧ (l.length ≤ c ∧ c ≤ maxLen) ∧ Keeps (fun _ => False) w w'
theorem starts_k {x : Cfg} {k : Int} {l : List Int} {e0 : Int} (hv : StK x k l e0) {w : World} {N : Nat} (hi : x.In w N) (hN : N ≤ w.heap.size) :
    Calls Try.prog 13 #[x.v, .int .i64 k] w (LsR w l e0) := by
  refine (starts_any x k w N hi hN).mono fun e w' h => ?_
  obtain ⟨hK, h⟩ := h
  rcases hv with ⟨hk, rfl, rfl⟩ | ⟨n, X, rfl, hX, hv⟩
  · rcases h with ⟨_, rfl⟩ | ⟨n, X, rfl, hX, _⟩
    · exact ⟨none, 0, rfl, .inl rfl, ⟨Nat.le_refl _, Nat.zero_le _⟩, hK⟩
    · have := (List.getElem?_eq_some_iff.1 hX).1; omega
  · rcases h with ⟨hk, _⟩ | ⟨n', X', hn, hX', h⟩
    · have := (List.getElem?_eq_some_iff.1 hX).1; omega
    · obtain rfl : n = n' := by omega
      rw [hX] at hX'
      cases hX'
      rcases hv with ⟨hm, rfl, rfl⟩ | ⟨hm, rfl, rfl⟩
      · rcases h with ⟨_, rfl⟩ | ⟨hm', _⟩
        · exact ⟨none, 0, rfl, .inl rfl, ⟨Nat.le_refl _, Nat.zero_le _⟩, hK⟩
        · rw [hm] at hm'; cases hm'
      · rcases h with ⟨hm', _⟩ | ⟨_, g, rfl, hg, hB⟩
        · rw [hm] at hm'; cases hm'
        · refine ⟨some ⟨g, 0, none⟩, (begs X.ws).length, by rw [begs_len], seg_ints hB, ⟨Nat.le_refl _, ?_⟩, hK⟩
          rw [begs_len]; have := (may_iff.1 hm).2.1; unfold maxLen; omega
theorem rstarts_k {x : Cfg} {k : Int} {l : List Int} {e0 : Int} (hv : StK x k l e0) {w : World} {N : Nat} (hi : x.In w N) (hN : N ≤ w.heap.size) :
    Calls Try.prog 14 #[x.v, .int .i64 k] w (LsR w l e0) := by
  refine (rstarts_any x k w N hi hN).mono fun e w' h => ?_
  obtain ⟨hK, h⟩ := h
  rcases hv with ⟨hk, rfl, rfl⟩ | ⟨n, X, rfl, hX, hv⟩
  · rcases h with ⟨_, rfl⟩ | ⟨n, X, rfl, hX, _⟩
    · exact ⟨none, 0, rfl, .inl rfl, ⟨Nat.le_refl _, Nat.zero_le _⟩, hK⟩
    · have := (List.getElem?_eq_some_iff.1 hX).1; omega
  · rcases h with ⟨hk, _⟩ | ⟨n', X', hn, hX', h⟩
    · have := (List.getElem?_eq_some_iff.1 hX).1; omega
    · obtain rfl : n = n' := by omega
      rw [hX] at hX'
      cases hX'
      rcases hv with ⟨hm, rfl, rfl⟩ | ⟨hm, rfl, rfl⟩
      · rcases h with ⟨_, rfl⟩ | ⟨hm', _⟩
        · exact ⟨none, 0, rfl, .inl rfl, ⟨Nat.le_refl _, Nat.zero_le _⟩, hK⟩
        · rw [hm] at hm'; cases hm'
      · rcases h with ⟨hm', _⟩ | ⟨_, u, rfl, hRow⟩
        · rw [hm] at hm'; cases hm'
        · obtain ⟨ad, cp, rfl, hL⟩ := hRow.lst
          exact ⟨ad, cp, rfl, hL.seg, hL.len, hK⟩

/-- What both Spans tell. -/
def SpK (x : Cfg) (p : Int) (l : List Spn) (e : Int) : Prop :=
  (¬ (0 ≤ p ∧ p < x.ps.length) ∧ l = [] ∧ e = 142) ∨ ((0 ≤ p ∧ p < x.ps.length) ∧ ((allMay x.cs = false ∧ l = [] ∧ e = 1) ∨ (allMay x.cs = true ∧ l = pickAll p x.cs x.cs.length ∧ e = 0)))
theorem SpK.of (x : Cfg) (p : Int) (ht : tot x.cs x.cs.length ≤ 2147483647) : ∃ l e, SpK x p l e ∧ l.length ≤ 2147483647 := by
  by_cases hp : 0 ≤ p ∧ p < x.ps.length
  · by_cases hm : allMay x.cs = true
    · exact ⟨_, _, .inr ⟨hp, .inr ⟨hm, rfl, rfl⟩⟩, Nat.le_trans (pickAll_len _ _ _) ht⟩
    · exact ⟨_, _, .inr ⟨hp, .inl ⟨by simpa using hm, rfl, rfl⟩⟩, by simp⟩
  · exact ⟨_, _, .inl ⟨hp, rfl, rfl⟩, by simp⟩
theorem Eqv.sp {x y : Cfg} (h : Eqv x y) {p : Int} {l : List Spn} {e : Int} (hr : SpK x p l e) : SpK y p l e := by
  unfold SpK at *
  rw [h.ps, allMay_eq h.cs, pickAll_eq h.cs, h.len] at hr
  exact hr
def SsR (w : World) (l : List Spn) (e0 : Int) (e : Ending) (w' : World) : Prop := ∃ a c, e = .returned (.tuple #[.slice a l.length c, .int .i64 e0]) ∧ SegA Spn.vs 4 w' a l ∧ (l.length ≤ c ∧ c ≤ maxLen) ∧ Keeps (fun _ => False) w w'
theorem ssq_k {x : Cfg} {p : Int} {l : List Spn} {e0 : Int} (hv : SpK x p l e0) {w w' : World} {e : Ending} (h : SsQ w x p e w') : SsR w l e0 e w' := by
  obtain ⟨hK, h⟩ := h
  rcases hv with ⟨hp, rfl, rfl⟩ | ⟨hp, ⟨hm, rfl, rfl⟩ | ⟨hm, rfl, rfl⟩⟩
  · rcases h with ⟨_, rfl⟩ | ⟨hp', _⟩
    · exact ⟨none, 0, rfl, .inl rfl, ⟨Nat.le_refl _, Nat.zero_le _⟩, hK⟩
    · exact (hp hp').elim
  · rcases h with ⟨hp', _⟩ | ⟨_, ⟨_, rfl⟩ | ⟨hm', _⟩⟩
    · exact (hp' hp).elim
    · exact ⟨none, 0, rfl, .inl rfl, ⟨Nat.le_refl _, Nat.zero_le _⟩, hK⟩
    · rw [hm] at hm'; cases hm'
  · rcases h with ⟨hp', _⟩ | ⟨_, ⟨hm', _⟩ | ⟨_, u, rfl, hRow⟩⟩
    · exact (hp' hp).elim
    · rw [hm] at hm'; cases hm'
    · obtain ⟨ad, cp, rfl, hL⟩ := hRow.lst
      exact ⟨ad, cp, rfl, hL.seg, hL.len, hK⟩
theorem spans_k {x : Cfg} {p : Int} {l : List Spn} {e0 : Int} (hv : SpK x p l e0) {w : World} {N : Nat} (hi : x.In w N) (hN : N ≤ w.heap.size) (ht : tot x.cs x.cs.length ≤ 2147483647) : Calls Try.prog 18 #[x.v, .int .i64 p] w (SsR w l e0) :=
  (spans_any x p w N hi hN ht).mono fun _ _ h => ssq_k hv h
theorem rspans_k {x : Cfg} {p : Int} {l : List Spn} {e0 : Int} (hv : SpK x p l e0) {w : World} {N : Nat} (hi : x.In w N) (hN : N ≤ w.heap.size) (ht : tot x.cs x.cs.length ≤ 2147483647) : Calls Try.prog 17 #[x.v, .int .i64 p] w (SsR w l e0) :=
  (rspans_any x p w N hi hN ht).mono fun _ _ h => ssq_k hv h
end Go.Proofs.Ytnkfdmlpjgmckaa
