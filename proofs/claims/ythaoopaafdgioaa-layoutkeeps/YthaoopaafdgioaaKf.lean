import Derived.Test.YthaoopaafdgioaaKe
import Derived.Test.YthaoopaafdgioaaIs
namespace Go.Proofs.Ythaoopaafdgioaa
open Go.RowKit
set_option linter.unusedVariables false
set_option linter.unusedSimpArgs false
set_option maxRecDepth 8000

def sumN (f : Nat → Nat) : Nat → Nat | 0 => 0 | i + 1 => sumN f i + f i
theorem sumN_le {f : Nat → Nat} {b n : Nat} (h : ∀ i, i < n → f i ≤ b) : sumN f n ≤ b * n := by
  induction n with
  | zero => exact Nat.le_refl _
  | succ n ih =>
    have h1 := ih fun i hi => h i (by omega)
    have h2 := h n (by omega)
    show sumN f n + f n ≤ b * (n + 1)
    rw [Nat.mul_add]; omega
theorem choose_lists {L : Nat} {P : Nat → List Value → Prop} (h : ∀ i, i < L → ∃ Y, P i Y) : ∃ X : Nat → List Value, ∀ i, i < L → P i (X i) :=
  ⟨fun i => if hi : i < L then (h i hi).choose else [], fun i hi => by
    dsimp only
    rw [dif_pos hi]; exact (h i hi).choose_spec⟩
/-- One cell of a row is written. -/
theorem own_set {w : World} {e : TypeId} {s n g cap : Nat} {Y : List Value} (h : w.ownsRow 0 e s (.slice (some ⟨g, 0, none⟩) n cap) n Y) {i : Nat} (hi : i < n * s) (v : Value) :
    (∃ v0, w.cell? ⟨g, i, none⟩ = some v0) ∧ w.frozen? ⟨g, i, none⟩ = false ∧ (w.setCell ⟨g, i, none⟩ v).ownsRow 0 e s (.slice (some ⟨g, 0, none⟩) n cap) n (Y.set i v) := by
  rcases h.2 with ⟨h2, _⟩ | ⟨g2, cap2, cur, h2, hb, hg, h3, h4, h5, h6⟩
  · cases h2
  · cases h2
    have hB : Blk w g cur.toList e := by unfold Blk; rw [Array.toArray_toList]; exact hg
    have hY : i < Y.length := by rw [h.1]; exact hi
    refine ⟨⟨_, own_cell h (List.getElem?_eq_getElem hY)⟩, hB.frozen i, ?_⟩
    have hB2 := hB.setCell i v
    refine ⟨by rw [List.length_set]; exact h.1, .inr ⟨g, cap, (cur.toList.set i v).toArray, rfl, hb, hB2, h3, h4, by simpa using h5, ?_⟩⟩
    rw [List.take_set, h6]

/-- While the lists within are marked. -/
structure Mk (Wm : World) (L H : Nat) (F : Nat → PP) (G : Nat → CP) (lt ld of og : Nat → Nat) (j k j2 k2 : Nat) (w : World) : Prop where
  t : ∀ i, i < L → ∃ Y, w.ownsRow 0 3 1 (F i).tv (lt i) Y ∧ ∀ q, q < lt i → (i < j ∨ i = j ∧ q < k) → Y[q]? = some (.int .i64 (-((of i + q + 1 : Nat) : Int)))
  d : ∀ i, i < H → ∃ Y, w.ownsRow 0 63 3 (G i).dv (ld i) Y ∧ ∀ q, q < ld i → (i < j2 ∨ i = j2 ∧ q < k2) → Y[q * 3]? = some (.int .i64 (-((og i + q + 1 : Nat) : Int)))
  kp : Keeps (InB L H F G) Wm w
section
variable {Wm w : World} {L H : Nat} {F : Nat → PP} {G : Nat → CP} {lt ld of og : Nat → Nat} {j k j2 k2 : Nat}
theorem Mk.nextT (h : Mk Wm L H F G lt ld of og j (lt j) j2 k2 w) : Mk Wm L H F G lt ld of og (j + 1) 0 j2 k2 w :=
  ⟨fun i hi => by
    obtain ⟨Y, h1, h2⟩ := h.t i hi
    refine ⟨Y, h1, fun q hq hc => h2 q hq ?_⟩
    rcases hc with hc | hc
    · by_cases e : i = j
      · subst e; exact .inr ⟨rfl, hq⟩
      · exact .inl (by omega)
    · omega, h.d, h.kp⟩
theorem Mk.nextD (h : Mk Wm L H F G lt ld of og j k j2 (ld j2) w) : Mk Wm L H F G lt ld of og j k (j2 + 1) 0 w :=
  ⟨h.t, fun i hi => by
    obtain ⟨Y, h1, h2⟩ := h.d i hi
    refine ⟨Y, h1, fun q hq hc => h2 q hq ?_⟩
    rcases hc with hc | hc
    · by_cases e : i = j2
      · subst e; exact .inr ⟨rfl, hq⟩
      · exact .inl (by omega)
    · omega, h.kp⟩
theorem Mk.setT (h : Mk Wm L H F G lt ld of og j k j2 k2 w) (pf : PwF L F) (hj : j < L) (hk : k < lt j) : ∃ g cap, (F j).tv = .slice (some ⟨g, 0, none⟩) (lt j) cap ∧ (∃ v0, w.cell? ⟨g, k, none⟩ = some v0) ∧ w.frozen? ⟨g, k, none⟩ = false ∧
    Mk Wm L H F G lt ld of og j (k + 1) j2 k2 (w.setCell ⟨g, k, none⟩ (.int .i64 (-((of j + k + 1 : Nat) : Int)))) := by
  obtain ⟨Y, h1, h2⟩ := h.t j hj
  obtain ⟨g, cap, hv, _, _⟩ := own_form h1 (by omega)
  rw [hv] at h1
  have hY : k < Y.length := by rw [h1.1]; omega
  obtain ⟨hc, hf, ho⟩ := own_set h1 (i := k) (by omega) (.int .i64 (-((of j + k + 1 : Nat) : Int)))
  have kw : Keeps (fun b => b = g) w (w.setCell ⟨g, k, none⟩ (.int .i64 (-((of j + k + 1 : Nat) : Int)))) := (Keeps.refl _ _).setCell _ _ fun _ => rfl
  refine ⟨g, cap, hv, hc, hf, fun i hi => ?_, fun i hi => ?_, h.kp.trans kw fun b _ e => by subst e; exact .inl ⟨j, hj, by rw [hv]; rfl⟩⟩
  · by_cases e : i = j
    · subst e
      refine ⟨_, by rw [hv]; exact ho, fun q hq hc2 => ?_⟩
      by_cases eq : q = k
      · subst eq; rw [List.getElem?_set_self hY]
      · rw [List.getElem?_set_ne (fun x => eq x.symm)]
        exact h2 q hq (by omega)
    · obtain ⟨Z, z1, z2⟩ := h.t i hi
      exact ⟨Z, owns_kept z1 kw fun b hb e2 => by subst e2; exact pf i j hi hj e b hb (by rw [hv]; rfl), fun q hq hc2 => z2 q hq (by omega)⟩
  · obtain ⟨Z, z1, z2⟩ := h.d i hi
    exact ⟨Z, owns_kept z1 kw fun b hb e2 => by subst e2; exact own_ne z1 h1 (by decide) hb rfl, z2⟩
theorem Mk.setD (h : Mk Wm L H F G lt ld of og j k j2 k2 w) (pg : PwG H G) (hj : j2 < H) (hk : k2 < ld j2) : ∃ g cap, (G j2).dv = .slice (some ⟨g, 0, none⟩) (ld j2) cap ∧
    (∃ v0, w.cell? ⟨g, k2 * 3, none⟩ = some v0) ∧ (∃ v1, w.cell? ⟨g, k2 * 3 + 1, none⟩ = some v1) ∧ (∃ v2, w.cell? ⟨g, k2 * 3 + 2, none⟩ = some v2) ∧ w.frozen? ⟨g, k2 * 3, none⟩ = false ∧ w.frozen? ⟨g, k2 * 3 + 1, none⟩ = false ∧ w.frozen? ⟨g, k2 * 3 + 2, none⟩ = false ∧
    Mk Wm L H F G lt ld of og j k j2 (k2 + 1) (((w.setCell ⟨g, k2 * 3, none⟩ (.int .i64 (-((og j2 + k2 + 1 : Nat) : Int)))).setCell ⟨g, k2 * 3 + 1, none⟩ (.int .i64 0)).setCell ⟨g, k2 * 3 + 2, none⟩ (.int .i64 0)) := by
  obtain ⟨Y, h1, h2⟩ := h.d j2 hj
  obtain ⟨g, cap, hv, _, _⟩ := own_form h1 (by omega)
  rw [hv] at h1
  have hY : k2 * 3 < Y.length := by rw [h1.1]; omega
  obtain ⟨c0, f0, o0⟩ := own_set h1 (i := k2 * 3) (by omega) (.int .i64 (-((og j2 + k2 + 1 : Nat) : Int)))
  obtain ⟨c1, f1, _⟩ := own_set h1 (i := k2 * 3 + 1) (by omega) (.int .i64 0)
  obtain ⟨c2, f2, _⟩ := own_set h1 (i := k2 * 3 + 2) (by omega) (.int .i64 0)
  obtain ⟨_, _, o1⟩ := own_set o0 (i := k2 * 3 + 1) (by omega) (.int .i64 0)
  obtain ⟨_, _, o2⟩ := own_set o1 (i := k2 * 3 + 2) (by omega) (.int .i64 0)
  have ka : Keeps (fun b => b = g) w (w.setCell ⟨g, k2 * 3, none⟩ (.int .i64 (-((og j2 + k2 + 1 : Nat) : Int)))) := (Keeps.refl _ _).setCell _ _ fun _ => rfl
  have kw := (ka.setCell ⟨g, k2 * 3 + 1, none⟩ (.int .i64 0) fun _ => rfl).setCell ⟨g, k2 * 3 + 2, none⟩ (.int .i64 0) fun _ => rfl
  refine ⟨g, cap, hv, c0, c1, c2, f0, f1, f2, fun i hi => ?_, fun i hi => ?_, h.kp.trans kw fun b _ e => by subst e; exact .inr ⟨j2, hj, by rw [hv]; rfl⟩⟩
  · obtain ⟨Z, z1, z2⟩ := h.t i hi
    exact ⟨Z, owns_kept z1 kw fun b hb e2 => by subst e2; exact own_ne z1 h1 (by decide) hb rfl, z2⟩
  · by_cases e : i = j2
    · subst e
      refine ⟨_, by rw [hv]; exact o2, fun q hq hc2 => ?_⟩
      rw [List.getElem?_set_ne (by omega), List.getElem?_set_ne (by omega)]
      by_cases eq : q = k2
      · subst eq; rw [List.getElem?_set_self hY]
      · rw [List.getElem?_set_ne (by omega)]
        exact h2 q hq (by omega)
    · obtain ⟨Z, z1, z2⟩ := h.d i hi
      exact ⟨Z, owns_kept z1 kw fun b hb e2 => by subst e2; exact pg i j2 hi hj e b hb (by rw [hv]; rfl), fun q hq hc2 => z2 q hq (by omega)⟩
end

theorem FOK.lenK {x : Cfg} {a b : Int} {F : Nat → PP} {T : Nat → List Int} (h : FOK x a b x.ps.length F T) {j : Nat} (hj : j < x.ps.length) : ∃ P, x.ps[j]? = some P ∧ (T j).length = cntT P.rs 16 := by
  obtain ⟨P, h1, _, h3⟩ := (h j hj).2.2.2 hj
  exact ⟨P, h1, by rw [h3, tabL_length]⟩
theorem GOK.lenK {x : Cfg} {b : Int} {G : Nat → CP} {D : Nat → List Dst} (h : GOK x b x.hs.length G D) {j : Nat} (hj : j < x.hs.length) : (D j).length = (dstsOf x j).length := by
  obtain ⟨s, c, _, _, _, _, _, _, h7⟩ := h j hj
  rw [h7]; simp [placed]

theorem chn_bdK {x : Cfg} (hm : x.mayB = true) {n : Nat} {h : Chn} (hh : x.hs[n]? = some h) : h.sized = true ∧ 3 ≤ h.stg ∧ h.stg ≤ 137 ∧ 4 ≤ h.prt ∧ h.prt ≤ 139 ∧ 1 ≤ (dstsOf x n).length ∧ (dstsOf x n).length ≤ 4 := by
  obtain ⟨hs, _, d1, d4⟩ := Cfg.mayB_chn hm hh
  have hpb := Chn.plc_bd hs
  have h2 : 3 ≤ h.stg ∧ h.stg ≤ 137 := by unfold Chn.stg; omega
  have h3 : 4 ≤ h.prt ∧ h.prt ≤ 139 := by unfold Chn.prt; split <;> omega
  exact ⟨hs, h2.1, h2.2, h3.1, h3.2, d1, d4⟩

/-- A layout as it was told, in the memory. -/
def LC (x : Cfg) (lo : Nat) (A En er : Int) (a1 : Option Addr) (L : Nat) (a2 : Option Addr) (H : Nat) (F : Nat → PP) (G : Nat → CP) (T : Nat → List Int) (D : Nat → List Dst) (w : World) : Prop :=
  (x.mayB = false ∧ er = 150 ∧ L = 0 ∧ H = 0 ∧ En = 0 ∧ A = 0 ∧ a1 = none ∧ a2 = none) ∨
  (x.mayB = true ∧ er = 0 ∧ A = 16 * x.kernel ∧ En = rtAt x (rtB x (16 * x.kernel)) x.ps.length / 16 ∧ L = x.ps.length ∧ H = x.hs.length ∧ ∃ b1 b2, a1 = some ⟨b1, 0, none⟩ ∧ a2 = some ⟨b2, 0, none⟩ ∧
    LD x lo b1 b2 F G T D w ∧ FOK x (16 * x.kernel + 2) (rtB x (16 * x.kernel)) x.ps.length F T ∧ GOK x (chB x (16 * x.kernel)) x.hs.length G D)
theorem OfQ.lettersC {x : Cfg} {w : World} {e : Ending} {w' : World} (h : OfQ x w e w') : ∃ A En er a1 L a2 H F G T D, e = .returned (.tuple #[.agg #[.int .i64 A, .slice a1 L L, .slice a2 H H, .int .i64 En], .int .i64 er]) ∧ LC x w.heap.size A En er a1 L a2 H F G T D w' ∧ PwF L F ∧ PwG H G := by
  rcases h.2 with ⟨h1, rfl⟩ | ⟨h1, b1, b2, F, G, T, D, rfl, h2, h3, h4, h5, h6⟩
  · exact ⟨0, 0, 150, none, 0, none, 0, fun _ => PP.z, fun _ => CP.z, fun _ => [], fun _ => [], rfl, .inl ⟨h1, rfl, rfl, rfl, rfl, rfl, rfl, rfl⟩, fun i j hi => by omega, fun i j hi => by omega⟩
  · exact ⟨_, _, _, _, _, _, _, F, G, T, D, rfl, .inr ⟨h1, rfl, rfl, rfl, rfl, rfl, b1, b2, rfl, rfl, h2, h3, h4⟩, h5, h6⟩
theorem OfP.lettersC {x : Cfg} {w : World} {e : Ending} {w' : World} (h : OfP x w e w') : ∃ A En er a1 L a2 H F G T D, e = .returned (.tuple #[.agg #[.int .i64 A, .slice a1 L L, .slice a2 H H, .int .i64 En], .int .i64 er]) ∧ LC x w.heap.size A En er a1 L a2 H F G T D w' := by
  rcases h.2 with ⟨h1, rfl⟩ | ⟨h1, b1, b2, F, G, T, D, rfl, h2, h3, h4⟩
  · exact ⟨0, 0, 150, none, 0, none, 0, fun _ => PP.z, fun _ => CP.z, fun _ => [], fun _ => [], rfl, .inl ⟨h1, rfl, rfl, rfl, rfl, rfl, rfl, rfl⟩⟩
  · exact ⟨_, _, _, _, _, _, _, F, G, T, D, rfl, .inr ⟨h1, rfl, rfl, rfl, rfl, rfl, b1, b2, rfl, rfl, h2, h3, h4⟩⟩
section
variable {x : Cfg} {lo : Nat} {A En er : Int} {a1 a2 : Option Addr} {L H : Nat} {F : Nat → PP} {G : Nat → CP} {T : Nat → List Int} {D : Nat → List Dst} {w w' : World}
theorem LC.keptS {S : Nat → Prop} (h : LC x lo A En er a1 L a2 H F G T D w) (hK : Keeps S w w') (hS : ∀ k, S k → k < lo) : LC x lo A En er a1 L a2 H F G T D w' := by
  rcases h with h | ⟨h1, h2, h3, h4, h5, h6, b1, b2, e1, e2, h7, h8, h9⟩
  · exact .inl h
  · exact .inr ⟨h1, h2, h3, h4, h5, h6, b1, b2, e1, e2, h7.kept hK hS (Nat.le_refl _), h8, h9⟩
theorem LC.grow (h : LC x lo A En er a1 L a2 H F G T D w) (hK : Keeps (fun _ => False) w w') : LC x lo A En er a1 L a2 H F G T D w' := h.keptS hK fun _ h => h.elim
theorem LC.same {lo2 : Nat} {B Fn er2 : Int} {d1 d2 : Option Addr} {L2 H2 : Nat} {F2 : Nat → PP} {G2 : Nat → CP} {T2 : Nat → List Int} {D2 : Nat → List Dst} (h : LC x lo A En er a1 L a2 H F G T D w) (h2 : LC x lo2 B Fn er2 d1 L2 d2 H2 F2 G2 T2 D2 w) :
    er = er2 ∧ Calls Try.prog 13 #[.agg #[.int .i64 A, .slice a1 L L, .slice a2 H H, .int .i64 En], .agg #[.int .i64 B, .slice d1 L2 L2, .slice d2 H2 H2, .int .i64 Fn]] w fun e w' => e = .returned (.bool true) ∧ Keeps (fun _ => False) w w' := by
  rcases h with ⟨h1, rfl, rfl, rfl, rfl, rfl, rfl, rfl⟩ | ⟨h1, rfl, rfl, rfl, rfl, rfl, b1, b2, rfl, rfl, hLD, hF, hG⟩
  · rcases h2 with ⟨_, rfl, rfl, rfl, rfl, rfl, rfl, rfl⟩ | ⟨h2, _⟩
    · exact ⟨rfl, sameZ_any 0 _ _ _ _ _ _ _ _ w⟩
    · rw [h1] at h2; cases h2
  · rcases h2 with ⟨h2, _⟩ | ⟨_, rfl, rfl, rfl, rfl, rfl, b1', b2', rfl, rfl, hLD', hF', hG'⟩
    · rw [h1] at h2; cases h2
    · have hk := Cfg.mayB_iff.1 h1
      exact ⟨rfl, sameL_any x.ps.length x.hs.length b1 b2 b1' b2' F F2 G G2 T T2 D D2 _ _ w hLD.duo hLD'.duo (eqd_of hF hG hF' hG') hk.2.2.1 hk.2.2.2.1⟩
theorem LC.rows (h : LC x lo A En er a1 L a2 H F G T D w) : (∀ i, i < L → w.ownsRow 0 3 1 (F i).tv (T i).length ((T i).flatMap eInt.vs)) ∧ (∀ i, i < H → w.ownsRow 0 63 3 (G i).dv (D i).length ((D i).flatMap eDst.vs)) ∧
    (∀ b, InB L H F G b → lo ≤ b ∧ b < w.heap.size) ∧ L ≤ 8 ∧ H ≤ 16 ∧ (∀ i, i < L → (T i).length ≤ 16) ∧ (∀ i, i < H → (D i).length ≤ 4) := by
  rcases h with ⟨h1, rfl, rfl, rfl, rfl, rfl, rfl, rfl⟩ | ⟨h1, rfl, rfl, rfl, rfl, rfl, b1, b2, rfl, rfl, hLD, hF, hG⟩
  · exact ⟨fun i hi => by omega, fun i hi => by omega, fun b hb => by rcases hb with ⟨i, hi, _⟩ | ⟨i, hi, _⟩ <;> omega, by omega, by omega, fun i hi => by omega, fun i hi => by omega⟩
  · have hk := Cfg.mayB_iff.1 h1
    refine ⟨fun i hi => (hLD.tr i hi).1.own, fun i hi => (hLD.dr i hi).1.own, fun b hb => ?_, hk.2.2.1, hk.2.2.2.1, fun i hi => ?_, fun i hi => ?_⟩
    · rcases hb with ⟨i, hi, e⟩ | ⟨i, hi, e⟩
      · exact ⟨(hLD.tr i hi).1.low b e, own_lt (hLD.tr i hi).1.own e⟩
      · exact ⟨(hLD.dr i hi).1.low b e, own_lt (hLD.dr i hi).1.own e⟩
    · obtain ⟨P, _, e⟩ := hF.lenK hi
      rw [e]; exact cntT_le _ _
    · obtain ⟨hh, hhe⟩ : ∃ hh, x.hs[i]? = some hh := ⟨_, List.getElem?_eq_getElem hi⟩
      rw [hG.lenK hi]; exact (chn_bdK h1 hhe).2.2.2.2.2.2
/-- The outer lists stay while the inner ones are written. -/
theorem LC.outer (h : LC x lo A En er a1 L a2 H F G T D w) (hK : Keeps (InB L H F G) w w') : (∃ vs, w'.ownsRow 0 55 5 (.slice a1 L L) L vs) ∧ (∃ vs, w'.ownsRow 0 59 5 (.slice a2 H H) H vs) ∧
    (∀ i, i < L → ∃ b1, a1 = some ⟨b1, 0, none⟩ ∧ Blk w' b1 (row5 (fun i => (F i).vs) L) 55) ∧ (∀ i, i < H → ∃ b2, a2 = some ⟨b2, 0, none⟩ ∧ Blk w' b2 (row5 (fun i => (G i).vs) H) 59) := by
  have hr := h.rows
  rcases h with ⟨h1, rfl, rfl, rfl, rfl, rfl, rfl, rfl⟩ | ⟨h1, rfl, rfl, rfl, rfl, rfl, b1, b2, rfl, rfl, hLD, hF, hG⟩
  · exact ⟨⟨[], by simp, .inl ⟨rfl, rfl⟩⟩, ⟨[], by simp, .inl ⟨rfl, rfl⟩⟩, fun i hi => by omega, fun i hi => by omega⟩
  · have ne : ∀ {b : Nat} {cs : List Value} {t : TypeId}, Blk w b cs t → (3 : TypeId) ≠ t → (63 : TypeId) ≠ t → ¬ InB x.ps.length x.hs.length F G b := fun hB h3 h63 hI => by
      rcases hI with ⟨i, hi, e⟩ | ⟨i, hi, e⟩
      · exact own_blk_ne (hr.1 i hi) hB h3 e
      · exact own_blk_ne (hr.2.1 i hi) hB h63 e
    have p := hLD.p.kept hK (ne hLD.p (by decide) (by decide))
    have c := hLD.c.kept hK (ne hLD.c (by decide) (by decide))
    have hk := Cfg.mayB_iff.1 h1
    have own : ∀ {b n : Nat} {cs : List Value} {t : TypeId}, Blk w' b cs t → cs.length = n * 5 → n ≤ 100 → w'.ownsRow 0 t 5 (.slice (some ⟨b, 0, none⟩) n n) n cs := fun hB hl hn => by
      refine ⟨hl, .inr ⟨_, _, _, rfl, Nat.zero_le _, hB, Nat.le_refl _, by unfold maxLen; omega, by simpa using hl, ?_⟩⟩
      rw [← hl]; simp
    exact ⟨⟨_, own p (row5_len (fun i => PP.vs5 _) _) (by omega)⟩, ⟨_, own c (row5_len (fun i => CP.vs5 _) _) (by omega)⟩, fun i hi => ⟨b1, rfl, p⟩, fun i hi => ⟨b2, rfl, c⟩⟩
end
end Go.Proofs.Ythaoopaafdgioaa
