import Derived.Test.YtajhkilclmicjaaSp
namespace Go.Proofs.Ytajhkilclmicjaa
open Go.RowKit Go.Shelf
set_option linter.unusedVariables false

/-- The first places of the row in which v lies hold these. -/
def Old (W : World) (v : Value) (ks : List Int) : Prop := ∀ g, v.ownBlock = some g → ∀ i, (h : i < ks.length) → W.cell? ⟨g, i, none⟩ = some (.int .i64 (ks[i]))

theorem Old.kept {S : Nat → Prop} {W W' : World} {v : Value} {ks : List Int} (h : Old W v ks) (hK : Keeps S W W') (hS : ∀ g, v.ownBlock = some g → ¬ S g) : Old W' v ks :=
  fun g hg i hi => cell_kept (h g hg i hi) hK (hS g hg)
theorem Old.of {W : World} {v v' : Value} {n : Nat} {ks ms : List Int} (h : W.ownsRow 0 3 1 v' n (flat (ks ++ ms))) (e : v'.ownBlock = v.ownBlock) : Old W v ks := by
  intro g hg i hi
  have := h.cells (g := g) (by rw [e]; exact hg) i (.int .i64 (ks[i])) (by rw [flat_append, List.getElem?_append_left (by rw [flat_length]; exact hi)]; simp [flat, hi])
  rw [addr_add, Nat.zero_add] at this
  exact this
theorem owns_old {W W' : World} {v : Value} {n : Nat} {ks : List Int} (h : W.ownsRow 0 3 1 v n (flat ks)) (ho : Old W' v ks) : ∃ a c, v = .slice a ks.length c ∧ SegI W' a ks ∧ ks.length ≤ c := by
  obtain ⟨a, c, h1, h2, h3, h4⟩ := owns_seg h
  refine ⟨a, c, h1, ?_, h4⟩
  rcases h.2 with ⟨e, h0⟩ | ⟨g, cap, cur, e, _⟩
  · rw [h1] at e; injection e with e1 e2 e3
    exact .inl (List.eq_nil_of_length_eq_zero e2)
  · have e' := e
    rw [h1] at e; injection e with e1 e2 e3
    refine .inr ⟨g, 0, e1, fun j hj => ?_⟩
    rw [Nat.zero_add]
    exact ho g (by rw [e']; rfl) j hj

/-- While the lists grow: those before j have. -/
structure GI (w W : World) (G : Nat) (vs : Nat → Value) (cur nums : Nat → List Int) (ov : Value) (R : Nat → Value) (j : Nat) : Prop where
  blk : Blk W G (four vs) 59
  row : ∀ i, i < 4 → W.ownsRow 0 3 1 (R i) ((cur i).length + (if i < j then 9 else 0)) (flat (cur i ++ (if i < j then nums i else [])))
  un : ∀ i, j ≤ i → R i = vs i
  old : ∀ i, i < 4 → Old W (vs i) (cur i)
  out : W.ownsRow 0 59 1 ov j ((List.range j).map R)
  of : ∀ g, ov.ownBlock = some g → w.heap.size ≤ g
  rg : ∀ i, i < 4 → ∀ g, (R i).ownBlock = some g → ov.ownBlock ≠ some g ∧ ((vs i).ownBlock = some g ∨ w.heap.size ≤ g)
  ap : ∀ i, i < 4 → ∀ k, k < 4 → i ≠ k → ∀ g, (R i).ownBlock = some g → (R k).ownBlock ≠ some g
  vo : ∀ i, i < 4 → ∀ g, (vs i).ownBlock = some g → g < w.heap.size ∧ g ≠ G
  va : ∀ i, i < 4 → ∀ k, k < 4 → i ≠ k → ∀ g, (vs i).ownBlock = some g → (vs k).ownBlock ≠ some g
  hG : G < w.heap.size
  keeps : Keeps (Owned vs) w W

theorem Four.gi {w : World} {G : Nat} {vs : Nat → Value} {cur nums : Nat → List Int} {D : Nat → Prop} (h : Four w G vs cur D) : GI w w G vs cur nums (.slice none 0 0) vs 0 := by
  refine ⟨h.blk, fun i hi => by simpa using h.row i hi, fun _ _ => rfl, fun i hi => Old.of (ms := []) (by rw [List.append_nil]; exact h.row i hi) rfl, by simpa using World.ownsRow_nil w 0 59 1, fun g hg => by simp [Value.ownBlock] at hg, fun i hi g hg => ⟨by simp [Value.ownBlock], .inl hg⟩, h.apart, fun i hi g hg => ⟨(h.own i hi g hg).2.2, (h.own i hi g hg).1⟩, h.apart, h.blk.lt, Keeps.refl _ _⟩

/-- One list has grown, and lies with the others. -/
theorem GI.more {w W W1 W2 : World} {G : Nat} {vs : Nat → Value} {cur nums : Nat → List Int} {ov ov' kv : Value} {R : Nat → Value} {j : Nat} (h : GI w W G vs cur nums ov R j) (hj : j < 4)
    (hO : W1.ownsRow 0 3 1 kv ((cur j).length + 9) (flat (cur j ++ nums j))) (hG : Grew W (vs j) W1 kv) (hold : Old W1 (vs j) (cur j))
    (oO : W2.ownsRow 0 59 1 ov' (j + 1) ((List.range j).map R ++ [kv])) (oG : Grew W1 ov W2 ov') :
    GI w W2 G vs cur nums ov' (fun i => if i = j then kv else R i) (j + 1) := by
  have hRj : R j = vs j := h.un j (Nat.le_refl _)
  have z0 := h.keeps.size
  have z1 := hG.keeps.size
  have olt : ∀ g, ov.ownBlock = some g → g < W.heap.size := fun g hg => owns_lt h.out hg
  have rlt : ∀ i, i < 4 → ∀ g, (R i).ownBlock = some g → g < W.heap.size := fun i hi g hg => owns_lt (h.row i hi) hg
  have klt : ∀ g, kv.ownBlock = some g → g < W1.heap.size := fun g hg => owns_lt hO hg
  have kn : ∀ g, kv.ownBlock = some g → (vs j).ownBlock = some g ∨ W.heap.size ≤ g := fun g hg => grew_new hG hg
  have on : ∀ g, ov'.ownBlock = some g → ov.ownBlock = some g ∨ W1.heap.size ≤ g := fun g hg => grew_new oG hg
  have ovk : ∀ g, ov.ownBlock = some g → kv.ownBlock ≠ some g := fun g hg hk => by
    rcases kn g hk with h1 | h1
    · have := (h.vo j hj g h1).1; have := h.of g hg; omega
    · have := olt g hg; omega
  have r1 : ∀ i, i < 4 → i ≠ j → W1.ownsRow 0 3 1 (R i) ((cur i).length + (if i < j then 9 else 0)) (flat (cur i ++ (if i < j then nums i else []))) := fun i hi hne =>
    owns_kept (h.row i hi) hG.keeps fun g hg he => h.ap i hi j hj hne g hg (by rw [hRj]; exact he.symm)
  have oldv : ∀ i, i < 4 → ∀ g, (vs i).ownBlock = some g → ¬ (some g = ov.ownBlock) := fun i hi g hg he => by
    have := (h.vo i hi g hg).1; have := h.of g he.symm; omega
  refine ⟨?_, ?_, ?_, ?_, ?_, ?_, ?_, ?_, h.vo, h.va, h.hG, ?_⟩
  · refine (h.blk.kept hG.keeps fun he => (h.vo j hj G he.symm).2 rfl).kept oG.keeps fun he => ?_
    have := h.of G he.symm; have := h.hG; omega
  · intro i hi
    by_cases e : i = j
    · subst e
      simp only [if_true, Nat.lt_succ_self]
      exact owns_kept hO oG.keeps fun g hg he => ovk g he.symm hg
    · simp only [if_neg e]
      have e2 : (i < j + 1) = (i < j) := by apply propext; omega
      simp only [e2]
      exact owns_kept (r1 i hi e) oG.keeps fun g hg he => (h.rg i hi g hg).1 he.symm
  · intro i hi
    rw [if_neg (by omega)]
    exact h.un i (by omega)
  · intro i hi
    by_cases e : i = j
    · subst e
      exact hold.kept oG.keeps fun g hg he => oldv i hi g hg he
    · refine ((h.old i hi).kept hG.keeps fun g hg he => ?_).kept oG.keeps fun g hg he => oldv i hi g hg he
      exact h.va i hi j hj e g hg he.symm
  · have e : (List.range (j + 1)).map (fun i => if i = j then kv else R i) = (List.range j).map R ++ [kv] := by
      rw [List.range_succ, List.map_append]
      congr 1
      · refine List.map_congr_left fun i hi => ?_
        have : i < j := by simpa using hi
        rw [if_neg (by omega)]
      · simp
    rw [e]
    exact oO
  · intro g hg
    rcases on g hg with h1 | h1
    · exact h.of g h1
    · omega
  · intro i hi g hg
    by_cases e : i = j
    · subst e
      simp only [if_true] at hg
      refine ⟨fun ho => ?_, ?_⟩
      · rcases on g ho with h1 | h1
        · exact ovk g h1 hg
        · have := klt g hg; omega
      · rcases kn g hg with h1 | h1
        · exact .inl h1
        · exact .inr (by omega)
    · simp only [if_neg e] at hg
      refine ⟨fun ho => ?_, (h.rg i hi g hg).2⟩
      rcases on g ho with h1 | h1
      · exact (h.rg i hi g hg).1 h1
      · have := rlt i hi g hg; omega
  · intro i hi k hk hik g hg hg2
    by_cases e : i = j
    · have e2 : k ≠ j := fun e2 => hik (e.trans e2.symm)
      simp only [if_pos e] at hg
      simp only [if_neg e2] at hg2
      rcases kn g hg with h1 | h1
      · exact h.ap k hk j hj e2 g hg2 (by rw [hRj]; exact h1)
      · have := rlt k hk g hg2; omega
    · simp only [if_neg e] at hg
      by_cases e2 : k = j
      · simp only [if_pos e2] at hg2
        rcases kn g hg2 with h1 | h1
        · exact h.ap i hi j hj e g hg (by rw [hRj]; exact h1)
        · have := rlt i hi g hg; omega
      · simp only [if_neg e2] at hg2
        exact h.ap i hi k hk hik g hg hg2
  · refine (h.keeps.trans hG.keeps fun b hb he => ⟨j, hj, he.symm⟩).trans oG.keeps fun b hb he => ?_
    have := h.of b he.symm; omega

theorem GI.lst {w W : World} {G : Nat} {vs : Nat → Value} {cur nums : Nat → List Int} {ov : Value} {R : Nat → Value} {j : Nat} (h : GI w W G vs cur nums ov R j) (h0 : ∀ i, i < 4 → w.ownsRow 0 3 1 (vs i) (cur i).length (flat (cur i))) : Lst W G vs cur :=
  ⟨fun i hi => h.blk.cell (four_get vs hi), fun i hi => owns_old (h0 i hi) (h.old i hi)⟩

/-- The step of the old places along an append. -/
theorem Old.step {W W' : World} {v kv v' : Value} {n : Nat} {ks ms : List Int} (h : Old W v ks) (hO : W'.ownsRow 0 3 1 v' n (flat (ks ++ ms))) (hG : Grew W kv W' v') (hc : v'.ownBlock = kv.ownBlock ∨ Keeps (fun _ => False) W W') : Old W' v ks := by
  rcases hc with hc | hc
  · by_cases e : kv.ownBlock = v.ownBlock
    · exact Old.of hO (hc.trans e)
    · refine h.kept hG.keeps fun g hg he => ?_
      rw [hg] at e
      exact e he.symm
  · exact h.kept hc fun _ _ h => h

end Go.Proofs.Ytajhkilclmicjaa
