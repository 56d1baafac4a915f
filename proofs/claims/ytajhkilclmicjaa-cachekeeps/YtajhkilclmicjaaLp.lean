import Derived.Test.YtajhkilclmicjaaCp
namespace Go.Proofs.Ytajhkilclmicjaa
open Go.RowKit Go.Shelf
set_option linter.unusedVariables false

def hrow (Bs : Nat → Nat) (ls : Nat → List Int) (i : Nat) : Value := .slice (some ⟨Bs i, 0, none⟩) (ls i).length ((ls i).length + 70)

/-- The lists that are handed in, so far. -/
structure LP (w W : World) (hv mv : Value) (Bs : Nat → Nat) (ls : Nat → List Int) (j : Nat) : Prop where
  h : W.ownsRow 0 59 1 hv j ((List.range j).map (hrow Bs ls))
  m : W.ownsRow 0 59 1 mv j ((List.range j).map (hrow Bs ls))
  b : ∀ i, i < j → Blk W (Bs i) (fl ((ls i).length + 70) (spareF (ls i))) 3 ∧ w.heap.size ≤ Bs i ∧ hv.ownBlock ≠ some (Bs i) ∧ mv.ownBlock ≠ some (Bs i)
  ap : ∀ i, i < j → ∀ k, k < j → i ≠ k → Bs i ≠ Bs k
  hf : ∀ g, hv.ownBlock = some g → w.heap.size ≤ g ∧ mv.ownBlock ≠ some g
  mf : ∀ g, mv.ownBlock = some g → w.heap.size ≤ g

theorem LP.kept {S : Nat → Prop} {w W W' : World} {hv mv : Value} {Bs : Nat → Nat} {ls : Nat → List Int} {j : Nat} (h : LP w W hv mv Bs ls j) (hK : Keeps S W W') (hS : ∀ b, w.heap.size ≤ b → b < W.heap.size → ¬ S b) : LP w W' hv mv Bs ls j :=
  ⟨owns_kept h.h hK fun g hg => hS g (h.hf g hg).1 (owns_lt h.h hg), owns_kept h.m hK fun g hg => hS g (h.mf g hg) (owns_lt h.m hg), fun i hi => ⟨(h.b i hi).1.kept hK (hS _ (h.b i hi).2.1 (h.b i hi).1.lt), (h.b i hi).2⟩, h.ap, h.hf, h.mf⟩

theorem grew_new {w W : World} {v v' : Value} (h : Grew w v W v') {g : Nat} (hg : v'.ownBlock = some g) : v.ownBlock = some g ∨ w.heap.size ≤ g := by
  rcases h.fresh with e | ⟨b, e, hb⟩
  · exact .inl (by rw [← e]; exact hg)
  · rw [e] at hg; cases hg; exact .inr hb

/-- One list more. -/
theorem LP.more {w W0 W1 W2 W3 : World} {hv mv hv' mv' : Value} {Bs : Nat → Nat} {ls : Nat → List Int} {j : Nat} (h : LP w W0 hv mv Bs ls j) (hw : w.heap.size ≤ W0.heap.size) (hK : Keeps (fun _ => False) W0 W1)
    (hB : Blk W1 W0.heap.size (fl ((ls j).length + 70) (spareF (ls j))) 3)
    (hO : W2.ownsRow 0 59 1 hv' (j + 1) ((List.range j).map (hrow Bs ls) ++ [.slice (some ⟨W0.heap.size, 0, none⟩) (ls j).length ((ls j).length + 70)])) (hG : Grew W1 hv W2 hv')
    (mO : W3.ownsRow 0 59 1 mv' (j + 1) ((List.range j).map (hrow Bs ls) ++ [.slice (some ⟨W0.heap.size, 0, none⟩) (ls j).length ((ls j).length + 70)])) (mG : Grew W2 mv W3 mv') :
    LP w W3 hv' mv' (fun i => if i = j then W0.heap.size else Bs i) ls (j + 1) := by
  have e : (List.range (j + 1)).map (hrow (fun i => if i = j then W0.heap.size else Bs i) ls) = (List.range j).map (hrow Bs ls) ++ [.slice (some ⟨W0.heap.size, 0, none⟩) (ls j).length ((ls j).length + 70)] := by
    rw [List.range_succ, List.map_append]
    congr 1
    · refine List.map_congr_left fun i hi => ?_
      have : i < j := by simpa using hi
      have e3 : ¬ i = j := by omega
      simp [hrow, e3]
    · simp [hrow]
  have hlt : ∀ g, hv.ownBlock = some g → g < W0.heap.size := fun g hg => owns_lt h.h hg
  have mlt : ∀ g, mv.ownBlock = some g → g < W0.heap.size := fun g hg => owns_lt h.m hg
  have z1 := hB.lt
  have z2 := hG.keeps.size
  have z3 := mG.keeps.size
  have hB2 := hB.kept hG.keeps fun he => by have := hlt _ he.symm; omega
  have hB3 := hB2.kept mG.keeps fun he => by have := mlt _ he.symm; omega
  have hh' : ∀ g, hv'.ownBlock = some g → hv.ownBlock = some g ∨ W1.heap.size ≤ g := fun g hg => grew_new hG hg
  have mm' : ∀ g, mv'.ownBlock = some g → mv.ownBlock = some g ∨ W2.heap.size ≤ g := fun g hg => grew_new mG hg
  have hlt2 : ∀ g, hv'.ownBlock = some g → g < W2.heap.size := fun g hg => owns_lt hO hg
  refine ⟨?_, by rw [e]; exact mO, ?_, ?_, ?_, ?_⟩
  · rw [e]
    refine owns_kept hO mG.keeps fun g hg he => ?_
    rcases hh' g hg with h1 | h1
    · exact (h.hf g h1).2 he.symm
    · have := mlt _ he.symm; have := hK.size; omega
  · intro i hi
    by_cases e2 : i = j
    · subst e2
      simp only [if_pos]
      refine ⟨hB3, hw, fun hg => ?_, fun hg => ?_⟩
      · rcases hh' _ hg with h1 | h1
        · have := hlt _ h1; omega
        · omega
      · rcases mm' _ hg with h1 | h1
        · have := mlt _ h1; omega
        · omega
    · simp only [if_neg e2]
      obtain ⟨g1, g2, g3, g4⟩ := h.b i (by omega)
      have hl := g1.lt
      refine ⟨((g1.kept hK fun h => h).kept hG.keeps fun he => g3 he.symm).kept mG.keeps fun he => g4 he.symm, g2, fun hg => ?_, fun hg => ?_⟩
      · rcases hh' _ hg with h1 | h1
        · exact g3 h1
        · have := hK.size; omega
      · rcases mm' _ hg with h1 | h1
        · exact g4 h1
        · have := hK.size; omega
  · intro i hi k hk hik
    by_cases e1 : i = j
    · have e2 : k ≠ j := fun e2 => hik (e1.trans e2.symm)
      simp only [if_pos e1, if_neg e2]
      have := (h.b k (by omega)).1.lt
      omega
    · simp only [if_neg e1]
      by_cases e2 : k = j
      · simp only [if_pos e2]
        have := (h.b i (by omega)).1.lt
        omega
      · simp only [if_neg e2]
        exact h.ap i (by omega) k (by omega) hik
  · intro g hg
    have hg2 := hlt2 g hg
    refine ⟨?_, fun hm => ?_⟩
    · rcases hh' g hg with h1 | h1
      · exact (h.hf g h1).1
      · have := hK.size; omega
    · rcases mm' g hm with h1 | h1
      · rcases hh' g hg with h2 | h2
        · exact (h.hf g h2).2 h1
        · have := mlt g h1; have := hK.size; omega
      · omega
  · intro g hg
    rcases mm' g hg with h1 | h1
    · exact h.mf g h1
    · have := hK.size; omega

theorem row_lst {W : World} {v : Value} {Bs : Nat → Nat} {ls : Nat → List Int} (h : W.ownsRow 0 59 1 v 4 ((List.range 4).map (hrow Bs ls))) : ∃ G cap, v = .slice (some ⟨G, 0, none⟩) 4 cap ∧ ∀ i, i < 4 → W.cell? ⟨G, i, none⟩ = some (hrow Bs ls i) := by
  rcases h.2 with ⟨_, h0⟩ | ⟨G, cap, cur, rfl, _⟩
  · omega
  · refine ⟨G, cap, rfl, fun i hi => ?_⟩
    have := h.cells (g := G) rfl i (hrow Bs ls i) (by simp [hi])
    rw [addr_add, Nat.zero_add] at this
    exact this
theorem fl_seg {W : World} {B : Nat} {ks : List Int} (h : Blk W B (fl (ks.length + 70) (spareF ks)) 3) : SegI W (some ⟨B, 0, none⟩) ks := by
  refine .inr ⟨B, 0, rfl, fun j hj => ?_⟩
  have := h.cell (fl_get (spareF ks) (show 0 + j < ks.length + 70 by omega))
  simpa [spareF, hj] using this

end Go.Proofs.Ytajhkilclmicjaa
