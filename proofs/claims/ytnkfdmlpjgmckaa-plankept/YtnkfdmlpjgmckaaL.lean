import Derived.Test.YtnkfdmlpjgmckaaK
import Derived.Test.YtnkfdmlpjgmckaaRo
namespace Go.Proofs.Ytnkfdmlpjgmckaa
open Go.RowKit
set_option linter.unusedVariables false
set_option maxRecDepth 6000

def eSpn : Elem Spn := ⟨Spn.vs, 4, 69, fun _ => rfl, by decide, fun _ _ => True, fun _ => [], fun h _ _ => h⟩
/-- The windows of a partition on a core, of the first so many. -/
def pick (p : Int) (k : Nat) (ws : List Win) : Nat → List Spn
  | 0 => []
  | j + 1 => match ws[j]? with
    | some y => if y.p = p then pick p k ws j ++ [⟨k, j, beg ws j, beg ws (j + 1)⟩] else pick p k ws j
    | none => pick p k ws j
theorem pick_in {p : Int} {k : Nat} {ws : List Win} {j : Nat} {y : Win} (hy : ws[j]? = some y) (h : y.p = p) : pick p k ws (j + 1) = pick p k ws j ++ [⟨k, j, beg ws j, beg ws (j + 1)⟩] := by
  simp only [pick, hy, if_pos h]
theorem pick_out {p : Int} {k : Nat} {ws : List Win} {j : Nat} {y : Win} (hy : ws[j]? = some y) (h : ¬ y.p = p) : pick p k ws (j + 1) = pick p k ws j := by
  simp only [pick, hy, if_neg h]
def pickAll (p : Int) (cs : List Core) : Nat → List Spn
  | 0 => []
  | k + 1 => match cs[k]? with
    | some X => pickAll p cs k ++ pick p k X.ws X.ws.length
    | none => pickAll p cs k
theorem pickAll_succ {p : Int} {cs : List Core} {k : Nat} {X : Core} (hX : cs[k]? = some X) : pickAll p cs (k + 1) = pickAll p cs k ++ pick p k X.ws X.ws.length := by
  simp only [pickAll, hX]
/-- How many windows the first so many cores have. -/
def tot (cs : List Core) (j : Nat) : Nat := ((cs.take j).map fun X => X.ws.length).sum
theorem tot_succ {cs : List Core} {j : Nat} {X : Core} (hX : cs[j]? = some X) : tot cs (j + 1) = tot cs j + X.ws.length := by
  unfold tot
  rw [List.take_add_one, hX]
  simp
theorem tot_le {cs : List Core} {i j : Nat} (h : i ≤ j) : tot cs i ≤ tot cs j := by
  induction j with
  | zero => obtain rfl : i = 0 := by omega
            exact Nat.le_refl _
  | succ j ih =>
    by_cases e : i = j + 1
    · subst e; exact Nat.le_refl _
    · have h1 := ih (by omega)
      cases hX : cs[j]? with
      | some X => rw [tot_succ hX]; omega
      | none => have : tot cs (j + 1) = tot cs j := by unfold tot; rw [List.take_add_one, hX]; simp
                omega
theorem pick_len (p : Int) (k : Nat) (ws : List Win) (j : Nat) : (pick p k ws j).length ≤ j := by
  induction j with
  | zero => simp [pick]
  | succ j ih =>
    cases hy : ws[j]? with
    | none => simp only [pick, hy]; omega
    | some y =>
      by_cases h : y.p = p
      · rw [pick_in hy h]; simp; exact ih
      · rw [pick_out hy h]; omega
theorem pickAll_len (p : Int) (cs : List Core) (j : Nat) : (pickAll p cs j).length ≤ tot cs j := by
  induction j with
  | zero => simp [pickAll]
  | succ j ih =>
    cases hX : cs[j]? with
    | none => simp only [pickAll, hX]; have := tot_le (cs := cs) (i := j) (j := j + 1) (by omega); omega
    | some X =>
      rw [pickAll_succ hX, tot_succ hX, List.length_append]
      have := pick_len p j X.ws X.ws.length
      omega

theorem One.up {S : Nat → Prop} {w : World} {x : Cfg} {C N : Nat} {w' w'' : World} (h : One w x C N w') (hK : Keeps S w' w'') (hS : ∀ k, S k → w.heap.size ≤ k ∧ k ≠ C) : One w x C N w'' :=
  ⟨h.cfg.kept hK fun e => (hS _ e).2 rfl, h.keeps.trans hK fun b hb e => by have := (hS b e).1; omega, h.cin.below (hK.below h.nn fun b e => Nat.le_trans h.n (hS b e).1), h.lo, h.n⟩

/-- What holds while a partition's windows are looked for on a core. -/
structure SpI (w : World) (x : Cfg) (C N lo g k : Nat) (X : Core) (wr : World) (u : Value) (xs : List Spn) : Prop where
  one : One w x C N wr
  seg : SegA Spn.vs 4 wr (some ⟨g, 0, none⟩) (Go.Proofs.Ytnkfdmlpjgmckaa.laid k X.ws)
  glt : g < wr.heap.size
  row : Row eSpn wr lo u xs
  ne : u.ownBlock ≠ some g
theorem SpI.kept {w : World} {x : Cfg} {C N lo g k : Nat} {X : Core} {wr w' : World} {u : Value} {xs : List Spn} (h : SpI w x C N lo g k X wr u xs) (hK : Keeps (fun _ => False) wr w') : SpI w x C N lo g k X w' u xs :=
  ⟨h.one.kept hK, h.seg.kept hK fun _ _ _ e => e, Nat.lt_of_lt_of_le h.glt hK.size, h.row.kept hK fun _ e => e.elim, h.ne⟩
theorem SpI.push {w : World} {x : Cfg} {C N lo g k : Nat} {X : Core} {wr W' : World} {u v' : Value} {xs : List Spn} (h : SpI w x C N lo g k X wr u xs) (y : Spn) (hlo : lo = C + 1) (hC : C = w.heap.size) (hlow : lo ≤ wr.heap.size)
    (hown : W'.ownsRow 0 69 4 v' (xs.length + 1) (xs.flatMap Spn.vs ++ y.vs)) (hfr : v'.ownBlock = u.ownBlock ∨ ∃ k, v'.ownBlock = some k ∧ wr.heap.size ≤ k) (hK : Keeps (fun k => some k = u.ownBlock) wr W') : SpI w x C N lo g k X W' v' (xs ++ [y]) := by
  have hg := h.glt
  refine ⟨h.one.up hK fun k e => ?_, h.seg.kept hK fun _ a ea e => ?_, Nat.lt_of_lt_of_le h.glt hK.size, h.row.push trivial (fun k hk => by cases hk) hlow hown hfr hK, ?_⟩
  · have := h.row.low k e.symm
    omega
  · cases ea
    exact h.ne e.symm
  · rcases hfr with e | ⟨m, e, hm⟩
    · rw [e]; exact h.ne
    · rw [e]; intro e'; cases e'; omega
end Go.Proofs.Ytnkfdmlpjgmckaa
