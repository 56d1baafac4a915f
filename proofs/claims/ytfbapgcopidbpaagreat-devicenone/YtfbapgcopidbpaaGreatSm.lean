import Derived.Test.YtfbapgcopidbpaaGreatN
namespace Go.Proofs.YtfbapgcopidbpaaGreat
open Go.RowKit
set_option linter.unusedVariables false
set_option maxRecDepth 6000

theorem run_storeVar_mid {P : Program} (w : World) (g off : Nat) (t ty : TypeId) (old : List Value) (cells : List Value) (hg : Blk w g old t) (hi : (P.info? ty).map (·.size) = some cells.length)
    (ho : off + cells.length ≤ old.length) (h1 : ∀ v ∈ cells, v.oneCell' = true) :
    (storeVar ty ⟨g, off, none⟩ (.agg cells.toArray)).run P w = .ok () (w.setRow g (old.take off ++ cells ++ old.drop (off + cells.length)).toArray) := by
  have hst := run_storeCells_at P g off t cells 0 old.toArray w hg (by simpa using ho) h1
  simp only [Nat.add_zero] at hst
  cases hq : P.info? ty with
  | none => simp [hq] at hi
  | some i =>
    have hs : cells.length = i.size := by simp [hq] at hi; omega
    simp [storeVar, sizeOf, typeInfo, hq, Value.cells, hs, hst]
theorem wp_store_mid {P : Program} {o : Oper} {a : Act} {w : World} {K : Act → World → Prop} {Q : Exit → Act → World → Prop} (ty : TypeId) (x y : Operand) (ho : o.op = .store ty x y)
    (g off : Nat) (cells : List Value) (hx : a.eval x = .pointer (some ⟨g, off, none⟩)) (hy : a.eval y = .agg cells.toArray)
    (t : TypeId) (old : List Value) (hg : Blk w g old t) (hi : (P.info? ty).map (·.size) = some cells.length) (hold : off + cells.length ≤ old.length) (h1 : ∀ v ∈ cells, v.oneCell' = true)
    (h : K (a.put o.dst undef) (w.setRow g (old.take off ++ cells ++ old.drop (off + cells.length)).toArray)) : o.wp P a w K Q := by
  unfold Oper.wp execOp
  simp only [ho, hx, hy, Instr.storeAt, Instr.sureAddr, Sem.run_bind, Sem.run_pure, Result.andThen_ok, run_storeVar_mid w g off t ty old cells hg hi hold h1]
  exact h

def upd {α : Type} (F : Nat → α) (j : Nat) (v : α) : Nat → α := fun i => if i = j then v else F i
theorem upd_same {α : Type} (F : Nat → α) (j : Nat) (v : α) : upd F j v j = v := by simp [upd]
theorem upd_ne {α : Type} (F : Nat → α) {j i : Nat} (v : α) (h : i ≠ j) : upd F j v i = F i := by simp [upd, h]
/-- Things of five cells, one behind another. -/
def row5 (F : Nat → List Value) (L : Nat) : List Value := (List.range L).flatMap F
theorem row5_len {F : Nat → List Value} (hF : ∀ i, (F i).length = 5) (L : Nat) : (row5 F L).length = L * 5 := by
  unfold row5
  induction L with
  | zero => simp
  | succ L ih => rw [List.range_succ, List.flatMap_append, List.length_append, ih]; simp [hF]; omega
theorem row5_get {F : Nat → List Value} (hF : ∀ i, (F i).length = 5) {L j k : Nat} (hj : j < L) (hk : k < 5) : (row5 F L)[j * 5 + k]? = (F j)[k]? := by
  induction L with
  | zero => omega
  | succ L ih =>
    have hs : row5 F (L + 1) = row5 F L ++ F L := by unfold row5; rw [List.range_succ, List.flatMap_append]; simp
    rw [hs]
    have hl := row5_len hF L
    by_cases e : j < L
    · rw [List.getElem?_append_left (by omega)]; exact ih e
    · obtain rfl : j = L := by omega
      rw [List.getElem?_append_right (by omega), hl]
      congr 1
      omega
theorem row5_ext {F G : Nat → List Value} (hF : ∀ i, (F i).length = 5) (hG : ∀ i, (G i).length = 5) {L : Nat} {l : List Value} (hl : l.length = L * 5) (h : ∀ j k, j < L → k < 5 → l[j * 5 + k]? = (G j)[k]?) : l = row5 G L := by
  apply List.ext_getElem?
  intro m
  by_cases hm : m < L * 5
  · have h1 := h (m / 5) (m % 5) (by omega) (by omega)
    have e : m / 5 * 5 + m % 5 = m := by omega
    rw [e] at h1
    rw [h1, ← row5_get hG (L := L) (j := m / 5) (k := m % 5) (by omega) (by omega), e]
  · rw [List.getElem?_eq_none (by omega), List.getElem?_eq_none (by rw [row5_len hG]; omega)]
theorem row5_put {F : Nat → List Value} (hF : ∀ i, (F i).length = 5) {L j : Nat} (hj : j < L) (v : List Value) (hv : v.length = 5) :
    (row5 F L).take (j * 5) ++ v ++ (row5 F L).drop (j * 5 + 5) = row5 (upd F j v) L := by
  have hl := row5_len hF L
  refine row5_ext hF (fun i => by by_cases e : i = j <;> simp [upd, e, hv, hF]) (by simp [hl, hv]; omega) fun i k hi hk => ?_
  by_cases e : i = j
  · subst e
    rw [upd_same, List.append_assoc, List.getElem?_append_right (by simp [hl]; omega), List.getElem?_append_left (by simp [hl, hv]; omega)]
    congr 1
    simp [hl]
    omega
  · rw [upd_ne F v e, ← row5_get hF hi hk]
    by_cases lt : i < j
    · rw [List.append_assoc, List.getElem?_append_left (by simp [hl]; omega), List.getElem?_take, if_pos (by omega)]
    · rw [List.getElem?_append_right (by simp [hl, hv]; omega), List.getElem?_drop]
      congr 1
      simp [hl, hv]
      omega
theorem row5_set {F : Nat → List Value} (hF : ∀ i, (F i).length = 5) {L j k : Nat} (hj : j < L) (hk : k < 5) (v : Value) : (row5 F L).set (j * 5 + k) v = row5 (upd F j ((F j).set k v)) L := by
  have hl := row5_len hF L
  refine row5_ext hF (fun i => by by_cases e : i = j <;> simp [upd, e, hF]) (by simp [hl]) fun i m hi hm => ?_
  rw [List.getElem?_set]
  by_cases e : i = j
  · subst e
    rw [upd_same, List.getElem?_set]
    by_cases e2 : k = m
    · subst e2
      have h9 : i * 5 + k < L * 5 := by omega
      simp [hl, hF, hk, h9]
    · rw [if_neg (by omega), if_neg e2, row5_get hF hi hm]
  · rw [upd_ne F _ e, if_neg (by omega), row5_get hF hi hm]
theorem row5_zero (L : Nat) : (List.replicate L z5).flatten = row5 (fun _ => z5) L := by
  refine row5_ext (F := fun _ => z5) (fun _ => rfl) (fun _ => rfl) (by simp [z5]) fun j k hj hk => ?_
  rw [z5_get L _ (by omega)]
  congr 1
  omega
end Go.Proofs.YtfbapgcopidbpaaGreat
