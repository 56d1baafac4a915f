import Derived.Test.YtffhkapegmnklaaM
namespace Go.Proofs.Ytffhkapegmnklaa
open Go.RowKit Go.Shelf
set_option linter.unusedVariables false

/-! ### The last unlike keys -/
/-- The first of each kind. -/
def uniq : List Int → List Int
  | [] => []
  | k :: l => k :: (uniq l).filter (· != k)

theorem uniq_nodup : ∀ l : List Int, (uniq l).Nodup
  | [] => List.nodup_nil
  | k :: l => List.nodup_cons.2 ⟨by simp, (uniq_nodup l).filter _⟩

/-- What the law's own function tells: of the reversed list, the latest one first. -/
def latelyL (used : List Int) (r : Nat) : List Int := (uniq used.reverse).take r

theorem filter_id {D : List Int} {k : Int} (h : k ∉ D) : D.filter (· != k) = D := List.filter_eq_self.2 fun x hx => by simp; intro e; exact h (e ▸ hx)

/-- One more use: the kind goes to the front. -/
theorem take_filter : ∀ (D : List Int) (r : Nat) (k : Int), D.Nodup → (D.filter (· != k)).take r = if k ∈ D.take (r + 1) then (D.take (r + 1)).filter (· != k) else D.take r
  | [], r, k, _ => by simp
  | d :: D, r, k, h => by
    obtain ⟨h1, h2⟩ := List.nodup_cons.1 h
    by_cases e : d = k
    · subst e
      rw [List.filter_cons_of_neg (by simp), filter_id h1, List.take_succ_cons, if_pos (by simp), List.filter_cons_of_neg (by simp), filter_id fun hm => h1 (List.mem_of_mem_take hm)]
    · have ek : k ≠ d := fun x => e x.symm
      rw [List.filter_cons_of_pos (by simp [e]), List.take_succ_cons]
      cases r with
      | zero => simp [ek]
      | succ r =>
        rw [List.take_succ_cons, take_filter D r k h2]
        by_cases hm : k ∈ D.take (r + 1)
        · rw [if_pos hm, if_pos (by simp [hm]), List.filter_cons_of_pos (by simp [e])]
        · rw [if_neg hm, if_neg (by simp [hm, ek]), List.take_succ_cons]

theorem latelyL_nodup (used : List Int) (r : Nat) : (latelyL used r).Nodup := (uniq_nodup _).sublist (List.take_sublist _ _)

theorem latelyL_snoc (used : List Int) (k : Int) (r : Nat) (hr : 1 ≤ r) :
    latelyL (used ++ [k]) r = k :: (if k ∈ latelyL used r then (latelyL used r).filter (· != k) else (latelyL used r).take (r - 1)) := by
  unfold latelyL
  obtain ⟨q, rfl⟩ : ∃ q, r = q + 1 := ⟨r - 1, by omega⟩
  rw [List.reverse_append]
  simp only [List.reverse_cons, List.reverse_nil, List.nil_append, List.cons_append, uniq, List.take_succ_cons, Nat.add_sub_cancel]
  rw [take_filter _ q k (uniq_nodup _)]
  congr 2
  rw [List.take_take]
  congr 1
  omega

/-- The keys of a shelf, the latest one first. -/
def keysL (kvs : List (Int × Value)) : List Int := (kvs.map Prod.fst).reverse

theorem look_iff (k : Int) (kvs : List (Int × Value)) : (look k kvs).isSome = decide (k ∈ kvs.map Prod.fst) := by
  unfold look
  rw [Option.isSome_map]
  by_cases h : k ∈ kvs.map Prod.fst
  · rw [decide_eq_true h]
    obtain ⟨p, hp, he⟩ := List.mem_map.1 h
    rw [List.find?_isSome]
    exact ⟨p, hp, by simp [he]⟩
  · rw [decide_eq_false h]
    rw [Option.isSome_eq_false_iff, Option.isNone_iff_eq_none, List.find?_eq_none]
    intro p hp he
    exact h (List.mem_map.2 ⟨p, hp, by simpa using he⟩)

theorem del_keys (k : Int) (kvs : List (Int × Value)) : keysL (del k kvs) = (keysL kvs).filter (· != k) := by
  unfold keysL del
  rw [List.filter_reverse]
  congr 1
  induction kvs with
  | nil => rfl
  | cons p r ih =>
    simp only [List.filter_cons, List.map_cons]
    split <;> simp [ih]

/-- Behind a Put the shelf's keys are the last unlike ones. -/
theorem put_lately {rm : Nat} {used : List Int} {kvs : List (Int × Value)} (hr : 1 ≤ rm) (h : keysL kvs = latelyL used rm) (hf : kvs.length ≤ rm) (k : Int) (v : Value) : keysL (putL rm k v kvs) = latelyL (used ++ [k]) rm := by
  rw [latelyL_snoc _ _ _ hr, ← h]
  have hm : (k ∈ keysL kvs) ↔ k ∈ kvs.map Prod.fst := by simp [keysL]
  have hl : (keysL kvs).length = kvs.length := by simp [keysL]
  unfold putL
  rw [look_iff]
  by_cases hk : k ∈ kvs.map Prod.fst
  · rw [if_pos (hm.2 hk), if_pos (by simpa using hk)]
    rw [← del_keys]
    simp [keysL]
  · rw [if_neg (fun h => hk (hm.1 h)), if_neg (by simpa using hk)]
    by_cases hlt : kvs.length < rm
    · rw [if_pos hlt, List.take_of_length_le (by omega)]
      simp [keysL]
    · rw [if_neg hlt]
      cases kvs with
      | nil => simp at hlt; omega
      | cons p r =>
        have e : r.length = rm - 1 := by simp at hlt hf; omega
        have e2 : (keysL (p :: r)).take (rm - 1) = keysL r := by
          simp only [keysL, List.map_cons, List.reverse_cons]
          rw [List.take_append_of_le_length (by simp; omega), List.take_of_length_le (by simp; omega)]
        rw [e2]
        simp [keysL]

/-- Behind a Get that finds. -/
theorem touch_lately {rm : Nat} {used : List Int} {kvs : List (Int × Value)} (hr : 1 ≤ rm) (h : keysL kvs = latelyL used rm) (k : Int) (hk : (look k kvs).isSome = true) : keysL (touch k kvs) = latelyL (used ++ [k]) rm := by
  rw [latelyL_snoc _ _ _ hr, ← h]
  have hk' := hk
  rw [look_iff] at hk'
  have hm : k ∈ keysL kvs := by simp only [keysL, List.mem_reverse]; simpa using hk'
  rw [if_pos hm, ← del_keys]
  unfold touch
  cases hl : look k kvs with
  | none => rw [hl] at hk; simp at hk
  | some v => simp [keysL]

end Go.Proofs.Ytffhkapegmnklaa
