import Derived.Test.YtakidbjkpbgmmaaLi
import Derived.Test.YtakidbjkpbgmmaaIn
namespace Go.Proofs.Ytakidbjkpbgmmaa
open Go.RowKit Go.Shelf
set_option linter.unusedVariables false

/-! ### Lists of leaves -/
theorem findT_some {p : Int} {ls : List Lf} (hn : (ls.map Lf.p).Nodup) {x : Lf} : findT p ls = some x ↔ x ∈ ls ∧ x.p = p := by
  constructor
  · intro h
    have h1 := List.mem_of_find?_eq_some h
    have h2 := List.find?_some h
    exact ⟨h1, by simpa using h2⟩
  · rintro ⟨hm, rfl⟩
    cases h : findT x.p ls with
    | none =>
      unfold findT at h
      rw [List.find?_eq_none] at h
      have := h x hm
      simp at this
    | some y =>
      have h1 := List.mem_of_find?_eq_some h
      have h2 : y.p = x.p := by simpa using List.find?_some h
      have : y = x := by
        induction ls with
        | nil => simp at hm
        | cons a r ih =>
          simp only [List.map_cons, List.nodup_cons] at hn
          rcases List.mem_cons.1 hm with rfl | hm'
          · rcases List.mem_cons.1 h1 with rfl | h1'
            · rfl
            · exact absurd (List.mem_map.2 ⟨y, h1', h2⟩) hn.1
          · rcases List.mem_cons.1 h1 with rfl | h1'
            · exact absurd (List.mem_map.2 ⟨x, hm', h2.symm⟩) hn.1
            · refine ih hn.2 hm' ?_ h1'
              unfold findT at h ⊢
              rw [List.find?_cons] at h
              have hne : (a.p == x.p) = false := by
                simp
                intro he
                exact hn.1 (List.mem_map.2 ⟨x, hm', he.symm⟩)
              rw [hne] at h
              exact h
      rw [this]
theorem findT_same {p : Int} {a b : List Lf} (ha : (a.map Lf.p).Nodup) (hb : (b.map Lf.p).Nodup) (h : ∀ x, x ∈ a ↔ x ∈ b) : findT p a = findT p b := by
  cases e : findT p a with
  | some x => exact ((findT_some hb).2 ⟨(h x).1 ((findT_some ha).1 e).1, ((findT_some ha).1 e).2⟩).symm
  | none =>
    cases e2 : findT p b with
    | none => rfl
    | some y =>
      have := (findT_some ha).2 ⟨(h y).2 ((findT_some hb).1 e2).1, ((findT_some hb).1 e2).2⟩
      rw [e] at this; cases this
theorem touchT_mem {p : Int} {ls : List Lf} (hn : (ls.map Lf.p).Nodup) (x : Lf) : x ∈ touchT p ls ↔ x ∈ ls := by
  unfold touchT
  cases h : findT p ls with
  | none => rfl
  | some y =>
    have hy := (findT_some hn).1 h
    simp only [List.mem_append, List.mem_singleton, wo, List.mem_filter]
    constructor
    · rintro (⟨h1, _⟩ | rfl)
      · exact h1
      · exact hy.1
    · intro hx
      by_cases hp : x.p = p
      · right
        have := (findT_some hn).2 ⟨hx, hp⟩
        rw [h] at this
        exact (Option.some.inj this).symm
      · exact .inl ⟨hx, by simpa using hp⟩

/-- What the last ones are, the latest first. -/
def nextL (l : Lf) (last : List Lf) : List Lf := (l :: wo l.p last).take 4
theorem putT_reverse (l : Lf) {last : List Lf} (h : last.length ≤ 4) : putT l last.reverse = (nextL l last).reverse := by
  have e : wo l.p last.reverse ++ [l] = (l :: wo l.p last).reverse := by
    rw [List.reverse_cons]; simp [wo, List.filter_reverse]
  have hle := wo_le l.p last
  unfold putT nextL
  rw [e]
  by_cases h5 : 4 < (l :: wo l.p last).reverse.length
  · rw [if_pos h5]
    rw [List.length_reverse] at h5
    have h6 : (l :: wo l.p last).length = 5 := by simp at h5 ⊢; omega
    rw [List.tail_reverse, List.dropLast_eq_take, h6]
  · rw [if_neg h5]
    rw [List.length_reverse] at h5
    rw [List.take_of_length_le (by omega)]
theorem nextL_le (l : Lf) (last : List Lf) : (nextL l last).length ≤ 4 := by
  unfold nextL
  rw [List.length_take]
  omega
theorem wo_take_succ (p : Int) (ls : List Lf) (k : Nat) (x : Lf) (h : ls[k]? = some x) : wo p (ls.take (k + 1)) = if x.p = p then wo p (ls.take k) else wo p (ls.take k) ++ [x] := by
  rw [List.take_add_one, h]
  unfold wo
  rw [List.filter_append]
  by_cases e : x.p = p <;> simp [e]
/-- Where the walk through the last ones stops. -/
theorem nextL_stop (l : Lf) (last : List Lf) (k : Nat) (h4 : (l :: wo l.p (last.take k)).length ≤ 4) (hs : last.length ≤ k ∨ 4 ≤ (l :: wo l.p (last.take k)).length) : nextL l last = l :: wo l.p (last.take k) := by
  unfold nextL
  rcases hs with h | h
  · rw [List.take_of_length_le (l := last) h] at h4 ⊢
    rw [List.take_of_length_le h4]
  · have e : l :: wo l.p last = (l :: wo l.p (last.take k)) ++ wo l.p (last.drop k) := by
      rw [List.cons_append]
      congr 1
      unfold wo
      rw [← List.filter_append, List.take_append_drop]
    rw [e, List.take_append_of_le_length h, List.take_of_length_le h4]
/-- The walk for a page. -/
theorem findT_take (p : Int) (ls : List Lf) (hn : (ls.map Lf.p).Nodup) (k : Nat) (x : Lf) (h : ls[k]? = some x) : findT p (ls.take (k + 1)) = if x.p = p then some x else findT p (ls.take k) := by
  have hm : x ∈ ls.take (k + 1) := by
    rw [List.take_add_one, h]; simp
  have hn1 : ((ls.take (k + 1)).map Lf.p).Nodup := hn.sublist ((List.take_sublist _ _).map _)
  have hn0 : ((ls.take k).map Lf.p).Nodup := hn.sublist ((List.take_sublist _ _).map _)
  by_cases e : x.p = p
  · rw [if_pos e]
    exact (findT_some hn1).2 ⟨hm, e⟩
  · rw [if_neg e, List.take_add_one, h]
    unfold findT
    rw [List.find?_append]
    simp [e]

/-! ### Leaves that are equal -/
theorem eq_leaf (l m : Lf) (w : World) : (Op.equalIn 10000 38 l.v m.v).run Try.prog w = .ok (decide (l = m)) w := by
  have hd : decide (l = m) = ((l.p == m.p) && (l.f == m.f) && (l.r == m.r)) := by
    cases l; cases m
    rw [Bool.eq_iff_iff]
    simp [and_assoc]
  rw [hd]
  cases h1 : l.p == m.p <;> cases h2 : l.f == m.f <;> cases h3 : l.r == m.r <;> simp [go_sem, h1, h2, h3, Result.andThen]

theorem neq_leaf (l m : Lf) (w : World) : (binOp .neq 38 l.v m.v).run Try.prog w = .ok (.bool (!decide (l = m))) w := by
  rw [run_neq_struct, eq_leaf]
  rfl
theorem eql_leaf (l m : Lf) (w : World) : (binOp .eql 38 l.v m.v).run Try.prog w = .ok (.bool (decide (l = m))) w := by
  rw [run_eql_struct, eq_leaf]
  rfl

end Go.Proofs.Ytakidbjkpbgmmaa
