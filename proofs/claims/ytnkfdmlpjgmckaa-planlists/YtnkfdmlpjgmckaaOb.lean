import Derived.Test.YtnkfdmlpjgmckaaLb
namespace Go.Proofs.Ytnkfdmlpjgmckaa
open Go.RowKit
set_option linter.unusedVariables false
set_option maxRecDepth 6000

/-! ### Rows of one's own, each in a block of its own -/
abbrev Obj1 := Value × TypeId × List Value
structure Objs (w : World) (os : List Obj1) : Prop where
  own : ∀ (i : Nat) (o : Obj1), os[i]? = some o → w.ownsRow 0 o.2.1 1 o.1 o.2.2.length o.2.2
  dis : ∀ (i j : Nat) (a b : Obj1) (k : Nat), os[i]? = some a → os[j]? = some b → i ≠ j → a.1.ownBlock = some k → b.1.ownBlock ≠ some k
theorem Objs.lt {w : World} {os : List Obj1} (h : Objs w os) {i : Nat} {o : Obj1} (ho : os[i]? = some o) {k : Nat} (hk : o.1.ownBlock = some k) : k < w.heap.size := ((h.own i o ho).lt k hk).2
theorem Objs.kept {S : Nat → Prop} {w w' : World} {os : List Obj1} (h : Objs w os) (hK : Keeps S w w') (hS : ∀ (i : Nat) (o : Obj1) (k : Nat), os[i]? = some o → o.1.ownBlock = some k → ¬ S k) : Objs w' os :=
  ⟨fun i o ho => owns_kept (h.own i o ho) hK fun k hk => hS i o k ho hk, h.dis⟩
/-- One of them has grown or was written. -/
theorem Objs.set {w W : World} {os : List Obj1} (h : Objs w os) {i : Nat} {v v' : Value} {e : TypeId} {xs ys : List Value} (hi : os[i]? = some (v, e, xs)) (hown : W.ownsRow 0 e 1 v' ys.length ys)
    (hfr : v'.ownBlock = v.ownBlock ∨ ∃ k, v'.ownBlock = some k ∧ w.heap.size ≤ k) (hK : Keeps (fun k => some k = v.ownBlock) w W) : Objs W (os.set i (v', e, ys)) := by
  have hil := (List.getElem?_eq_some_iff.1 hi).1
  have key : ∀ (j : Nat) (o : Obj1), (os.set i (v', e, ys))[j]? = some o → (j = i ∧ o = (v', e, ys)) ∨ (j ≠ i ∧ os[j]? = some o) := by
    intro j o ho
    by_cases hj : i = j
    · subst hj
      rw [List.getElem?_set_self hil] at ho
      exact .inl ⟨rfl, (Option.some.inj ho).symm⟩
    · rw [List.getElem?_set_ne hj] at ho
      exact .inr ⟨fun e => hj e.symm, ho⟩
  have hne : ∀ (j : Nat) (o : Obj1) (k : Nat), j ≠ i → os[j]? = some o → o.1.ownBlock = some k → v'.ownBlock ≠ some k := by
    intro j o k hj ho hk
    rcases hfr with e1 | ⟨m, e1, hm⟩
    · rw [e1]; exact h.dis j i o _ k ho hi hj hk
    · rw [e1]; intro e2; cases e2; have := h.lt ho hk; omega
  refine ⟨fun j o ho => ?_, fun j l a b k ha hb hjl hk => ?_⟩
  · rcases key j o ho with ⟨_, rfl⟩ | ⟨hj, ho⟩
    · exact hown
    · exact owns_kept (h.own j o ho) hK fun k hk e => h.dis j i o _ k ho hi hj hk e.symm
  · rcases key j a ha with ⟨hj, rfl⟩ | ⟨hj, ha'⟩ <;> rcases key l b hb with ⟨hl, rfl⟩ | ⟨hl, hb'⟩
    · exact (hjl (by omega)).elim
    · intro e2; exact hne l b k hl hb' e2 hk
    · exact hne j a k hj ha' hk
    · exact h.dis j l a b k ha' hb' hjl hk
/-- One more, new or nil. -/
theorem Objs.push {w W : World} {os : List Obj1} (h : Objs w os) {v' : Value} {e : TypeId} {ys : List Value} (hown : W.ownsRow 0 e 1 v' ys.length ys)
    (hfr : ∀ k, v'.ownBlock = some k → w.heap.size ≤ k) (hK : Keeps (fun _ => False) w W) : Objs W (os ++ [(v', e, ys)]) := by
  have key : ∀ (j : Nat) (o : Obj1), (os ++ [(v', e, ys)])[j]? = some o → (j = os.length ∧ o = (v', e, ys)) ∨ (j < os.length ∧ os[j]? = some o) := by
    intro j o ho
    by_cases hj : j < os.length
    · rw [List.getElem?_append_left hj] at ho; exact .inr ⟨hj, ho⟩
    · rw [List.getElem?_append_right (by omega)] at ho
      have := (List.getElem?_eq_some_iff.1 ho).1
      simp at this
      have e1 : j = os.length := by omega
      subst e1
      simp at ho
      exact .inl ⟨rfl, ho.symm⟩
  have h' := h.kept hK fun _ _ _ _ _ e => e
  refine ⟨fun j o ho => ?_, fun j l a b k ha hb hjl hk => ?_⟩
  · rcases key j o ho with ⟨_, rfl⟩ | ⟨_, ho⟩
    · exact hown
    · exact h'.own j o ho
  · rcases key j a ha with ⟨hj, rfl⟩ | ⟨hj, ha'⟩ <;> rcases key l b hb with ⟨hl, rfl⟩ | ⟨hl, hb'⟩
    · exact (hjl (by omega)).elim
    · intro e2; have := hfr k hk; have := h.lt hb' e2; omega
    · intro e2; have := hfr k e2; have := h.lt ha' hk; omega
    · exact h.dis j l a b k ha' hb' hjl hk
/-- A cell of such a row is written. -/
theorem owns_set {w : World} {e : TypeId} {g n cap : Nat} {xs : List Value} (h : w.ownsRow 0 e 1 (.slice (some ⟨g, 0, none⟩) n cap) n xs) (j : Nat) (v : Value) (hj : j < n) : (w.setCell ⟨g, j, none⟩ v).ownsRow 0 e 1 (.slice (some ⟨g, 0, none⟩) n cap) n (xs.set j v) := by
  refine ⟨by rw [List.length_set]; exact h.1, ?_⟩
  rcases h.2 with ⟨h2, _⟩ | ⟨g', cap', cur, h2, hb, hg, h3, h4, h5, h6⟩
  · cases h2
  · cases h2
    have hB : Blk w g cur.toList e := by unfold Blk; rw [hg, Array.toArray_toList]
    have hS := hB.setCell j v
    refine .inr ⟨g, cap, (cur.toList.set j v).toArray, rfl, hb, hS, h3, h4, by simp; omega, ?_⟩
    rw [List.toList_toArray, ← h6, List.take_set]
theorem owns_blk {w : World} {e : TypeId} {g n cap : Nat} {xs : List Value} (h : w.ownsRow 0 e 1 (.slice (some ⟨g, 0, none⟩) n cap) n xs) : ∃ l, Blk w g l e ∧ l.take n = xs ∧ n ≤ l.length := by
  rcases h.2 with ⟨h2, _⟩ | ⟨g', cap', cur, h2, hb, hg, h3, h4, h5, h6⟩
  · cases h2
  · cases h2
    refine ⟨cur.toList, by unfold Blk; rw [hg, Array.toArray_toList], by simpa using h6, by simp; omega⟩

/-- append to a row that has no room: into a new block; the row stays. -/
theorem append_full {w : World} (t e : TypeId) (i : TypeInfo) (z : Value) (bytes : Nat) (ht : Try.prog.underlying t = some (.slice e)) (hi : Try.prog.info? e = some i) (hz : i.zero = some z)
    (hs : i.size = 1) (hb : i.bytes = bytes) (hzs : z.cells.size = 1) (v : Value) (n : Nat) (vs : List Value) (hown : w.ownsRow 0 e 1 v n vs) (hv : v = .slice none 0 0 ∨ ∃ g, v = .slice (some ⟨g, 0, none⟩) n n)
    (a : Addr) (m c : Nat) (news : List Value) (hl : news.length = m) (hm0 : 0 < m) (hnews : ∀ j u, news[j]? = some u → w.cell? (a.add j) = some u) (h1 : ∀ u ∈ news, u.oneCell' = true)
    (hm : n + m ≤ maxLen) (hbytes : (n + m) * bytes ≤ 140737488355328) :
    ∃ v' W', (∀ ty, (Builtin.append_ #[t, t] ty #[v, .slice (some a) m c]).run Try.prog w = .ok v' W') ∧ W'.ownsRow 0 e 1 v' (n + m) (vs ++ news) ∧ v'.ownBlock = some w.heap.size ∧ Keeps (fun _ => False) w W' := by
  obtain ⟨v', W', hr, ho, hfr, hK⟩ := append_many t e i z 1 bytes ht hi hz hs hb hzs (by omega) v n vs hown a m c news (by omega) hnews h1 hm hbytes
  have hbig : n + m ≤ 9223372036854775807 := by unfold maxLen at hm; omega
  rcases hv with rfl | ⟨g, rfl⟩
  · have hn0 : n = 0 := by rcases hown.2 with ⟨_, h⟩ | ⟨g, cap, cur, h, _⟩; exact h; cases h
    subst hn0
    have h2 := run_append_nil (P := Try.prog) w t 0 e i z ht hi hz a m c news (by rw [hs, hl]; omega) hnews (by omega) (by omega) (by rw [hb]; rw [Nat.zero_add] at hbytes; omega)
    rw [hr] at h2
    have e1 := (Result.ok.inj h2)
    refine ⟨v', W', hr, ho, by rw [e1.1]; rfl, ?_⟩
    rw [e1.2]
    exact ((Keeps.refl _ _).drew).alloc _
  · have h2 := run_append_grow (P := Try.prog) w t 0 e i z ht hi hz ⟨g, 0, none⟩ n n vs (by rw [hs]; exact hown.1) (hown.cells rfl) a m c news (by rw [hs, hl]; omega) hnews (by omega) (by omega) (by
      rw [hb]; exact growslice_fits (by omega) hbytes)
    rw [hr] at h2
    have e1 := (Result.ok.inj h2)
    refine ⟨v', W', hr, ho, by rw [e1.1]; rfl, ?_⟩
    rw [e1.2]
    exact ((Keeps.refl _ _).drew).alloc _
end Go.Proofs.Ytnkfdmlpjgmckaa
