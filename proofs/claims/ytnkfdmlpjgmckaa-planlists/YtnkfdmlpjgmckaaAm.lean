import Derived.Test.YtnkfdmlpjgmckaaAl
namespace Go.Proofs.Ytnkfdmlpjgmckaa
open Go.RowKit
set_option linter.unusedVariables false
set_option maxRecDepth 6000

/-- The rows: the first three were there, the others are new. -/
structure Ob3 (w0 : World) (S : Nat → Prop) (w : World) (os : List Obj1) : Prop where
  objs : Objs w os
  lo : ∀ (i : Nat) (o : Obj1) (k : Nat), 3 ≤ i → os[i]? = some o → o.1.ownBlock = some k → w0.heap.size ≤ k
  keeps : Keeps S w0 w
theorem Try.info35 : (Try.prog.info? 35).map (fun i => (i.zero, i.size, i.bytes)) = some (some (.slice none 0 0), 1, 24) := by kernel_rfl
/-- One more to a row that is new. -/
theorem Ob3.app1 {w0 w : World} {S : Nat → Prop} {os : List Obj1} (h : Ob3 w0 S w os) (t e : TypeId) (z : Value) (bytes : Nat) (ht : Try.prog.underlying t = some (.slice e)) (hinf : (Try.prog.info? e).map (fun i => (i.zero, i.size, i.bytes)) = some (some z, 1, bytes)) (hzs : z.cells.size = 1) (hby : bytes ≤ 24)
    {i : Nat} (h3 : 3 ≤ i) {v : Value} {xs : List Value} (hi : os[i]? = some (v, e, xs)) (x : Value) (hx : x.oneCell' = true) (hl : xs.length ≤ 1000) :
    ∃ v' W', (∀ ty, (Builtin.append_ #[t, t] ty #[v, .slice (some ⟨w.heap.size, 0, none⟩) 1 1]).run Try.prog (w.alloc (.cells #[x] e)) = .ok v' W') ∧ Ob3 w0 S W' (os.set i (v', e, xs ++ [x])) := by
  obtain ⟨i0, hi0, hz0, hz1, hz2⟩ := info_parts hinf
  have hb : (xs.length + 1) * bytes ≤ 1001 * 24 := Nat.mul_le_mul (by omega) hby
  obtain ⟨v', W', happ, hown, hfr, hK⟩ := append_new t e i0 z 1 bytes ht hi0 hz0 hz1 hz2 hzs (by omega) v xs.length xs (h.objs.own i _ hi) #[x] rfl (by simpa using hx) (by unfold maxLen; omega) (by omega)
  have hlo : ∀ k, v.ownBlock = some k → w0.heap.size ≤ k := fun k hk => h.lo i _ k h3 hi hk
  refine ⟨v', W', happ, h.objs.set hi (by simpa using hown) hfr hK, fun j o k hj ho hk => ?_, h.keeps.trans hK fun b hb e => ?_⟩
  · by_cases e : i = j
    · subst e
      rw [List.getElem?_set_self (List.getElem?_eq_some_iff.1 hi).1] at ho
      cases ho
      rcases hfr with e1 | ⟨m, e1, hm⟩
      · rw [e1] at hk; exact hlo k hk
      · dsimp only at hk; rw [e1] at hk; cases hk; exact Nat.le_trans h.keeps.size hm
    · rw [List.getElem?_set_ne e] at ho
      exact h.lo j o k hj ho hk
  · have := hlo b e.symm
    omega
/-- A row that is new. -/
theorem Ob3.push {w0 w W : World} {S : Nat → Prop} {os : List Obj1} (h : Ob3 w0 S w os) {v : Value} {e : TypeId} {ys : List Value} (hown : W.ownsRow 0 e 1 v ys.length ys) (hfr : ∀ k, v.ownBlock = some k → w.heap.size ≤ k) (hK : Keeps (fun _ => False) w W) : Ob3 w0 S W (os ++ [(v, e, ys)]) := by
  refine ⟨h.objs.push hown hfr hK, fun j o k hj ho hk => ?_, h.keeps.trans hK fun _ _ e => e.elim⟩
  by_cases hjl : j < os.length
  · rw [List.getElem?_append_left hjl] at ho
    exact h.lo j o k hj ho hk
  · rw [List.getElem?_append_right (by omega)] at ho
    have := (List.getElem?_eq_some_iff.1 ho).1
    simp at this
    have e1 : j - os.length = 0 := by omega
    rw [e1] at ho
    simp at ho
    subst ho
    exact Nat.le_trans h.keeps.size (hfr k hk)
/-- One more to a row that has no room. -/
theorem Ob3.full1 {w0 w : World} {S : Nat → Prop} {os : List Obj1} (h : Ob3 w0 S w os) {i : Nat} {v : Value} {xs : List Value} (hi : os[i]? = some (v, 3, xs)) (hv : v = .slice none 0 0 ∨ ∃ g, v = .slice (some ⟨g, 0, none⟩) xs.length xs.length) (x : Int) (hl : xs.length ≤ 1000) :
    ∃ v' W', (∀ ty, (Builtin.append_ #[35, 35] ty #[v, .slice (some ⟨w.heap.size, 0, none⟩) 1 1]).run Try.prog (w.alloc (.cells #[.int .i64 x] 3)) = .ok v' W') ∧ Ob3 w0 S W' (os ++ [(v', 3, xs ++ [.int .i64 x])]) := by
  obtain ⟨i0, hi0, hz0, hz1, hz2⟩ := info_parts Try.info3
  have hKa : Keeps (fun _ => False) w (w.alloc (.cells #[.int .i64 x] 3)) := (Keeps.refl _ _).alloc _
  have hB := Blk.new w #[.int .i64 x] 3
  obtain ⟨v', W', happ, hown, hfr, hK⟩ := append_full 35 3 i0 (.int .i64 0) 8 Try.underlying35 hi0 hz0 hz1 hz2 rfl v xs.length xs (owns_kept (h.objs.own i _ hi) hKa fun _ _ e => e) hv ⟨w.heap.size, 0, none⟩ 1 1 [.int .i64 x] rfl (by omega) (by
    intro j u hj
    rw [addr_add]
    exact hB.cell (by rw [Nat.zero_add]; exact hj)) (by simp; rfl) (by unfold maxLen; omega) (by omega)
  refine ⟨v', W', happ, h.push (by simpa using hown) (fun k hk => ?_) (hKa.trans hK fun _ _ e => e)⟩
  rw [hfr] at hk
  cases hk
  simp
/-- A row to one that has no room. -/
theorem Ob3.fullMany {w0 w : World} {S : Nat → Prop} {os : List Obj1} (h : Ob3 w0 S w os) {i j : Nat} {v : Value} {xs ys : List Value} {g c : Nat} (hi : os[i]? = some (v, 3, xs)) (hv : v = .slice none 0 0 ∨ ∃ g, v = .slice (some ⟨g, 0, none⟩) xs.length xs.length)
    (hj : os[j]? = some (.slice (some ⟨g, 0, none⟩) ys.length c, 3, ys)) (hy : ∀ u ∈ ys, u.oneCell' = true) (hl : xs.length ≤ 1000) (hl2 : ys.length ≤ 1000) (hl3 : 0 < ys.length) :
    ∃ v' W', (∀ ty, (Builtin.append_ #[35, 35] ty #[v, .slice (some ⟨g, 0, none⟩) ys.length c]).run Try.prog w = .ok v' W') ∧ Ob3 w0 S W' (os ++ [(v', 3, xs ++ ys)]) := by
  obtain ⟨i0, hi0, hz0, hz1, hz2⟩ := info_parts Try.info3
  obtain ⟨v', W', happ, hown, hfr, hK⟩ := append_full 35 3 i0 (.int .i64 0) 8 Try.underlying35 hi0 hz0 hz1 hz2 rfl v xs.length xs (h.objs.own i _ hi) hv ⟨g, 0, none⟩ ys.length c ys rfl hl3 ((h.objs.own j _ hj).cells rfl) hy (by unfold maxLen; omega) (by omega)
  refine ⟨v', W', happ, h.push (by simpa using hown) (fun k hk => ?_) hK⟩
  rw [hfr] at hk
  cases hk
  exact Nat.le_refl _
end Go.Proofs.Ytnkfdmlpjgmckaa
