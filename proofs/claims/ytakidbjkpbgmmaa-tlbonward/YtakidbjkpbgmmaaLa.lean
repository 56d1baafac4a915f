import Derived.Test.YtakidbjkpbgmmaaRe
namespace Go.Proofs.Ytakidbjkpbgmmaa
open Go.RowKit Go.Shelf
set_option linter.unusedVariables false

theorem flatL_cons (l : Lf) (r : List Lf) : flatL (l :: r) = .int .i64 l.p :: .int .i64 l.f :: .int .i64 l.r :: flatL r := by simp [flatL]
theorem flatL_set (xs : List Lf) (i : Nat) (l : Lf) (hi : i < xs.length) : (((flatL xs).set (i * 3) (.int .i64 l.p)).set (i * 3 + 1) (.int .i64 l.f)).set (i * 3 + 2) (.int .i64 l.r) = flatL (xs.set i l) := by
  induction xs generalizing i with
  | nil => simp at hi
  | cons x r ih =>
    cases i with
    | zero => simp [flatL_cons]
    | succ i =>
      have := ih i (by simpa using hi)
      rw [List.set_cons_succ, flatL_cons, flatL_cons, ← this, show (i + 1) * 3 = i * 3 + 1 + 1 + 1 by omega]
      simp
theorem Blk.setAt {w : World} {g : Nat} {xs : List Lf} (h : Blk w g (flatL xs) 38) {i : Nat} (hi : i < xs.length) (l : Lf) :
    Blk (((w.setCell ⟨g, i * 3, none⟩ (.int .i64 l.p)).setCell ⟨g, i * 3 + 1, none⟩ (.int .i64 l.f)).setCell ⟨g, i * 3 + 2, none⟩ (.int .i64 l.r)) g (flatL (xs.set i l)) 38 := by
  rw [← flatL_set xs i l hi]
  exact ((h.setCell _ _).setCell _ _).setCell _ _
theorem Keeps.setAt {S : Nat → Prop} {w w' : World} (h : Keeps S w w') (g i : Nat) (l : Lf) (hg : g < w.heap.size → S g) : Keeps S w (((w'.setCell ⟨g, i * 3, none⟩ (.int .i64 l.p)).setCell ⟨g, i * 3 + 1, none⟩ (.int .i64 l.f)).setCell ⟨g, i * 3 + 2, none⟩ (.int .i64 l.r)) :=
  ((h.setCell _ _ hg).setCell _ _ hg).setCell _ _ hg
theorem Blk.leafAt {w : World} {g : Nat} {xs : List Lf} (h : Blk w g (flatL xs) 38) {i : Nat} {l : Lf} (hi : xs[i]? = some l) : LeafAt w g (i * 3) l := by
  obtain ⟨h1, h2, h3⟩ := flatL_get xs i l hi
  exact ⟨h.cell h1, h.cell h2, h.cell h3⟩
theorem Blk.seg {w : World} {g : Nat} {xs : List Lf} (h : Blk w g (flatL xs) 38) : SegL w (some ⟨g, 0, none⟩) xs :=
  .inr ⟨g, 0, rfl, fun j l hj => by rw [Nat.zero_add]; exact h.leafAt hj⟩
theorem Blk.seg_append {w : World} {g : Nat} {xs ys : List Lf} (h : Blk w g (flatL (xs ++ ys)) 38) : SegL w (some ⟨g, 0, none⟩) xs :=
  .inr ⟨g, 0, rfl, fun j l hj => by
    rw [Nat.zero_add]
    exact h.leafAt (by rw [List.getElem?_append_left (List.getElem?_eq_some_iff.1 hj).1]; exact hj)⟩

theorem made_leaves (n : Nat) : madeCells (Value.agg #[.int .i64 0, .int .i64 0, .int .i64 0]).cells (n * 3) = (flatL (List.replicate n Lf.none)).toArray := by
  apply Array.ext'
  apply List.ext_getElem?
  intro i
  by_cases hi : i < n * 3
  · have e : i = i / 3 * 3 + i % 3 := by omega
    have h2 : (List.replicate n Lf.none)[i / 3]? = some Lf.none := by rw [List.getElem?_replicate, if_pos (by omega)]
    obtain ⟨h3, h4, h5⟩ := flatL_get _ _ _ h2
    have hm : i % 3 = 0 ∨ i % 3 = 1 ∨ i % 3 = 2 := by omega
    have h6 : (flatL (List.replicate n Lf.none))[i]? = some (.int .i64 0) := by
      rcases hm with h | h | h
      · rw [e, h]; exact h3
      · rw [e, h]; exact h4
      · rw [e, h]; exact h5
    rw [List.toList_toArray, h6]
    simp only [madeCells]
    rcases hm with h | h | h <;> simp [hi, h, Value.cells]
  · have h1 : (flatL (List.replicate n Lf.none))[i]? = none := by
      rw [List.getElem?_eq_none_iff, flatL_length]; simp; omega
    rw [List.toList_toArray, h1]
    simp [madeCells]
    omega

/-- make([]Leaf, n). -/
theorem make_full (w : World) (n : Nat) (hn : n ≤ 5864062014700) : ∃ W, (Instr.makeSlice 26 (.int .i64 n) (.int .i64 n)).run Try.prog w = .ok (.slice (some ⟨w.heap.size, 0, none⟩) n n) W ∧ Blk W w.heap.size (flatL (List.replicate n Lf.none)) 38 ∧ Keeps (fun _ => False) w W ∧ W.heap.size = w.heap.size + 1 := by
  obtain ⟨i0, hi, hz0, hz1, hz2⟩ := info_parts Try.info38
  have h := run_make (P := Try.prog) w 26 38 i0 _ Try.underlying26 hi hz0 .i64 .i64 n n (by omega) (by omega) (by rw [hz2]; omega) (by omega)
  rw [hz1] at h
  simp only [Int.toNat_natCast] at h
  rw [made_leaves] at h
  exact ⟨_, h, by have := Blk.new w (flatL (List.replicate n Lf.none)).toArray 38; simpa using this, (Keeps.refl _ w).alloc _, by simp⟩

set_option maxHeartbeats 1000000 in
theorem same_any (a b : Option Addr) (A B : List Lf) (ca cb : Nat) (w : World) (hla : A.length ≤ ca ∧ ca ≤ maxLen) (hlb : B.length ≤ cb ∧ cb ≤ maxLen) (ha : SegL w a A) (hb : SegL w b B) :
    Calls Try.prog 9 #[.slice a A.length ca, .slice b B.length cb] w fun r w' => r = .returned (.bool (decide (A = B))) ∧ Keeps (fun _ => False) w w' := by
  obtain ⟨n, hn⟩ : ∃ n, n = A.length := ⟨_, rfl⟩
  obtain ⟨m, hm⟩ : ∃ m, m = B.length := ⟨_, rfl⟩
  have HS : Hid (SegL w a A ∧ SegL w b B ∧ n = A.length ∧ m = B.length) := ⟨ha, hb, hn, hm⟩
  have hc1 : (n : Int) ≤ ca := by omega
  have hc2 : (ca : Int) ≤ 9223372036854775807 := by unfold maxLen at hla; omega
  have hc3 : (m : Int) ≤ cb := by omega
  have hc4 : (cb : Int) ≤ 9223372036854775807 := by unfold maxLen at hlb; omega
  rw [← hn, ← hm]
  clear hla hlb ha hb hn hm
  by_cases hnm : n = m
  · subst hnm
    go_enter Try.func9, Try.ntmps9
    go_wp2
    go_loopw [5] (fun i wr => ∃ j : Nat, j ≤ n ∧ i = .int .i64 j ∧ A.take j = B.take j ∧ Keeps (fun _ => False) w wr) (fun i _ => n - (intOf i).toNat)
    case atStart => exact ⟨0, by omega, rfl, by simp, Keeps.refl _ _⟩
    case round =>
      obtain ⟨j, hj, rfl, he, hK⟩ := hrel
      by_cases hlt : j < n
      · obtain ⟨x, hx⟩ : ∃ x, A[j]? = some x := ⟨_, List.getElem?_eq_getElem (by have := HS.out.2.2.1; omega)⟩
        obtain ⟨y, hy⟩ : ∃ y, B[j]? = some y := ⟨_, List.getElem?_eq_getElem (by have := HS.out.2.2.2; omega)⟩
        obtain ⟨g, o, rfl, hx3⟩ : ∃ g o, a = some ⟨g, o, none⟩ ∧ LeafAt w g (o + j * 3) x := by
          rcases HS.out.1 with h | ⟨g, o, ha, h⟩
          · rw [h] at hx; simp at hx
          · exact ⟨g, o, ha, h j x hx⟩
        obtain ⟨h, q, rfl, hy3⟩ : ∃ g o, b = some ⟨g, o, none⟩ ∧ LeafAt w g (o + j * 3) y := by
          rcases HS.out.2.1 with h | ⟨g, o, ha, h⟩
          · rw [h] at hy; simp at hy
          · exact ⟨g, o, ha, h j y hy⟩
        obtain ⟨x0, x1, x2⟩ := hx3.kept hK fun h => h
        obtain ⟨y0, y1, y2⟩ := hy3.kept hK fun h => h
        have hlt' : (j : Int) < n := by omega
        by_cases hxy : x = y
        · subst hxy
          have HE : Hid (A.take (j + 1) = B.take (j + 1) ∧ Keeps (fun _ => False) w wr) := ⟨by rw [List.take_add_one, List.take_add_one, hx, hy, he], hK⟩
          clear he hx hy hx3 hy3 hK
          go_wp2_with fail
          go_quiet (fail)
          go_wp2
          go_roundw
          case rel => exact ⟨j + 1, by omega, by go_num, HE.out.1, HE.out.2.drewN nq⟩
          case measure => simp [intOf]; omega
        · have hq : ∀ w' : World, (binOp .neq 38 x.v y.v).run Try.prog w' = .ok (.bool true) w' := fun w' => by rw [neq_leaf, decide_eq_false hxy]; rfl
          have HE : Hid (decide (A = B) = false ∧ Keeps (fun _ => False) w wr) := ⟨decide_eq_false fun e => hxy (by rw [e, hy] at hx; exact (Option.some.inj hx).symm), hK⟩
          clear he hx hy hx3 hy3 hK hxy
          go_wp2_with fail
          go_quiet (fail)
          go_wp2
          go_ret
          exact ⟨by rw [HE.out.1]; rfl, HE.out.2.drewN nq⟩
      · obtain rfl : j = n := by omega
        have HE : Hid (decide (A = B) = true ∧ Keeps (fun _ => False) w wr) := by
          rw [List.take_of_length_le (by have := HS.out.2.2.1; omega), List.take_of_length_le (by have := HS.out.2.2.2; omega)] at he
          exact ⟨decide_eq_true he, hK⟩
        clear he hK
        go_wp2
        go_ret
        exact ⟨by rw [HE.out.1]; rfl, HE.out.2⟩
  · have HE : Hid (decide (A = B) = false) := decide_eq_false fun e => hnm (by rw [HS.out.2.2.1, HS.out.2.2.2, e])
    have hnm' : ((n : Int) == (m : Int)) = false := by
      simp; omega
    go_enter Try.func9, Try.ntmps9
    go_wp2
    go_ret
    exact ⟨by rw [HE.out]; rfl, Keeps.refl _ _⟩

end Go.Proofs.Ytakidbjkpbgmmaa
