import Derived.Test.YtajhkilclmicjaaEg
namespace Go.Proofs.Ytajhkilclmicjaa
open Go.RowKit Go.Shelf
set_option linter.unusedVariables false
set_option linter.unusedSimpArgs false
set_option maxRecDepth 6000

theorem owns_zero {w : World} {e : TypeId} {size n m p : Nat} {a : Option Addr} {vs : List Value} (h : w.ownsRow 0 e size (.slice a m p) n vs) : ∀ x, a = some x → x.off = 0 := by
  rcases h.2 with ⟨e, _⟩ | ⟨g, cap, cur, e, _⟩
  · cases e
    intro x hx
    cases hx
  · cases e
    intro x hx
    cases hx
    rfl

theorem vast_not {a : Option Addr} {lls : List (List Int)} {cap : Nat} {w w1 : World} {c : Nat} {D : Nat → Prop} {Q : World → Prop} {R1 : Option Addr → Nat → World → Prop} (hs : SegL w1 a lls) (hm : (lls.length : Int) ≤ 9223372036854775807) (hQ : Q w1)
    (hR : lls.length ≤ 2147483647 → tot lls lls.length ≤ 2147483647 → ∀ a1 p1 w2, SegB w2 a1 lls w1.heap.size → Keeps (fun _ => False) w1 w2 → (∀ x, a1 = some x → x.off = 0) → R1 a1 p1 w2) :
    Calls Try.prog 29 #[.slice a lls.length cap] w1 fun r w2 => (r = .returned (.bool true) ∧ Q w2) ∨ (r = .returned (.bool false) ∧ w2 = w1 ∧
      Calls Try.prog 20 #[.slice a lls.length cap] w1 fun r w2 => ∃ a1 p1, r = .returned (.slice a1 lls.length p1) ∧ Keeps D w1 w2 ∧ R1 a1 p1 w2) := by
  refine (vast_any a lls cap w1 hs hm).mono ?_
  rintro r w2 ⟨⟨t, rfl, ht⟩, hw⟩
  obtain rfl := hw.symm
  cases t with
  | true => exact .inl ⟨rfl, hQ⟩
  | false =>
    obtain ⟨h1, h2⟩ := ht rfl
    refine .inr ⟨rfl, rfl, (copied_all a lls cap w1 hs h1 h2).mono ?_⟩
    rintro r w3 ⟨v, rows, rfl, hC⟩
    obtain ⟨a1, p1, rfl, hB⟩ := hC.segB h2
    exact ⟨a1, p1, rfl, hC.keeps.mono fun _ _ h => h.elim, hR h1 h2 a1 p1 w3 hB hC.keeps (owns_zero hC.own)⟩

theorem SegB.addr {w : World} {a : Option Addr} {lls : List (List Int)} {B : Nat} (h : SegB w a lls B) (h0 : lls ≠ []) : ∃ x, a = some x ∧ B ≤ x.block := by
  rcases h with h | ⟨g, o, e, hb, hc⟩
  · exact (h0 h).elim
  · exact ⟨_, e, hb⟩

section
variable {w : World} {c b : Nat} {st : Nat → List Int} {us : List Int} {D : Nat → Prop}

theorem one_any4_not (o z : Int) (a : Option Addr) (lls : List (List Int)) (cap : Nat) (h : PrS w c b st us D) (hD : ∀ k, D k → k < w.heap.size) (hL : ∀ w', Keeps D w w' → SegL w' a lls) (hm : (lls.length : Int) ≤ 9223372036854775807) (hM : ¬ MayL lls) :
    Calls Try.prog 11 #[ptr c, ptr b, .agg #[.int .i64 4, .int .i64 o, .int .i64 z, .slice a lls.length cap]] w fun r w' => r = .returned (.bool true) ∧ NowP w w' c b D := by
  have hr := h.rel
  have hN : ∀ w', Keeps (fun _ => False) w w' → NowP w w' c b D := fun w' hK => ((h.kept hK fun _ _ h => h).mid.done hr).base hK
  have hL' : ∀ w', Keeps (fun _ => False) w w' → SegL w' a lls := fun w' hK => hL w' (hK.mono fun _ _ h => h.elim)
  refine one_restore (ptr c) (ptr b) z o 71 a lls.length cap w D hD (fun a1 p1 w2 => Keeps (fun _ => False) w w2 ∧ SegL w2 a1 lls ∧ lls.length ≤ 2147483647) (fun a1 p1 w2 => Keeps (fun _ => False) w w2 ∧ SegL w2 a1 lls ∧ lls.length ≤ 2147483647) (fun a1 p1 w2 => Keeps (fun _ => False) w w2) _ ?_ ?_ ?_ ?_
  · intro w1 hK
    exact vast_not (w := w) (c := c) (hL' w1 hK) hm (hN w1 hK) fun l1 l2 a1 p1 w2 hB hK2 _ => ⟨hK.trans hK2 fun _ _ h => h, hB.segL, l1⟩
  · rintro a1 p1 w2 ⟨hK, hs, hl⟩
    refine (restore_not c a1 lls p1 w2 hs hM).mono ?_
    rintro r w3 ⟨rfl, rfl⟩
    exact ⟨rfl, Keeps.refl _ _, hK, hs, hl⟩
  · rintro a1 p1 w2 ⟨hK, hs, hl⟩
    refine (same_all a1 a lls p1 cap w2 hs (hL' w2 hK) (by omega)).mono ?_
    rintro r w3 ⟨rfl, hK3⟩
    exact ⟨rfl, hK3.mono fun _ _ h => h.elim, hK.trans hK3 fun _ _ h => h⟩
  · rintro a1 p1 w2 hK
    refine (restoreR_not b a lls cap w2 (hL' w2 hK) hM).mono ?_
    rintro r w3 ⟨rfl, rfl⟩
    exact ⟨rfl, hN _ hK⟩

/-- What both hold behind a Restore. -/
def laidS (lls : List (List Int)) : Nat → List Int := if lls.length = 4 then nth lls else fun _ => []
theorem rel_laid {lls : List (List Int)} (h : MayL lls) : Rel (laidS lls) lls.flatten := by
  unfold laidS
  rcases h.1 with e | e
  · have : lls = [] := List.eq_nil_of_length_eq_zero e
    subst this
    exact rel_none
  · rw [if_pos e]
    exact rel_restore h e

theorem restore_may (F : Nat → Prop) (a1 : Option Addr) (p1 : Nat) (lls : List (List Int)) (B : Nat) (w2 : World) (hC : Ca w2 c st F) (hs : SegB w2 a1 lls B) (h0 : ∀ x, a1 = some x → x.off = 0) (hF : ∀ k, F k → k < B) (hM : MayL lls) :
    Calls Try.prog 19 #[ptr c, .slice a1 lls.length p1] w2 fun r w' => r = .returned (.int .i64 0) ∧ NowC w2 w' c (laidS lls) F := by
  unfold laidS
  rcases hM.1 with e | e
  · rw [if_neg (by omega), e]
    exact restore_none c st F a1 p1 w2 hC
  · rw [if_pos e, e]
    obtain ⟨hg, h2⟩ := hM.good e
    obtain ⟨x, rfl, hx⟩ := hs.addr fun h => by rw [h] at e; simp at e
    obtain ⟨g, o, rfl, _⟩ : ∃ g o, x = ⟨g, o, none⟩ ∧ True := by
      rcases hs with h | ⟨g, o, e2, _⟩
      · rw [h] at e; simp at e
      · cases e2; exact ⟨_, _, rfl, trivial⟩
    have ho : o = 0 := h0 _ rfl
    subst ho
    obtain ⟨vs, hv⟩ : ∃ vs, ∀ w', Keeps F w2 w' → Lst w' g vs (nth lls) := by
      rcases hs with h | ⟨g', o', e2, hb, hc⟩
      · rw [h] at e; simp at e
      cases e2
      have hx : ∀ i, ∃ v, i < 4 → w2.cell? ⟨g, i, none⟩ = some v ∧ ∃ a c, v = .slice a (nth lls i).length c ∧ SegI w2 a (nth lls i) ∧ (nth lls i).length ≤ c ∧ ∀ y, a = some y → B ≤ y.block := fun i => by
        by_cases hi : i < 4
        · obtain ⟨x, c, h1, h2, h3, h4, h5⟩ := hc i (nth lls i) (nth_some (by omega))
          rw [Nat.zero_add] at h1
          exact ⟨_, fun _ => ⟨h1, x, c, rfl, h2, h3, h5⟩⟩
        · exact ⟨undef, fun h => (hi h).elim⟩
      obtain ⟨vs, hv⟩ := Classical.axiomOfChoice hx
      refine ⟨vs, fun w' hK => ⟨fun i hi => cell_kept (hv i hi).1 hK fun (h : F g) => by have := hF g h; omega, fun i hi => ?_⟩⟩
      obtain ⟨_, a, c, h1, h2, h3, h4⟩ := hv i hi
      exact ⟨a, c, h1, h2.kept hK fun y hy hf => by have := hF _ hf; have := h4 y hy; omega, h3⟩
    exact restore_any c st F g vs (nth lls) p1 w2 hC hv h2 hg

theorem one_any4_may (o z : Int) (a : Option Addr) (lls : List (List Int)) (cap : Nat) (h : PrS w c b st us D) (hD : ∀ k, D k → k < w.heap.size) (hL : ∀ w', Keeps D w w' → SegL w' a lls) (hm : (lls.length : Int) ≤ 9223372036854775807) (hM : MayL lls) :
    Calls Try.prog 11 #[ptr c, ptr b, .agg #[.int .i64 4, .int .i64 o, .int .i64 z, .slice a lls.length cap]] w fun r w' => r = .returned (.bool true) ∧ NowP w w' c b D := by
  have hr := h.rel
  have hN : ∀ w', Keeps (fun _ => False) w w' → NowP w w' c b D := fun w' hK => ((h.kept hK fun _ _ h => h).mid.done hr).base hK
  have hL' : ∀ w', Keeps (fun _ => False) w w' → SegL w' a lls := fun w' hK => hL w' (hK.mono fun _ _ h => h.elim)
  refine one_restore (ptr c) (ptr b) z o 0 a lls.length cap w D hD (fun a1 p1 w2 => Keeps (fun _ => False) w w2 ∧ SegB w2 a1 lls w.heap.size ∧ lls.length ≤ 2147483647 ∧ ∀ x, a1 = some x → x.off = 0)
    (fun a1 p1 w3 => ∃ w2, Keeps (fun _ => False) w w2 ∧ Mid w2 w3 c b (laidS lls) us D ∧ SegB w3 a1 lls w.heap.size ∧ lls.length ≤ 2147483647) (fun a1 p1 w4 => ∃ w2, Keeps (fun _ => False) w w2 ∧ Mid w2 w4 c b (laidS lls) us D) _ ?_ ?_ ?_ ?_
  · intro w1 hK
    exact vast_not (w := w) (c := c) (hL' w1 hK) hm (hN w1 hK) fun l1 l2 a1 p1 w2 hB hK2 h0 => ⟨hK.trans hK2 fun _ _ h => h, by
      rcases hB with h | ⟨g, o, e, hb, hc⟩
      · exact .inl h
      · refine .inr ⟨g, o, e, Nat.le_trans hK.size hb, fun j l hl => ?_⟩
        obtain ⟨x, c, h1, h2, h3, h4, h5⟩ := hc j l hl
        exact ⟨x, c, h1, h2, h3, h4, fun y hy => Nat.le_trans hK.size (h5 y hy)⟩, l1, h0⟩
  · rintro a1 p1 w2 ⟨hK, hs, hl, h0⟩
    have hp := h.kept hK fun _ _ h => h
    refine (hp.mid.left (st' := laidS lls) (R := fun r => r = .returned (.int .i64 0)) fun F1 hd hF => restore_may F1 a1 p1 lls w.heap.size w2 hF hs h0 (fun k hk => hD k (hd k hk)) hM).mono ?_
    rintro r w3 ⟨rfl, k1, k2⟩
    exact ⟨rfl, k1, w2, hK, k2, hs.kept k1 fun k hk => hD k hk, hl⟩
  · rintro a1 p1 w3 ⟨w2, hK, hMid, hs, hl⟩
    refine (same_all a1 a lls p1 cap w3 hs.segL (hL w3 ((hK.mono fun _ _ h => h.elim).trans hMid.keeps fun _ _ h => h)) (by omega)).mono ?_
    rintro r w4 ⟨rfl, hK4⟩
    exact ⟨rfl, hK4.mono fun _ _ h => h.elim, w2, hK, hMid.kept hK4⟩
  · rintro a1 p1 w4 ⟨w2, hK, hMid⟩
    refine (hMid.right (us' := lls.flatten) (R := fun r => r = .returned (.int .i64 0)) fun u F2 hF => restoreR_may b us u F2 a lls cap w4 hF (hL w4 ((hK.mono fun _ _ h => h.elim).trans hMid.keeps fun _ _ h => h)) hM).mono ?_
    rintro r w5 ⟨rfl, hM5⟩
    exact ⟨rfl, (hM5.done (rel_laid hM)).base hK⟩

theorem one_any (d o z : Int) (a : Option Addr) (lls : List (List Int)) (cap : Nat) (h : Pr w c b D) (hL : ∀ w', Keeps D w w' → SegL w' a lls) (hm : (lls.length : Int) ≤ 9223372036854775807) :
    Calls Try.prog 11 #[ptr c, ptr b, .agg #[.int .i64 d, .int .i64 o, .int .i64 z, .slice a lls.length cap]] w fun r w' => r = .returned (.bool true) ∧ NowP w w' c b D := by
  obtain ⟨st, us, hs⟩ := h
  have hD : ∀ k, D k → k < w.heap.size := by
    obtain ⟨hr, u, F1, F2, h1, h2, h3, h4, h5, h6⟩ := hs
    exact h6
  by_cases h0 : d = 0
  · subst h0; exact one_any0 o z a _ cap hs hD
  by_cases h1 : d = 1
  · subst h1; exact one_any1 o z a _ cap hs hD
  by_cases h2 : d = 2
  · subst h2; exact one_any2 o z a _ cap hs
  by_cases h4 : d = 4
  · subst h4
    by_cases hM : MayL lls
    · exact one_any4_may o z a lls cap hs hD hL hm hM
    · exact one_any4_not o z a lls cap hs hD hL hm hM
  · exact one_any3 d o z a _ cap hs h0 h1 h2 h4
end


/-! ### No caches -/
theorem one_nil (d o z : Int) (a : Option Addr) (lls : List (List Int)) (cap : Nat) (w : World) (hL : SegL w a lls) (hm : (lls.length : Int) ≤ 9223372036854775807) :
    Calls Try.prog 11 #[.pointer none, .pointer none, .agg #[.int .i64 d, .int .i64 o, .int .i64 z, .slice a lls.length cap]] w fun r w' => r = .returned (.bool true) ∧ Keeps (fun _ => False) w w' := by
  by_cases h0 : d = 0
  · subst h0
    refine one_touch (.pointer none) (.pointer none) z o 0 3 a _ cap w (fun _ => False) (fun w2 => Keeps (fun _ => False) w w2) _ (fun _ h => h.elim) ?_ ?_
    · intro w1 hK
      refine (touch_nil z w1).mono ?_
      rintro r w2 ⟨rfl, rfl⟩
      exact ⟨rfl, Keeps.refl _ _, hK⟩
    · intro w2 hK
      refine (touchR_nil z w2).mono ?_
      rintro r w3 ⟨rfl, rfl⟩
      exact ⟨rfl, hK⟩
  by_cases h1 : d = 1
  · subst h1
    refine one_holds (.pointer none) (.pointer none) z o false a _ cap w (fun _ => False) (fun w2 => Keeps (fun _ => False) w w2) _ (fun _ h => h.elim) ?_ ?_
    · intro w1 hK
      refine (holds_nil z w1).mono ?_
      rintro r w2 ⟨rfl, rfl⟩
      exact ⟨rfl, Keeps.refl _ _, hK⟩
    · intro w2 hK
      refine (holdsR_nil z w2).mono ?_
      rintro r w3 ⟨rfl, rfl⟩
      exact ⟨rfl, hK⟩
  by_cases h2 : d = 2
  · subst h2
    refine one_flush (.pointer none) (.pointer none) z o a _ cap w (fun w2 => Keeps (fun _ => False) w w2) _ ?_ ?_
    · intro w1 hK
      refine (flush_nil w1).mono ?_
      rintro r w2 ⟨rfl, rfl⟩
      exact ⟨rfl, hK⟩
    · intro w2 hK
      refine (flushR_nil w2).mono ?_
      rintro r w3 ⟨rfl, rfl⟩
      exact ⟨rfl, hK⟩
  by_cases h4 : d = 4
  · subst h4
    refine one_restore (.pointer none) (.pointer none) z o 3 a lls.length cap w (fun _ => False) (fun _ h => h.elim) (fun a1 p1 w2 => Keeps (fun _ => False) w w2 ∧ SegL w2 a1 lls ∧ lls.length ≤ 2147483647) (fun a1 p1 w2 => Keeps (fun _ => False) w w2 ∧ SegL w2 a1 lls ∧ lls.length ≤ 2147483647) (fun a1 p1 w2 => Keeps (fun _ => False) w w2) _ ?_ ?_ ?_ ?_
    · intro w1 hK
      exact vast_not (w := w) (c := 0) (hL.kept hK) hm hK fun l1 l2 a1 p1 w2 hB hK2 _ => ⟨hK.trans hK2 fun _ _ h => h, hB.segL, l1⟩
    · rintro a1 p1 w2 ⟨hK, hs, hl⟩
      refine (restore_nil _ w2).mono ?_
      rintro r w3 ⟨rfl, rfl⟩
      exact ⟨rfl, Keeps.refl _ _, hK, hs, hl⟩
    · rintro a1 p1 w2 ⟨hK, hs, hl⟩
      refine (same_all a1 a lls p1 cap w2 hs (hL.kept hK) (by omega)).mono ?_
      rintro r w3 ⟨rfl, hK3⟩
      exact ⟨rfl, hK3, hK.trans hK3 fun _ _ h => h⟩
    · rintro a1 p1 w2 hK
      refine (restoreR_nil _ w2).mono ?_
      rintro r w3 ⟨rfl, rfl⟩
      exact ⟨rfl, hK⟩
  · refine one_lines (.pointer none) (.pointer none) d z o 0 a _ cap w (fun a1 p1 w2 => Keeps (fun _ => False) w w2) (fun a1 p1 a2 p2 w3 => Keeps (fun _ => False) w w3) _ h0 h1 h2 h4 ?_ ?_ ?_
    · intro w1 hK
      refine (lines_nil w1).mono ?_
      rintro r w2 ⟨rfl, rfl⟩
      exact ⟨_, _, rfl, hK⟩
    · rintro a1 p1 w2 hK
      refine (linesR_nil w2).mono ?_
      rintro r w3 ⟨rfl, rfl⟩
      exact ⟨_, _, rfl, hK⟩
    · rintro a1 p1 a2 p2 w3 hK
      refine (same_all a1 a2 [] p1 p2 w3 (.inl rfl) (.inl rfl) (by simp)).mono ?_
      rintro r w4 ⟨rfl, hK4⟩
      exact ⟨rfl, hK.trans hK4 fun _ _ h => h⟩

end Go.Proofs.Ytajhkilclmicjaa
