import Derived.Test.YtadhldpeklkcmaaSf
namespace Go.Proofs.Ytadhldpeklkcmaa
open Go.RowKit
set_option linter.unusedVariables false

theorem Sep.upd2 {w w' : World} {N : Nat} {F F' : Nat → Nat → Prop} (h : Sep w N F) (i : Nat) (hi : ∀ k, F' i k → F i k ∨ (N ≤ k ∧ ∀ j, ¬ F j k)) (hl : ∀ k, F' i k → k < w'.heap.size)
    (ho : ∀ j, j ≠ i → ∀ k, F' j k → F j k) (hs : w.heap.size ≤ w'.heap.size) : Sep w' N F' := by
  have key : ∀ a k, F' a k → a ≠ i → ∀ (hk : F' i k), False := fun a k ha hne hk => by
    have h1 := ho a hne k ha
    rcases hi k hk with h2 | ⟨-, h2⟩
    · exact hne (h.one a i k h1 h2)
    · exact h2 a h1
  refine ⟨fun a b k ha hb => ?_, fun a k ha => ?_, fun a k ha => ?_⟩
  · by_cases ea : a = i
    · by_cases eb : b = i
      · rw [ea, eb]
      · subst ea; exact (key b k hb eb ha).elim
    · by_cases eb : b = i
      · subst eb; exact (key a k ha ea hb).elim
      · exact h.one a b k (ho a ea k ha) (ho b eb k hb)
  · by_cases ea : a = i
    · subst ea; exact hl k ha
    · exact Nat.lt_of_lt_of_le (h.lt a k (ho a ea k ha)) hs
  · by_cases ea : a = i
    · subst ea
      rcases hi k ha with h2 | ⟨h2, -⟩
      · exact h.ge a k h2
      · exact h2
    · exact h.ge a k (ho a ea k ha)

theorem Sep.perm {w : World} {N : Nat} {F F' : Nat → Nat → Prop} (h : Sep w N F) (s : Nat → Nat) (hs : ∀ a b, s a = s b → a = b) (hF : ∀ a k, F' a k → F (s a) k) : Sep w N F' :=
  ⟨fun a b k ha hb => hs a b (h.one _ _ k (hF a k ha) (hF b k hb)), fun a k ha => h.lt _ k (hF a k ha), fun a k ha => h.ge _ k (hF a k ha)⟩

theorem cget_app {Cs : List Chn} {j : Nat} {C D : Chn} (h : (Cs ++ [C])[j]? = some D) : (j = Cs.length ∧ D = C) ∨ Cs[j]? = some D := by
  by_cases e : j < Cs.length
  · rw [List.getElem?_append_left e] at h; exact .inr h
  · rw [List.getElem?_append_right (by omega)] at h
    have := (List.getElem?_eq_some_iff.1 h).1
    simp at this
    have e1 : j = Cs.length := by omega
    subst e1
    simp at h
    exact .inl ⟨rfl, h.symm⟩

/-- A pair of chains more. -/
theorem Pst.Ok.push {p : Pst} {N : Nat} {w w1 w2 w' : World} (h : p.Ok N w) {X Y : Chn} {lv' : Value} (hX : X.In w') (hXl : X.lk.length ≤ 2147483647) (hY : Y.Rn w') (h1 : w.heap.size ≤ w1.heap.size) (h2 : w1.heap.size ≤ w2.heap.size) (h3 : w2.heap.size ≤ w'.heap.size)
    (hXf : ∀ k, X.F k → w.heap.size ≤ k ∧ k < w1.heap.size) (hYf : ∀ k, Y.F k → w1.heap.size ≤ k ∧ k < w2.heap.size) (hr : w'.ownsRow 0 84 2 lv' (p.Xs.length + 1) (pvs p.Xs p.Ys ++ [.pointer (some ⟨X.b, 0, none⟩), .pointer (some ⟨Y.b, 0, none⟩)]))
    (hf : lv'.ownBlock = p.lv.ownBlock ∨ ∃ k, lv'.ownBlock = some k ∧ w2.heap.size ≤ k) (hB : Blk w' p.WB (p.cells.set 4 lv') 41) (hK : Keeps (fun k => k = p.WB ∨ some k = p.lv.ownBlock) w w') :
    Pst.Ok { p with lv := lv', Xs := p.Xs ++ [X], Ys := p.Ys ++ [Y] } N w' := by
  have hS : ∀ k, (k = p.WB ∨ some k = p.lv.ownBlock) → p.F 0 k ∨ p.F 5 k := fun k e => e.elim (fun e => .inl (Pst.f0 e)) fun e => .inr (Pst.f5 e.symm)
  have o : ∀ c, c ≠ 0 → c ≠ 5 → ∀ k, p.F c k → ¬ (k = p.WB ∨ some k = p.lv.ownBlock) := fun c hc hc' => h.out hS hc hc'
  refine ⟨hB, h.m1.kept hK (o 1 (by omega) (by omega) _ (Pst.f1 (.inl rfl))) (o 1 (by omega) (by omega) _ (Pst.f1 (.inr rfl))), h.r1.kept hK (o 2 (by omega) (by omega) _ (Pst.f2 (.inl rfl))) (o 2 (by omega) (by omega) _ (Pst.f2 (.inr rfl))), h.m2.kept hK (o 3 (by omega) (by omega) _ (Pst.f3 (.inl rfl))) (o 3 (by omega) (by omega) _ (Pst.f3 (.inr rfl))), h.r2.kept hK (o 4 (by omega) (by omega) _ (Pst.f4 (.inl rfl))) (o 4 (by omega) (by omega) _ (Pst.f4 (.inr rfl))), ?_, by simp [h.len],
    fun j D hD => ?_, fun j D hD => ?_, h.bk.kept hK fun k hk => o 6 (by omega) (by omega) k (Pst.f6 hk), ?_, Nat.le_trans h.low hK.size⟩
  · show w'.ownsRow 0 84 2 lv' (p.Xs ++ [X]).length (pvs (p.Xs ++ [X]) (p.Ys ++ [Y]))
    rw [pvs_app _ _ _ _ h.len.symm, List.length_append]
    exact hr
  · rcases cget_app hD with ⟨-, rfl⟩ | hD
    · exact ⟨hX, hXl⟩
    · exact ⟨(h.cx j D hD).1.kept hK fun k hk => o (2 * j + 7) (by omega) (by omega) k (Pst.fX hD hk), (h.cx j D hD).2⟩
  · rcases cget_app hD with ⟨-, rfl⟩ | hD
    · exact hY
    · exact (h.cy j D hD).kept hK fun k hk => o (2 * j + 8) (by omega) (by omega) k (Pst.fY hD hk)
  · have s1 : Sep w1 N (Pst.F { p with Xs := p.Xs ++ [X] }) := by
      refine h.sep.upd (2 * p.Xs.length + 7) ?_ ?_ ?_ h1 h.low
      · rintro k (⟨e, -⟩ | ⟨e, -⟩ | ⟨e, -⟩ | ⟨e, -⟩ | ⟨e, -⟩ | ⟨e, -⟩ | ⟨e, -⟩ | ⟨j, D, hD, e, hk⟩ | ⟨j, D, hD, e, hk⟩)
        all_goals first | omega | skip
        have : j = p.Xs.length := by omega
        subst this
        rcases cget_app hD with ⟨-, rfl⟩ | hD
        · exact .inr (hXf k hk).1
        · exact .inl (Pst.fX hD hk)
      · rintro k (⟨e, -⟩ | ⟨e, -⟩ | ⟨e, -⟩ | ⟨e, -⟩ | ⟨e, -⟩ | ⟨e, -⟩ | ⟨e, -⟩ | ⟨j, D, hD, e, hk⟩ | ⟨j, D, hD, e, hk⟩)
        all_goals first | omega | skip
        have : j = p.Xs.length := by omega
        subst this
        rcases cget_app hD with ⟨-, rfl⟩ | hD
        · exact (hXf k hk).2
        · have := (List.getElem?_eq_some_iff.1 hD).1; omega
      · rintro c hc' k (e | e | e | e | e | e | e | ⟨j, D, hD, e, hk⟩ | e)
        · exact .inl e
        · exact .inr (.inl e)
        · exact .inr (.inr (.inl e))
        · exact .inr (.inr (.inr (.inl e)))
        · exact .inr (.inr (.inr (.inr (.inl e))))
        · exact .inr (.inr (.inr (.inr (.inr (.inl e)))))
        · exact .inr (.inr (.inr (.inr (.inr (.inr (.inl e))))))
        · rcases cget_app hD with ⟨rfl, -⟩ | hD
          · exact (hc' e).elim
          · rw [e]; exact Pst.fX hD hk
        · exact .inr (.inr (.inr (.inr (.inr (.inr (.inr (.inr e)))))))
    have s2 : Sep w2 N (Pst.F { p with Xs := p.Xs ++ [X], Ys := p.Ys ++ [Y] }) := by
      refine s1.upd (2 * p.Ys.length + 8) ?_ ?_ ?_ h2 (Nat.le_trans h.low h1)
      · rintro k (⟨e, -⟩ | ⟨e, -⟩ | ⟨e, -⟩ | ⟨e, -⟩ | ⟨e, -⟩ | ⟨e, -⟩ | ⟨e, -⟩ | ⟨j, D, hD, e, hk⟩ | ⟨j, D, hD, e, hk⟩)
        all_goals first | omega | skip
        have : j = p.Ys.length := by omega
        subst this
        rcases cget_app hD with ⟨-, rfl⟩ | hD
        · exact .inr (hYf k hk).1
        · exact .inl (Pst.fY (p := { p with Xs := p.Xs ++ [X] }) hD hk)
      · rintro k (⟨e, -⟩ | ⟨e, -⟩ | ⟨e, -⟩ | ⟨e, -⟩ | ⟨e, -⟩ | ⟨e, -⟩ | ⟨e, -⟩ | ⟨j, D, hD, e, hk⟩ | ⟨j, D, hD, e, hk⟩)
        all_goals first | omega | skip
        have : j = p.Ys.length := by omega
        subst this
        rcases cget_app hD with ⟨-, rfl⟩ | hD
        · exact (hYf k hk).2
        · have := (List.getElem?_eq_some_iff.1 hD).1; omega
      · rintro c hc' k (e | e | e | e | e | e | e | e | ⟨j, D, hD, e, hk⟩)
        · exact .inl e
        · exact .inr (.inl e)
        · exact .inr (.inr (.inl e))
        · exact .inr (.inr (.inr (.inl e)))
        · exact .inr (.inr (.inr (.inr (.inl e))))
        · exact .inr (.inr (.inr (.inr (.inr (.inl e)))))
        · exact .inr (.inr (.inr (.inr (.inr (.inr (.inl e))))))
        · exact .inr (.inr (.inr (.inr (.inr (.inr (.inr (.inl e)))))))
        · rcases cget_app hD with ⟨rfl, -⟩ | hD
          · exact (hc' e).elim
          · rw [e]; exact Pst.fY (p := { p with Xs := p.Xs ++ [X] }) hD hk
    refine s2.upd 5 ?_ ?_ ?_ h3 (Nat.le_trans h.low (Nat.le_trans h1 h2))
    · rintro k (⟨e, -⟩ | ⟨e, -⟩ | ⟨e, -⟩ | ⟨e, -⟩ | ⟨e, -⟩ | ⟨-, hk⟩ | ⟨e, -⟩ | ⟨j, D, hD, e, hk⟩ | ⟨j, D, hD, e, hk⟩)
      all_goals first | omega | skip
      have hk : lv'.ownBlock = some k := hk
      rcases hf with e | ⟨b, e, hb⟩
      · exact .inl (Pst.f5 (by rw [← hk, e]))
      · rw [e] at hk; cases hk; exact .inr hb
    · rintro k (⟨e, -⟩ | ⟨e, -⟩ | ⟨e, -⟩ | ⟨e, -⟩ | ⟨e, -⟩ | ⟨-, hk⟩ | ⟨e, -⟩ | ⟨j, D, hD, e, hk⟩ | ⟨j, D, hD, e, hk⟩)
      all_goals first | omega | skip
      exact owns_lt hr hk
    · rintro c hc' k (e | e | e | e | e | e | e | e | e)
      · exact .inl e
      · exact .inr (.inl e)
      · exact .inr (.inr (.inl e))
      · exact .inr (.inr (.inr (.inl e)))
      · exact .inr (.inr (.inr (.inr (.inl e))))
      · exact (hc' e.1).elim
      · exact .inr (.inr (.inr (.inr (.inr (.inr (.inl e))))))
      · exact .inr (.inr (.inr (.inr (.inr (.inr (.inr (.inl e)))))))
      · exact .inr (.inr (.inr (.inr (.inr (.inr (.inr (.inr e)))))))

theorem eget_app {es : List Ent} {j : Nat} {e f : Ent} (h : (es ++ [e])[j]? = some f) : (j = es.length ∧ f = e) ∨ (j < es.length ∧ es[j]? = some f) := by
  by_cases hj : j < es.length
  · rw [List.getElem?_append_left hj] at h; exact .inr ⟨hj, h⟩
  · rw [List.getElem?_append_right (by omega)] at h
    have := (List.getElem?_eq_some_iff.1 h).1
    simp at this
    have e1 : j = es.length := by omega
    subst e1
    simp at h
    exact .inl ⟨rfl, h.symm⟩

/-- A list more in the book. -/
theorem Pst.Ok.book {p : Pst} {N : Nat} {w w' : World} (h : p.Ok N w) {al : Option Addr} {cl : Nat} {ts : List UInt32} (hl : w.ownsRow 0 26 1 (.slice al ts.length cl) ts.length (wvs ts)) (hts : ts.length ≤ 4294967296) (hfr : ∀ k, (Value.slice al ts.length cl).ownBlock = some k → N ≤ k ∧ ∀ c, ¬ p.F c k)
    {kv' : Value} {wa : Option Addr} {wc : Nat} (hB : Blk w' p.WB (p.cells.set 5 kv') 41) (hr : w'.ownsRow 0 105 4 kv' (p.es.length + 1) (evs p.es ++ [.slice al ts.length cl, .slice wa ts.length wc, .slice none 0 0, .slice none 0 0])) (hw : w'.ownsRow 0 26 1 (.slice wa ts.length wc) ts.length (wvs ts))
    (hwf : ∀ k, (Value.slice wa ts.length wc).ownBlock = some k → w.heap.size ≤ k ∧ kv'.ownBlock ≠ some k) (hkf : kv'.ownBlock = p.kv.ownBlock ∨ ∃ k, kv'.ownBlock = some k ∧ w.heap.size ≤ k) (hK : Keeps (fun k => k = p.WB ∨ some k = p.kv.ownBlock) w w') :
    Pst.Ok { p with kv := kv', es := p.es ++ [⟨al, cl, ts, wa, wc⟩] } N w' := by
  have hS : ∀ k, (k = p.WB ∨ some k = p.kv.ownBlock) → p.F 0 k ∨ p.F 6 k := fun k e => e.elim (fun e => .inl (Pst.f0 e)) fun e => .inr (Pst.f6 (.inl e.symm))
  have o : ∀ c, c ≠ 0 → c ≠ 6 → ∀ k, p.F c k → ¬ (k = p.WB ∨ some k = p.kv.ownBlock) := fun c hc hc' => h.out hS hc hc'
  have o6 : ∀ (i : Nat) (e : Ent) (k : Nat), p.es[i]? = some e → (e.lv.ownBlock = some k ∨ e.wv.ownBlock = some k) → ¬ (k = p.WB ∨ some k = p.kv.ownBlock) := by
    rintro i e k he hk (e2 | e2)
    · have := h.sep.one 0 6 k (Pst.f0 e2) (Pst.f6 (.inr ⟨i, e, he, hk⟩)); omega
    · rcases hk with hk | hk
      · exact h.bk.rowl i e k he hk e2.symm
      · exact h.bk.rowq i e k he hk e2.symm
  have hlk : ∀ k, (Value.slice al ts.length cl).ownBlock = some k → ¬ (k = p.WB ∨ some k = p.kv.ownBlock) := by
    rintro k hk (e2 | e2)
    · exact (hfr k hk).2 0 (Pst.f0 e2)
    · exact (hfr k hk).2 6 (Pst.f6 (.inl e2.symm))
  have hnew : ∀ k, k < w.heap.size → p.kv.ownBlock ≠ some k → kv'.ownBlock ≠ some k := by
    intro k hk hne e2
    rcases hkf with e | ⟨b, e, hb⟩
    · exact hne (by rw [← e]; exact e2)
    · rw [e] at e2; cases e2; omega
  refine ⟨hB, h.m1.kept hK (o 1 (by omega) (by omega) _ (Pst.f1 (.inl rfl))) (o 1 (by omega) (by omega) _ (Pst.f1 (.inr rfl))), h.r1.kept hK (o 2 (by omega) (by omega) _ (Pst.f2 (.inl rfl))) (o 2 (by omega) (by omega) _ (Pst.f2 (.inr rfl))), h.m2.kept hK (o 3 (by omega) (by omega) _ (Pst.f3 (.inl rfl))) (o 3 (by omega) (by omega) _ (Pst.f3 (.inr rfl))), h.r2.kept hK (o 4 (by omega) (by omega) _ (Pst.f4 (.inl rfl))) (o 4 (by omega) (by omega) _ (Pst.f4 (.inr rfl))), owns_kept h.row hK fun k hk => o 5 (by omega) (by omega) k (Pst.f5 hk), h.len,
    fun j D hD => ⟨(h.cx j D hD).1.kept hK fun k hk => o (2 * j + 7) (by omega) (by omega) k (Pst.fX hD hk), (h.cx j D hD).2⟩, fun j D hD => (h.cy j D hD).kept hK fun k hk => o (2 * j + 8) (by omega) (by omega) k (Pst.fY hD hk), ⟨?_, fun i e he => ?_, fun i e he => ?_, fun i e he => ?_, fun i j e e2 k he he2 hij hk => ?_, fun i e k he hk => ?_, fun i e k he hk => ?_⟩, ?_, Nat.le_trans h.low hK.size⟩
  · show w'.ownsRow 0 105 4 kv' (p.es ++ [_]).length (evs (p.es ++ [_]))
    rw [evs_append, List.length_append]
    exact hr
  · rcases eget_app he with ⟨-, rfl⟩ | ⟨-, he⟩
    · exact owns_kept hl hK hlk
    · exact owns_kept (h.bk.l i e he) hK fun k hk => o6 i e k he (.inl hk)
  · rcases eget_app he with ⟨-, rfl⟩ | ⟨-, he⟩
    · exact hw
    · exact owns_kept (h.bk.q i e he) hK fun k hk => o6 i e k he (.inr hk)
  · rcases eget_app he with ⟨-, rfl⟩ | ⟨-, he⟩
    · exact hts
    · exact h.bk.len i e he
  · rcases eget_app he with ⟨hi, rfl⟩ | ⟨hi, he'⟩ <;> rcases eget_app he2 with ⟨hj, rfl⟩ | ⟨hj, he2'⟩
    · omega
    · intro e3; exact (hfr k hk).2 6 (Pst.f6 (.inr ⟨j, e2, he2', .inl e3⟩))
    · intro e3; exact (hfr k e3).2 6 (Pst.f6 (.inr ⟨i, e, he', .inl hk⟩))
    · exact h.bk.dis i j e e2 k he' he2' hij hk
  · rcases eget_app he with ⟨-, rfl⟩ | ⟨-, he⟩
    · exact hnew k (owns_lt hl hk) fun e2 => (hfr k hk).2 6 (Pst.f6 (.inl e2))
    · exact hnew k (owns_lt (h.bk.l i e he) hk) (h.bk.rowl i e k he hk)
  · rcases eget_app he with ⟨-, rfl⟩ | ⟨-, he⟩
    · exact (hwf k hk).2
    · exact hnew k (owns_lt (h.bk.q i e he) hk) (h.bk.rowq i e k he hk)
  · have hfresh : ∀ k, w.heap.size ≤ k → N ≤ k ∧ ∀ j, ¬ p.F j k := fun k hk => ⟨Nat.le_trans h.low hk, fun j hj => by have := h.sep.lt j k hj; omega⟩
    refine h.sep.upd2 6 ?_ ?_ ?_ hK.size
    · rintro k (⟨e, -⟩ | ⟨e, -⟩ | ⟨e, -⟩ | ⟨e, -⟩ | ⟨e, -⟩ | ⟨e, -⟩ | ⟨-, hk⟩ | ⟨j, D, hD, e, hk⟩ | ⟨j, D, hD, e, hk⟩)
      all_goals first | omega | skip
      rcases hk with hk | ⟨i, e, he, hk⟩
      · have hk : kv'.ownBlock = some k := hk
        rcases hkf with e | ⟨b, e, hb⟩
        · exact .inl (Pst.f6 (.inl (by rw [← hk, e])))
        · rw [e] at hk; cases hk; exact .inr (hfresh _ hb)
      · rcases eget_app he with ⟨-, rfl⟩ | ⟨-, he⟩
        · rcases hk with hk | hk
          · exact .inr (hfr k hk)
          · exact .inr (hfresh k (hwf k hk).1)
        · exact .inl (Pst.f6 (.inr ⟨i, e, he, hk⟩))
    · rintro k (⟨e, -⟩ | ⟨e, -⟩ | ⟨e, -⟩ | ⟨e, -⟩ | ⟨e, -⟩ | ⟨e, -⟩ | ⟨-, hk⟩ | ⟨j, D, hD, e, hk⟩ | ⟨j, D, hD, e, hk⟩)
      all_goals first | omega | skip
      rcases hk with hk | ⟨i, e, he, hk⟩
      · exact owns_lt hr hk
      · rcases eget_app he with ⟨-, rfl⟩ | ⟨-, he⟩
        · rcases hk with hk | hk
          · exact Nat.lt_of_lt_of_le (owns_lt hl hk) hK.size
          · exact owns_lt hw hk
        · exact Nat.lt_of_lt_of_le (h.bk.lt (.inr ⟨i, e, he, hk⟩)) hK.size
    · rintro c hc' k (e | e | e | e | e | e | e | e | e)
      · exact .inl e
      · exact .inr (.inl e)
      · exact .inr (.inr (.inl e))
      · exact .inr (.inr (.inr (.inl e)))
      · exact .inr (.inr (.inr (.inr (.inl e))))
      · exact .inr (.inr (.inr (.inr (.inr (.inl e)))))
      · exact (hc' e.1).elim
      · exact .inr (.inr (.inr (.inr (.inr (.inr (.inr (.inl e)))))))
      · exact .inr (.inr (.inr (.inr (.inr (.inr (.inr (.inr e)))))))

/-- The memories change places. -/
def Pst.swap (p : Pst) : Pst := { p with mb := p.mb2, g := p.g2, nb := p.nb2, h := p.h2, mb2 := p.mb, g2 := p.g, nb2 := p.nb, h2 := p.h, xs := p.ys, zs := p.us, ys := p.xs, us := p.zs }
theorem Pst.Ok.swap {p : Pst} {N : Nat} {w w' : World} (h : p.Ok N w) (hB : Blk w' p.WB p.swap.cells 41) (hK : Keeps (· = p.WB) w w') : p.swap.Ok N w' := by
  have hS : ∀ k, k = p.WB → p.F 0 k ∨ p.F 0 k := fun k e => .inl (Pst.f0 e)
  have o : ∀ c, c ≠ 0 → ∀ k, p.F c k → ¬ k = p.WB := fun c hc => h.out hS hc hc
  refine ⟨hB, h.m2.kept hK (o 3 (by omega) _ (Pst.f3 (.inl rfl))) (o 3 (by omega) _ (Pst.f3 (.inr rfl))), h.r2.kept hK (o 4 (by omega) _ (Pst.f4 (.inl rfl))) (o 4 (by omega) _ (Pst.f4 (.inr rfl))), h.m1.kept hK (o 1 (by omega) _ (Pst.f1 (.inl rfl))) (o 1 (by omega) _ (Pst.f1 (.inr rfl))), h.r1.kept hK (o 2 (by omega) _ (Pst.f2 (.inl rfl))) (o 2 (by omega) _ (Pst.f2 (.inr rfl))), owns_kept h.row hK fun k hk => o 5 (by omega) k (Pst.f5 hk), h.len,
    fun i X hX => ⟨(h.cx i X hX).1.kept hK fun k hk => o (2 * i + 7) (by omega) k (Pst.fX hX hk), (h.cx i X hX).2⟩, fun i Y hY => (h.cy i Y hY).kept hK fun k hk => o (2 * i + 8) (by omega) k (Pst.fY hY hk), h.bk.kept hK fun k hk => o 6 (by omega) k (Pst.f6 hk), Sep.same (Sep.perm h.sep (fun a => if a = 1 then 3 else if a = 2 then 4 else if a = 3 then 1 else if a = 4 then 2 else a) ?_ ?_) hK.size, Nat.le_trans h.low hK.size⟩
  · intro a b hab
    repeat' split at hab
    all_goals omega
  · rintro a k (⟨e, hk⟩ | ⟨e, hk⟩ | ⟨e, hk⟩ | ⟨e, hk⟩ | ⟨e, hk⟩ | ⟨e, hk⟩ | ⟨e, hk⟩ | ⟨j, D, hD, e, hk⟩ | ⟨j, D, hD, e, hk⟩)
    · subst e; exact Pst.f0 hk
    · subst e; exact Pst.f3 hk
    · subst e; exact Pst.f4 hk
    · subst e; exact Pst.f1 hk
    · subst e; exact Pst.f2 hk
    · subst e; exact Pst.f5 hk
    · subst e; exact Pst.f6 hk
    · rw [if_neg (by omega), if_neg (by omega), if_neg (by omega), if_neg (by omega), e]; exact Pst.fX hD hk
    · rw [if_neg (by omega), if_neg (by omega), if_neg (by omega), if_neg (by omega), e]; exact Pst.fY hD hk
end Go.Proofs.Ytadhldpeklkcmaa
