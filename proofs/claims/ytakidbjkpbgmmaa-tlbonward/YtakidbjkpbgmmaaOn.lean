import Derived.Test.YtakidbjkpbgmmaaPl
namespace Go.Proofs.Ytakidbjkpbgmmaa
open Go.RowKit Go.Shelf
set_option linter.unusedVariables false

/-- All that it holds may be. -/
def Good (ls : List Lf) : Prop := ∀ l ∈ ls, mayB l = true
theorem good_wo {p : Int} {ls : List Lf} (h : Good ls) : Good (wo p ls) := fun l hl => h l (List.mem_filter.1 hl).1
theorem good_touch {p : Int} {ls : List Lf} (h : Good ls) : Good (touchT p ls) := by
  unfold touchT
  cases e : findT p ls with
  | none => exact h
  | some x =>
    intro l hl
    rcases List.mem_append.1 hl with h' | h'
    · exact good_wo h l h'
    · simp at h'; rw [h']; exact h x (List.mem_of_find?_eq_some e)
theorem good_put {y : Lf} {ls : List Lf} (h : Good ls) (hy : mayB y = true) : Good (putT y ls) := by
  have h1 : Good (wo y.p ls ++ [y]) := by
    intro l hl
    rcases List.mem_append.1 hl with h' | h'
    · exact good_wo h l h'
    · simp at h'; rw [h']; exact hy
  unfold putT
  split
  · exact fun l hl => h1 l (List.mem_of_mem_tail hl)
  · exact h1
theorem good_held {ls : List Lf} (h : heldB ls = true) : Good ls := by
  unfold heldB preB at h
  simp only [Bool.and_eq_true] at h
  exact fun l hl => List.all_eq_true.1 h.2.1 l hl
theorem held_good {ls : List Lf} (h : Good ls) (h4 : ls.length ≤ 4) (hn : (ls.map Lf.p).Nodup) : heldB ls = true := by
  unfold heldB preB
  simp only [Bool.and_eq_true, decide_eq_true_eq]
  exact ⟨h4, List.all_eq_true.2 h, hn⟩
theorem good_step {o : OpV} {ls : List Lf} (h : Good ls) : Good (stepS o ls) := by
  unfold stepS
  split
  · exact good_touch h
  split
  · split
    · rename_i hm; exact good_put h hm
    · exact h
  split
  · exact fun l hl => by cases hl
  split
  · split
    · rename_i hm; exact good_held hm
    · exact h
  · exact h

/-- Two TLBs and one of the document's, apart. -/
structure Th (w0 w : World) (a b d : Nat) (la lb L : List Lf) : Prop where
  keeps : Keeps (fun _ => False) w0 w
  three : ∃ Fa Fb G, Tl w a la Fa ∧ Tl w b lb Fb ∧ Rf w d L G ∧ (∀ z, Fa z → ¬ Fb z) ∧ (∀ z, Fa z → ¬ G z) ∧ (∀ z, Fb z → ¬ G z) ∧ (∀ z, Fa z → w0.heap.size ≤ z) ∧ (∀ z, Fb z → w0.heap.size ≤ z) ∧ ∀ z, G z → w0.heap.size ≤ z

theorem Th.keep {w0 w w' : World} {a b d : Nat} {la lb L : List Lf} (h : Th w0 w a b d la lb L) (hK : Keeps (fun _ => False) w w') : Th w0 w' a b d la lb L := by
  obtain ⟨h1, Fa, Fb, G, h2, h3, h4, h5⟩ := h
  exact ⟨h1.trans hK fun _ _ h => h, Fa, Fb, G, h2.kept hK fun _ _ h => h, h3.kept hK fun _ _ h => h, h4.kept hK fun _ _ h => h, h5⟩
theorem Th.swap {w0 w : World} {a b d : Nat} {la lb L : List Lf} (h : Th w0 w a b d la lb L) : Th w0 w b a d lb la L := by
  obtain ⟨h1, Fa, Fb, G, h2, h3, h4, h5, h6, h7, h8, h9, h10⟩ := h
  exact ⟨h1, Fb, Fa, G, h3, h2, h4, fun z hz hz2 => h5 z hz2 hz, h7, h6, h9, h8, h10⟩

/-- A call on the first one and the document's. -/
theorem th_step {w0 w : World} {a b d : Nat} {la lb L : List Lf} (h : Th w0 w a b d la lb L) (o : OpV) (hp : I64 o.l.p) (hl : o.ls.length ≤ o.cap ∧ o.cap ≤ maxLen) (hb : o.ls.length ≤ 5864062014634) (hs : SegL w0 o.ad o.ls) :
    Calls Try.prog 8 #[ptr a, ptr d, o.v] w fun r w' => (∃ b, r = .returned (.bool b)) ∧ Th w0 w' a b d (stepS o la) lb (stepS o L) := by
  obtain ⟨h1, Fa, Fb, G, h2, h3, h4, h5, h6, h7, h8, h9, h10⟩ := h
  refine (step_any a d la L Fa G o w ⟨h2, h4, h6⟩ hp hl hb (hs.kept h1 fun _ _ h => h) fun hne z hz => ?_).mono ?_
  · have := hs.block_lt hne z hz
    exact ⟨fun hF => by have := h8 _ hF; omega, fun hG => by have := h10 _ hG; omega⟩
  rintro r w' ⟨⟨b', rfl, -⟩, ⟨F', G', p1, p2, p3⟩, p4⟩
  have hz := h1.size
  refine ⟨⟨b', rfl⟩, h1.trans p4 fun z hz hF => ?_, F', Fb, G', p1.tl, h3.kept p4 fun z hz hF => ?_, p1.rf, fun z hz hz2 => ?_, p1.apart, fun z hz hz2 => ?_, fun z hz => ?_, h9, fun z hz => ?_⟩
  · rcases hF with h | h
    · have := h8 z h; omega
    · have := h10 z h; omega
  · rcases hF with h | h
    · exact h5 z h hz
    · exact h7 z hz h
  · rcases p2 z hz with h | h
    · exact h5 z h hz2
    · have := h3.lt z hz2; omega
  · rcases p3 z hz2 with h | h
    · exact h7 z hz h
    · have := h3.lt z hz; omega
  · rcases p2 z hz with h | h
    · exact h8 z h
    · omega
  · rcases p3 z hz with h | h
    · exact h10 z h
    · omega

/-- Two TLBs, apart, and apart from some blocks besides. -/
structure Tw (w0 w : World) (a b : Nat) (la lb : List Lf) (Z : Nat → Prop) : Prop where
  keeps : Keeps (fun _ => False) w0 w
  two : ∃ Fa Fb, Tl w a la Fa ∧ Tl w b lb Fb ∧ (∀ z, Fa z → ¬ Fb z) ∧ (∀ z, Fa z → w0.heap.size ≤ z) ∧ (∀ z, Fb z → w0.heap.size ≤ z) ∧ ∀ z, Z z → z < w.heap.size ∧ ¬ Fa z ∧ ¬ Fb z
def SameAt (Z : Nat → Prop) (w w' : World) : Prop := ∀ z, Z z → w'.heap[z]? = w.heap[z]?
theorem Blk.same {Z : Nat → Prop} {w w' : World} {g : Nat} {l : List Value} {t : TypeId} (h : Blk w g l t) (hS : SameAt Z w w') (hz : Z g) : Blk w' g l t := by
  unfold Blk at h ⊢
  rw [hS g hz]; exact h

section
variable {w0 w w' : World} {a b : Nat} {la lb : List Lf} {Z Z' : Nat → Prop}
theorem Tw.grow (h : Tw w0 w a b la lb Z) (hK : Keeps (fun _ => False) w w') (hZ : ∀ z, Z' z → Z z ∨ (w.heap.size ≤ z ∧ z < w'.heap.size)) : Tw w0 w' a b la lb Z' := by
  obtain ⟨h1, Fa, Fb, h2, h3, h5, h6, h7, h8⟩ := h
  refine ⟨h1.trans hK fun _ _ h => h, Fa, Fb, h2.kept hK fun _ _ h => h, h3.kept hK fun _ _ h => h, h5, h6, h7, fun z hz => ?_⟩
  rcases hZ z hz with h | h
  · exact ⟨Nat.lt_of_lt_of_le (h8 z h).1 hK.size, (h8 z h).2⟩
  · exact ⟨h.2, fun hF => by have := h2.lt z hF; omega, fun hF => by have := h3.lt z hF; omega⟩
theorem Tw.keep (h : Tw w0 w a b la lb Z) (hK : Keeps (fun _ => False) w w') : Tw w0 w' a b la lb Z := h.grow hK fun z hz => .inl hz
theorem Tw.none (h : Tw w0 w a b la lb Z) : Tw w0 w a b la lb (fun _ => False) := h.grow (Keeps.refl _ _) fun z hz => hz.elim
theorem Tw.swap (h : Tw w0 w a b la lb Z) : Tw w0 w b a lb la Z := by
  obtain ⟨h1, Fa, Fb, h2, h3, h5, h6, h7, h8⟩ := h
  exact ⟨h1, Fb, Fa, h3, h2, fun z hz hz2 => h5 z hz2 hz, h7, h6, fun z hz => ⟨(h8 z hz).1, (h8 z hz).2.2, (h8 z hz).2.1⟩⟩
theorem tw_now {la' : List Lf} {Fa Fb : Nat → Prop} (h1 : Keeps (fun _ => False) w0 w) (h3 : Tl w b lb Fb) (h5 : ∀ z, Fa z → ¬ Fb z) (h6 : ∀ z, Fa z → w0.heap.size ≤ z) (h7 : ∀ z, Fb z → w0.heap.size ≤ z) (h8 : ∀ z, Z z → z < w.heap.size ∧ ¬ Fa z ∧ ¬ Fb z) (hN : NowT w w' a la' Fa) : Tw w0 w' a b la' lb Z ∧ SameAt Z w w' := by
  obtain ⟨⟨F', p1, p2⟩, p4⟩ := hN
  have hz := h1.size
  refine ⟨⟨h1.trans p4 fun z hz hF => by have := h6 z hF; omega, F', Fb, p1, h3.kept p4 fun z hz hF => h5 z hF hz, fun z hz hz2 => ?_, fun z hz => ?_, h7, fun z hz => ?_⟩, fun z hz => p4.block z (h8 z hz).1 (h8 z hz).2.1⟩
  · rcases p2 z hz with h | h
    · exact h5 z h hz2
    · have := h3.lt z hz2; omega
  · rcases p2 z hz with h | h
    · exact h6 z h
    · omega
  · refine ⟨Nat.lt_of_lt_of_le (h8 z hz).1 p4.size, fun hF => ?_, (h8 z hz).2.2⟩
    rcases p2 z hF with h | h
    · exact (h8 z hz).2.1 h
    · have := (h8 z hz).1; omega

/-- The calls on the first of two. -/
theorem tw_find (h : Tw w0 w a b la lb Z) (p : Int) (hp : I64 p) :
    Calls Try.prog 13 #[ptr a, .int .i64 p] w fun r w' => r = .returned (.tuple #[((findT p la).getD Lf.none).v, .bool (findT p la).isSome]) ∧ Tw w0 w' a b (touchT p la) lb Z ∧ SameAt Z w w' := by
  obtain ⟨h1, Fa, Fb, h2, h3, h5, h6, h7, h8⟩ := h
  refine (findT_any a la Fa p w h2 hp).mono ?_
  rintro r w' ⟨rfl, hN⟩
  exact ⟨rfl, tw_now h1 h3 h5 h6 h7 h8 hN⟩
theorem tw_put (h : Tw w0 w a b la lb Z) (l : Lf) :
    Calls Try.prog 12 #[ptr a, l.v] w fun r w' => r = .returned (.int .i64 (if mayB l then 0 else 80)) ∧ Tw w0 w' a b (if mayB l then putT l la else la) lb Z ∧ SameAt Z w w' := by
  obtain ⟨h1, Fa, Fb, h2, h3, h5, h6, h7, h8⟩ := h
  cases hm : mayB l
  · refine (putT_no a la Fa l w h2 hm).mono ?_
    rintro r w' ⟨rfl, hN⟩
    exact ⟨by simp, by simpa using tw_now h1 h3 h5 h6 h7 h8 hN⟩
  · refine (putT_yes a la Fa l w h2 hm).mono ?_
    rintro r w' ⟨rfl, hN⟩
    exact ⟨by simp, by simpa using tw_now h1 h3 h5 h6 h7 h8 hN⟩
theorem tw_flush (h : Tw w0 w a b la lb Z) :
    Calls Try.prog 15 #[ptr a] w fun r w' => r = .returned (.tuple #[]) ∧ Tw w0 w' a b [] lb Z ∧ SameAt Z w w' := by
  obtain ⟨h1, Fa, Fb, h2, h3, h5, h6, h7, h8⟩ := h
  refine (flush_any a la Fa w h2).mono ?_
  rintro r w' ⟨rfl, hN⟩
  exact ⟨rfl, tw_now h1 h3 h5 h6 h7 h8 hN⟩
/-- Restore of a list that was made behind. -/
theorem tw_restore {wa : World} {g : Nat} {xs : List Lf} {c : Nat} (h : Tw w0 wa a b la lb Z) (hK : Keeps (fun _ => False) wa w) (hg : wa.heap.size ≤ g) (hl : xs.length ≤ c ∧ c ≤ maxLen) (hs : SegL w (some ⟨g, 0, none⟩) xs) :
    Calls Try.prog 14 #[ptr a, .slice (some ⟨g, 0, none⟩) xs.length c] w fun r w' => r = .returned (.int .i64 (if heldB xs then 0 else 81)) ∧ Tw w0 w' a b (if heldB xs then xs else la) lb Z ∧ SameAt Z w w' := by
  have hk := h.keep hK
  obtain ⟨h1, Fa, Fb, h2, h3, h5, h6, h7, h8⟩ := h
  have h2' := h2.kept hK fun _ _ h => h
  have h3' := h3.kept hK fun _ _ h => h
  have h1' := h1.trans hK fun _ _ h => h
  have h8' : ∀ z, Z z → z < w.heap.size ∧ ¬ Fa z ∧ ¬ Fb z := fun z hz => ⟨Nat.lt_of_lt_of_le (h8 z hz).1 hK.size, (h8 z hz).2⟩
  refine (restoreT_any a la Fa (some ⟨g, 0, none⟩) xs c w h2' hl hs fun _ x hx hF => ?_).mono ?_
  · simp at hx; subst hx; have := h2.lt _ hF; simp at this; omega
  rintro r w' (⟨e1, rfl, hN⟩ | ⟨e1, rfl, hN⟩)
  · rw [e1]; exact ⟨by simp, by simpa using tw_now h1' h3' h5 h6 h7 h8' hN⟩
  · rw [e1]; exact ⟨by simp, by simpa using tw_now h1' h3' h5 h6 h7 h8' hN⟩
/-- What it tells. -/
theorem tw_told (h : Tw w0 w a b la lb Z) :
    Calls Try.prog 10 #[ptr a] w fun r w' => ∃ g cap, r = .returned (.slice (some ⟨g, 0, none⟩) la.length cap) ∧ w.heap.size ≤ g ∧ (la.length ≤ cap ∧ cap ≤ maxLen) ∧ SegL w' (some ⟨g, 0, none⟩) la ∧ Keeps (fun _ => False) w w' := by
  obtain ⟨h1, Fa, Fb, h2, h3, h5, h6, h7⟩ := h
  refine (told_any a la Fa w h2).mono ?_
  rintro r w' ⟨g, cap, rfl, q1, q2, q3, q4, q5, q6⟩
  exact ⟨g, cap, rfl, q1, q3, q4, q6⟩
theorem Tw.facts (h : Tw w0 w a b la lb Z) : la.length ≤ 4 ∧ (la.map Lf.p).Nodup := by
  obtain ⟨h1, Fa, Fb, h2, h3, h5, h6, h7⟩ := h
  exact ⟨h2.le, h2.pages⟩
end
theorem Th.tw {w0 w : World} {a b d : Nat} {la lb L : List Lf} (h : Th w0 w a b d la lb L) : Tw w0 w a b la lb (fun _ => False) := by
  obtain ⟨h1, Fa, Fb, G, h2, h3, h4, h5, h6, h7, h8, h9, h10⟩ := h
  exact ⟨h1, Fa, Fb, h2, h3, h5, h8, h9, fun z hz => hz.elim⟩

end Go.Proofs.Ytakidbjkpbgmmaa
