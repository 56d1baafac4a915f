import Derived.Test.YtakidbjkpbgmmaaSc
namespace Go.Proofs.Ytakidbjkpbgmmaa
open Go.RowKit Go.Shelf
set_option linter.unusedVariables false

/-- What a call does to what is held. -/
def stepS (o : OpV) (ls : List Lf) : List Lf :=
  if o.kind = 0 then touchT o.l.p ls else if o.kind = 1 then (if mayB o.l then putT o.l ls else ls) else if o.kind = 2 then [] else if o.kind = 4 then (if heldB o.ls then o.ls else ls) else ls

theorem step_any (t d : Nat) (ls L : List Lf) (F G : Nat → Prop) (o : OpV) (w : World) (h : Pr w t d ls L F G) (hp : I64 o.l.p) (hl : o.ls.length ≤ o.cap ∧ o.cap ≤ maxLen) (hb : o.ls.length ≤ 5864062014634) (hs : SegL w o.ad o.ls) (ha : o.ls ≠ [] → ∀ x, o.ad = some x → ¬ F x.block ∧ ¬ G x.block) :
    Calls Try.prog 8 #[ptr t, ptr d, o.v] w fun r w' => (∃ b, r = .returned (.bool b) ∧ (ls = L → b = true)) ∧ NowP w w' t d (stepS o ls) (stepS o L) F G := by
  obtain ⟨which, kind, l, ad, xs, cap⟩ := o
  unfold stepS
  dsimp only at *
  by_cases h0 : kind = 0
  · subst h0
    rw [if_pos rfl, if_pos rfl]
    exact step_find t d ls L F G which l ad xs.length cap w h hp
  rw [if_neg h0, if_neg h0]
  by_cases h1 : kind = 1
  · subst h1
    rw [if_pos rfl, if_pos rfl]
    exact step_put t d ls L F G which l ad xs.length cap w h
  rw [if_neg h1, if_neg h1]
  by_cases h2 : kind = 2
  · subst h2
    rw [if_pos rfl, if_pos rfl]
    exact step_flush t d ls L F G which l ad xs.length cap w h
  rw [if_neg h2, if_neg h2]
  by_cases h4 : kind = 4
  · subst h4
    rw [if_pos rfl, if_pos rfl]
    exact step_restore t d ls L F G which l ad xs cap w h hl hb hs ha
  rw [if_neg h4, if_neg h4]
  by_cases h3 : kind = 3
  · subst h3
    exact step_told t d ls L F G which l ad xs.length cap w h
  exact step_else t d ls L F G which kind l ad xs.length cap w h h0 h1 h2 h3 h4

theorem results_three {P : Program} {fn : Func} {p q u : Tmp} (h : fn.results = #[.tmp p, .tmp q, .tmp u]) (tmps : Array Value) (w : World) :
    (results fn tmps).run P w = .ok (.tuple #[tmps.getD p undef, tmps.getD q undef, tmps.getD u undef]) w := by
  simp [results, h]

theorem two_any (w : World) : Calls Try.prog 7 #[] w fun r w' => ∃ a b Fa Fb, r = .returned (.tuple #[ptr a, ptr b, .bool true]) ∧ Tl w' a [] Fa ∧ Tl w' b [] Fb ∧ (∀ z, Fa z → ¬ Fb z) ∧ (∀ z, Fa z → w.heap.size ≤ z) ∧ (∀ z, Fb z → w.heap.size ≤ z) ∧ Keeps (fun _ => False) w w' := by
  go_enter Try.func7, Try.ntmps7
  go_wp2_with fail
  refine (newT_any w).mono ?_
  rintro r w1 ⟨a, rfl, ⟨Fa, hTa, hFa⟩, hK1⟩
  have H1 : Hid (Tl w1 a [] Fa ∧ (∀ z, Fa z → w.heap.size ≤ z) ∧ Keeps (fun _ => False) w w1) := ⟨hTa, hFa, hK1⟩
  clear hTa hFa hK1
  go_wp2_with fail
  refine (newT_any w1).mono ?_
  rintro r w2 ⟨b, rfl, ⟨Fb, hTb, hFb⟩, hK2⟩
  have H2 : Hid (Tl w2 b [] Fb ∧ (∀ z, Fb z → w1.heap.size ≤ z) ∧ Keeps (fun _ => False) w1 w2) := ⟨hTb, hFb, hK2⟩
  clear hTb hFb hK2
  go_wp2
  refine bodyPost_ret (results_three rfl _ _) rfl ?_
  obtain ⟨a1, a2, a3⟩ := H1.out
  obtain ⟨b1, b2, b3⟩ := H2.out
  exact ⟨a, b, Fa, Fb, rfl, a1.kept b3 fun _ _ h => h, b1, fun z hz hz2 => by have := a1.lt z hz; have := b2 z hz2; omega, a2, fun z hz => by have := b2 z hz; have := a3.size; omega, a3.trans b3 fun _ _ h => h⟩

end Go.Proofs.Ytakidbjkpbgmmaa
