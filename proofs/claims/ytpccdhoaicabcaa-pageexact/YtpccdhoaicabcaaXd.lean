import Derived.Test.YtpccdhoaicabcaaLive
import Derived.RangeFuncNested
namespace Go.Proofs.Ytpccdhoaicabcaa
open Go.RowKit

theorem range_live6 {F : Fence} {n : Nat} {P : Program} {σ α : Type} {g : Operand} {ps : Array Tmp} {assign body : Code} {Q : Exit → Act → World → Prop} {a : Act} {w : World}
    (hro : F.round = none) (h1 : 1 ≤ n) {gf : Nat} {lb : Array Value} (hg : a.eval g = .func (.func gf) #[] lb) (hFg : F.fn gf) (eg : ∀ args w, (callFunc gf args).run P w = .ok (.enter gf args) w)
    {encs : α → Array Value} {Good : σ → World → Prop} {Skip : σ → σ → World → Prop} {Tell : σ → α → World → Prop} {nx : σ → α → σ} {Fin : σ → Prop} {s0 : σ}
    (hseq : Tells F (n - 1) P gf lb encs Good Skip Tell nx Fin s0) (hps : ∀ x, (encs x).size = ps.size)
    (I : σ → World → Prop) (Ix : Code → World → Prop)
    (hI : ∀ s W W', Keeps (fun k => k = w.heap.size ∨ k = w.heap.size + 1) W W' → I s W → I s W') (hT : ∀ s x W W', Keeps (fun k => k = w.heap.size ∨ k = w.heap.size + 1) W W' → I s W → Tell s x W → Tell s x W')
    (hIx : ∀ c W W', Keeps (fun k => k = w.heap.size ∨ k = w.heap.size + 1) W W' → Ix c W → Ix c W')
    (hGood : ∀ s W, w.heap.size + 1 < W.heap.size → I s W → Good s W) (hSkip : ∀ s s' W, I s W → Skip s s' W → I s' W) (h0 : I s0 w)
    (hround : ∀ (l : Nat) (s : σ) (x : α) (W : World), w.heap.size + 1 < W.heap.size → I s W → Tell s x W → l = w.heap.size + 1 →
      assign.wpIn (F.inRound l) (n - 1 - 1) P (Exit.then (fun a' W' => Keeps (fun _ => False) W W' ∧ ∀ W2, Keeps (fun k => k = w.heap.size ∨ k = w.heap.size + 1) W' W2 → w.heap.size + 1 < W2.heap.size → I s W2 → Tell s x W2 → (∃ r, W2.heap[w.heap.size + 1]? = some (.loop r)) → body.wpIn (F.inRound l) (n - 1 - 1) P (LivePost w.heap.size W2 (I (nx s x)) Ix) a' W2) (fun _ _ _ => False))
        { tmps := (ps.zip (encs x)).foldl (fun t (p, v) => t.setIfInBounds p v) a.tmps, defers := [] } W)
    (hdone : ∀ (s : σ) (W : World), Fin s → I s W → W.heap[w.heap.size]? = some (.deferred (some [])) → Q .normal { a with defers := { target := .collected w.heap.size, args := #[] } :: a.defers } W)
    (hstop : ∀ (c : Code) (W : World), Ix c W → W.heap[w.heap.size]? = some (.deferred (some [])) → c.wpIn F n P Q { a with defers := { target := .collected w.heap.size, args := #[] } :: a.defers } W) :
    (Code.rangeFunc g ps assign body).wpIn F n P Q a w := by
  refine wpIn_rangeFunc fun fn hfn => ?_
  rw [hro]
  obtain ⟨B, hB⟩ : ∃ B, B = w.heap.size := ⟨_, rfl⟩
  rw [← hB] at hI hT hIx hround hdone hstop hGood
  obtain ⟨rec, hrec⟩ : ∃ rec : LoopState → Option Code → Loop, rec = fun st pe => { state := st, pending := pe, fn, tmps := a.tmps, params := ps, assign, body, defers := B } := ⟨_, rfl⟩
  obtain ⟨W1, hW1⟩ : ∃ W1, (w.alloc (.deferred (some []))).alloc (.loop (rec .ready none)) = W1 := ⟨_, rfl⟩
  have hK1 : Keeps (fun k => k = B ∨ k = B + 1) w W1 := by rw [← hW1]; exact ((Keeps.refl _ w).alloc _).alloc _
  have hL1 : W1.heap[B + 1]? = some (.loop (rec .ready none)) := by
    have := World.alloc_heap_new (w.alloc (.deferred (some []))) (.loop (rec .ready none))
    rw [World.size_alloc, ← hB, hW1] at this
    exact this
  have hD1 : W1.heap[B]? = some (.deferred (some [])) := by
    rw [← hW1, hB]; exact (Below.heap_alloc _ _ _ (by simp)).trans (World.alloc_heap_new w _)
  refine ⟨B + 1, [{ target := .collected B, args := #[] }], W1, { target := .fn (.func gf) lb, args := #[.func (.yield (B + 1)) #[] #[]] }, W1, gf,
    #[.func (.yield (B + 1)) #[] #[]] ++ lb, W1, ?_, ?_, ?_, ?_, fun _ => h1, ?_⟩
  · rw [← hW1, hrec, hB]; exact run_enterLoop_outer _ _ _ _ _
  · simp only [resolve, hg]
    simp [go_sem]
  · intro f' hf'; simp [Target.leads] at hf'; subst hf'; exact hFg
  · simp [invoke, go_sem, eg]
  refine (hseq (B + 1) (fun s W => I s W ∧ W.heap[B]? = some (.deferred (some [])) ∧ W.heap[B + 1]? = some (.loop (rec .ready none)))
    (fun W => ∃ c, Ix c W ∧ W.heap[B]? = some (.deferred (some [])) ∧ W.heap[B + 1]? = some (.loop (rec .done (some c)))) W1
    (fun s W h => hGood s W (Array.getElem?_eq_some_iff.1 h.2.2).1 h.1) (fun s s' W h hs => ⟨hSkip s s' W h.1 hs, h.2⟩) (fun s W W' h k => ⟨hI s W _ (k.mono fun _ _ e => e.elim) h.1, (k.block B (Array.getElem?_eq_some_iff.1 h.2.1).1 fun e => e).trans h.2.1, (k.block (B + 1) (Array.getElem?_eq_some_iff.1 h.2.2).1 fun e => e).trans h.2.2⟩) ?_ ⟨hI _ _ _ hK1 h0, hD1, hL1⟩).mono ?_
  · rintro s x W ⟨hi, hd, hl⟩ ht
    have hlt : B + 1 < W.heap.size := (Array.getElem?_eq_some_iff.1 hl).1
    have hy := run_yield (P := P) (args := encs x) hl (by rw [hrec]; exact hps x)
    rw [hrec] at hy
    refine ⟨fn, _, assign, body, hy, roundIn_of_wpIn hfn (wpIn_mono (hround _ s x W hlt hi ht (by rw [hB])) ?_)⟩
    rintro e0 a' W' hp0
    cases e0 with
    | ret => exact hp0.elim
    | exit id => exact hp0.elim
    | goto t => exact hp0.elim
    | panic ch => exact hp0.elim
    | outgrown => exact hp0.elim
    | normal => ?_
    obtain ⟨hkA, hbody⟩ := hp0
    have hi' := hI s _ W' (hkA.mono fun _ _ e => e.elim) hi
    have ht' := hT s x _ W' (hkA.mono fun _ _ e => e.elim) hi ht
    have hd := (hkA.block B (by omega) fun e => e).trans hd
    have hl := (hkA.block (B + 1) hlt fun e => e).trans hl
    have hlt : B + 1 < W'.heap.size := (Array.getElem?_eq_some_iff.1 hl).1
    refine ⟨_, run_beginRound hl (by rw [hrec]), ?_⟩
    obtain ⟨W2, hW2⟩ : ∃ W2, W'.putObj (B + 1) (.loop { rec .ready none with state := .busy }) = W2 := ⟨_, rfl⟩
    have hk2 : Keeps (fun k => k = B ∨ k = B + 1) W' W2 := by rw [← hW2]; exact keeps_put W' B (B + 1) _ (.inr rfl)
    have hl2 : W2.heap[B + 1]? = some (.loop { rec .ready none with state := .busy }) := by rw [← hW2]; exact World.putObj_heap_same hlt
    have hd2 : W2.heap[B]? = some (.deferred (some [])) := by rw [← hW2]; exact (World.putObj_heap_other (by omega)).trans hd
    rw [hW2]
    have back : ∀ (jump : Option Code) (W3 : World), W3.heap[B]? = W2.heap[B]? ∧ W3.heap[B + 1]? = W2.heap[B + 1]? →
        ∃ W4, (Instr.endRound (B + 1) jump).run P W3 = .ok (.bool jump.isNone) W4 ∧ Keeps (fun k => k = B ∨ k = B + 1) W3 W4 ∧ W4.heap[B]? = some (.deferred (some [])) ∧
          W4.heap[B + 1]? = some (.loop (rec (if jump.isNone then .ready else .done) jump)) := fun jump W3 h3 => by
      have hl3 := h3.2.trans hl2
      have hd3 := h3.1.trans hd2
      have h4 := run_endRound (P := P) jump hl3
      refine ⟨_, h4, keeps_put W3 B (B + 1) _ (.inr rfl), (World.putObj_heap_other (by omega)).trans hd3, ?_⟩
      rw [World.putObj_heap_same (Array.getElem?_eq_some_iff.1 hl3).1, hrec]
    refine wpIn_mono (hbody W2 hk2 (Array.getElem?_eq_some_iff.1 hl2).1 (hI s _ W2 hk2 hi') (hT s x _ W2 hk2 hi' ht') ⟨_, hl2⟩) ?_
    rintro e a3 W3 hp
    cases e with
    | normal =>
      obtain ⟨h3, hi3⟩ := hp
      obtain ⟨W4, hr, hk4, hd4, hl4⟩ := back none W3 h3
      exact ⟨_, _, hr, .inl ⟨rfl, hI _ _ _ hk4 hi3, hd4, hl4⟩⟩
    | ret =>
      obtain ⟨h3, hi3⟩ := hp
      obtain ⟨W4, hr, hk4, hd4, hl4⟩ := back (some .ret) W3 h3
      exact ⟨_, _, hr, .inr ⟨rfl, .ret, hIx _ _ _ hk4 hi3, hd4, hl4⟩⟩
    | exit id =>
      obtain ⟨h3, hi3⟩ := hp
      obtain ⟨W4, hr, hk4, hd4, hl4⟩ := back (some (.exit id)) W3 h3
      exact ⟨_, _, hr, .inr ⟨rfl, .exit id, hIx _ _ _ hk4 hi3, hd4, hl4⟩⟩
    | goto t =>
      obtain ⟨h3, hi3⟩ := hp
      obtain ⟨W4, hr, hk4, hd4, hl4⟩ := back (some (.goto t)) W3 h3
      exact ⟨_, _, hr, .inr ⟨rfl, .goto t, hIx _ _ _ hk4 hi3, hd4, hl4⟩⟩
    | panic ch => exact hp.elim
    | outgrown => exact hp.elim
  · rintro e W2 ⟨⟨v, rfl⟩, (⟨s, hf, hi, hd, hl⟩ | ⟨c, hi, hd, hl⟩)⟩
    · exact ⟨none, _, by have := run_endLoop (P := P) hl (by rw [hrec]; simp); rw [hrec] at this; exact this,
        hdone s _ hf (hI _ _ _ (keeps_put W2 B (B + 1) _ (.inr rfl)) hi) ((World.putObj_heap_other (by omega)).trans hd)⟩
    · exact ⟨some c, _, by have := run_endLoop (P := P) hl (by rw [hrec]; simp); rw [hrec] at this; exact this,
        hstop c _ (hIx _ _ _ (keeps_put W2 B (B + 1) _ (.inr rfl)) hi) ((World.putObj_heap_other (by omega)).trans hd)⟩

/-- How a round of a range within a round is left: its record is as it was. -/
def InPost (B : Nat) (W : World) (I : World → Prop) : Exit → Act → World → Prop
  | .normal, _, W' => W'.heap[B]? = W.heap[B]? ∧ I W'
  | .ret, _, _ => False
  | .exit _, _, _ => False
  | .goto _, _, _ => False
  | .panic _, _, _ => False
  | .outgrown, _, _ => False

theorem keeps_put1 (W : World) (B : Nat) (o : Obj) : Keeps (· = B) W (W.putObj B o) :=
  ⟨rfl, rfl, rfl, by simp, fun k _ hn => World.putObj_heap_other fun e => hn e⟩

/-- A range within a round. -/
theorem range_live_in {F : Fence} {n : Nat} {P : Program} {σ α : Type} {g : Operand} {ps : Array Tmp} {assign body : Code} {Q : Exit → Act → World → Prop} {a : Act} {w : World} {l₀ : Nat} {r₀ : Loop}
    (hro : F.round = some l₀) (hr₀ : w.heap[l₀]? = some (.loop r₀)) (h1 : 1 ≤ n) {gf : Nat} {lb : Array Value} (hg : a.eval g = .func (.func gf) #[] lb) (hFg : F.fn gf) (eg : ∀ args w, (callFunc gf args).run P w = .ok (.enter gf args) w)
    {encs : α → Array Value} {Good : σ → World → Prop} {Skip : σ → σ → World → Prop} {Tell : σ → α → World → Prop} {nx : σ → α → σ} {Fin : σ → Prop} {s0 : σ}
    (hseq : Tells F (n - 1) P gf lb encs Good Skip Tell nx Fin s0) (hps : ∀ x, (encs x).size = ps.size)
    (I : σ → World → Prop)
    (hI : ∀ s W W', Keeps (· = w.heap.size) W W' → I s W → I s W') (hT : ∀ s x W W', Keeps (· = w.heap.size) W W' → I s W → Tell s x W → Tell s x W')
    (hGood : ∀ s W, I s W → Good s W) (hSkip : ∀ s s' W, I s W → Skip s s' W → I s' W) (h0 : I s0 w)
    (hround : ∀ (l : Nat) (s : σ) (x : α) (W : World), I s W → Tell s x W →
      assign.wpIn (F.inRound l) (n - 1 - 1) P (Exit.then (fun a' W' => W' = W ∧ ∀ W2, w.heap.size < W2.heap.size → I s W2 → Tell s x W2 → body.wpIn (F.inRound l) (n - 1 - 1) P (InPost w.heap.size W2 (I (nx s x))) a' W2) (fun _ _ _ => False))
        { tmps := (ps.zip (encs x)).foldl (fun t (p, v) => t.setIfInBounds p v) a.tmps, defers := [] } W)
    (hdone : ∀ (s : σ) (W : World), Fin s → I s W → Q .normal a W) :
    (Code.rangeFunc g ps assign body).wpIn F n P Q a w := by
  refine wpIn_rangeFunc fun fn hfn => ?_
  rw [hro]
  obtain ⟨B, hB⟩ : ∃ B, B = w.heap.size := ⟨_, rfl⟩
  rw [← hB] at hI hT hround
  obtain ⟨rec, hrec⟩ : ∃ rec : LoopState → Option Code → Loop, rec = fun st pe => { state := st, pending := pe, fn, tmps := a.tmps, params := ps, assign, body, defers := r₀.defers } := ⟨_, rfl⟩
  obtain ⟨W1, hW1⟩ : ∃ W1, w.alloc (.loop (rec .ready none)) = W1 := ⟨_, rfl⟩
  have hK1 : Keeps (· = B) w W1 := by rw [← hW1]; exact (Keeps.refl _ w).alloc _
  have hL1 : W1.heap[B]? = some (.loop (rec .ready none)) := by rw [← hW1, hB]; exact World.alloc_heap_new w _
  refine ⟨B, [], W1, { target := .fn (.func gf) lb, args := #[.func (.yield B) #[] #[]] }, W1, gf,
    #[.func (.yield B) #[] #[]] ++ lb, W1, ?_, ?_, ?_, ?_, fun _ => h1, ?_⟩
  · rw [← hW1, hrec, hB]; exact run_enterLoop_inner hr₀ _ _ _ _ _
  · simp only [resolve, hg]
    simp [go_sem]
  · intro f' hf'; simp [Target.leads] at hf'; subst hf'; exact hFg
  · simp [invoke, go_sem, eg]
  refine (hseq B (fun s W => I s W ∧ W.heap[B]? = some (.loop (rec .ready none))) (fun _ => False) W1
    (fun s W h => hGood s W h.1) (fun s s' W h hs => ⟨hSkip s s' W h.1 hs, h.2⟩) (fun s W W' h k => ⟨hI s W _ (k.mono fun _ _ e => e.elim) h.1, (k.block B (Array.getElem?_eq_some_iff.1 h.2).1 fun e => e).trans h.2⟩) ?_ ⟨hI _ _ _ hK1 h0, hL1⟩).mono ?_
  · rintro s x W ⟨hi, hl⟩ ht
    have hlt : B < W.heap.size := (Array.getElem?_eq_some_iff.1 hl).1
    have hy := run_yield (P := P) (args := encs x) hl (by rw [hrec]; exact hps x)
    rw [hrec] at hy
    refine ⟨fn, _, assign, body, hy, roundIn_of_wpIn hfn (wpIn_mono (hround _ s x W hi ht) ?_)⟩
    rintro e0 a' W' hp0
    cases e0 with
    | ret => exact hp0.elim
    | exit id => exact hp0.elim
    | goto t => exact hp0.elim
    | panic ch => exact hp0.elim
    | outgrown => exact hp0.elim
    | normal => ?_
    obtain ⟨rfl, hbody⟩ := hp0
    refine ⟨_, run_beginRound hl (by rw [hrec]), ?_⟩
    obtain ⟨W2, hW2⟩ : ∃ W2, W'.putObj B (.loop { rec .ready none with state := .busy }) = W2 := ⟨_, rfl⟩
    have hk2 : Keeps (· = B) W' W2 := by rw [← hW2]; exact keeps_put1 W' B _
    have hl2 : W2.heap[B]? = some (.loop { rec .ready none with state := .busy }) := by rw [← hW2]; exact World.putObj_heap_same hlt
    rw [hW2]
    refine wpIn_mono (hbody W2 (Array.getElem?_eq_some_iff.1 hl2).1 (hI s _ W2 hk2 hi) (hT s x _ W2 hk2 hi ht)) ?_
    rintro e a3 W3 hp
    cases e with
    | normal =>
      obtain ⟨h3, hi3⟩ := hp
      have hl3 := h3.trans hl2
      have h4 := run_endRound (P := P) none hl3
      refine ⟨_, _, h4, .inl ⟨rfl, hI _ _ _ (keeps_put1 W3 B _) hi3, ?_⟩⟩
      rw [World.putObj_heap_same (Array.getElem?_eq_some_iff.1 hl3).1, hrec]
      rfl
    | ret => exact hp.elim
    | exit id => exact hp.elim
    | goto t => exact hp.elim
    | panic ch => exact hp.elim
    | outgrown => exact hp.elim
  · rintro e W2 ⟨⟨v, rfl⟩, (⟨s, hf, hi, hl⟩ | h)⟩
    · exact ⟨none, _, by have := run_endLoop (P := P) hl (by rw [hrec]; simp); rw [hrec] at this; exact this,
        hdone s _ hf (hI _ _ _ (keeps_put1 W2 B _) hi)⟩
    · exact h.elim

theorem Tells.inRound {σ α : Type} {F : Fence} {n : Nat} {P : Program} {gf : Nat} {lb : Array Value} {encs : α → Array Value} {Good : σ → World → Prop} {Skip : σ → σ → World → Prop} {Tell : σ → α → World → Prop} {nx : σ → α → σ} {Fin : σ → Prop} {s0 : σ} (l : Nat) (h : Tells F n P gf lb encs Good Skip Tell nx Fin s0) : Tells (F.inRound l) n P gf lb encs Good Skip Tell nx Fin s0 := h

end Go.Proofs.Ytpccdhoaicabcaa
