import Derived.Test.YtajhkilclmicjaaMem
import Derived.RangeFuncIn
import Derived.RangeFuncRecord
import Derived.RangeFuncSeq
namespace Go.Proofs.Ytajhkilclmicjaa
open Go.RowKit

/-- An iterator that tells a list, which it holds in a block g of its own from the beginning on: whoever ranges over it keeps that block. -/
def Lists {α : Type} (F : Fence) (n : Nat) (P : Program) (gf : Nat) (lb : Array Value) (encs : α → Array Value) (Good : World → Prop) (xs : List α) : Prop :=
  ∀ (l : Nat) (J : Nat → Nat → World → Prop) (Jx : World → Prop) (W : World), Good W → (∀ g W', Keeps (fun _ => False) W W' → W.heap.size ≤ g → g < W'.heap.size → J g 0 W') → (∀ g i W W', Keeps (fun _ => False) W W' → J g i W → J g i W') →
    (∀ g i x W, xs[i]? = some x → J g i W → YieldAt F (n - 1) P l (encs x) W fun e W' => W'.heap[g]? = W.heap[g]? ∧ ((e = .returned (.bool true) ∧ J g (i + 1) W') ∨ (e = .returned (.bool false) ∧ Jx W'))) →
    CallsIn F n P gf (#[.func (.yield l) #[] #[]] ++ lb) W fun e W' => (∃ v, e = .returned v) ∧ ((∃ g, J g xs.length W') ∨ Jx W')

/-- How a round may be left: the two blocks of the loop and the iterator's own are as they were. -/
def KeptAt (B g : Nat) (W W' : World) : Prop := W'.heap[B]? = W.heap[B]? ∧ W'.heap[B + 1]? = W.heap[B + 1]? ∧ W'.heap[g]? = W.heap[g]?
def ListPost (B g : Nat) (W : World) (I : World → Prop) (Ix : Code → World → Prop) : Exit → Act → World → Prop
  | .normal, _, W' => KeptAt B g W W' ∧ I W'
  | .ret, _, W' => KeptAt B g W W' ∧ Ix .ret W'
  | .exit id, _, W' => KeptAt B g W W' ∧ Ix (.exit id) W'
  | .goto t, _, W' => KeptAt B g W W' ∧ Ix (.goto t) W'
  | .panic _, _, _ => False
  | .outgrown, _, _ => False

theorem keeps_put (W : World) (B l : Nat) (o : Obj) (hl : l = B ∨ l = B + 1) : Keeps (fun k => k = B ∨ k = B + 1) W (W.putObj l o) :=
  ⟨rfl, rfl, rfl, by simp, fun k _ hn => World.putObj_heap_other fun e => hn (e ▸ hl)⟩

/-- A range over such an iterator. -/
theorem range_list {F : Fence} {n : Nat} {P : Program} {α : Type} {g : Operand} {ps : Array Tmp} {assign body : Code} {Q : Exit → Act → World → Prop} {a : Act} {w : World}
    (hro : F.round = none) (h1 : 1 ≤ n) {gf : Nat} {lb : Array Value} (hg : a.eval g = .func (.func gf) #[] lb) (hFg : F.fn gf) (eg : ∀ args w, (callFunc gf args).run P w = .ok (.enter gf args) w)
    {encs : α → Array Value} {Good : World → Prop} {xs : List α}
    (hseq : Lists F (n - 1) P gf lb encs Good xs) (hgood : ∀ W, Keeps (fun _ => False) w W → Good W) (hps : ∀ x, (encs x).size = ps.size)
    (I : Nat → Nat → World → Prop) (Ix : Code → World → Prop)
    (hI : ∀ g i W W', Keeps (fun k => k = w.heap.size ∨ k = w.heap.size + 1) W W' → I g i W → I g i W')
    (hIx : ∀ c W W', Keeps (fun k => k = w.heap.size ∨ k = w.heap.size + 1) W W' → Ix c W → Ix c W')
    (h0 : ∀ g W, Keeps (fun _ => False) w W → w.heap.size + 2 ≤ g → g < W.heap.size → I g 0 W)
    (hround : ∀ (l g i : Nat) (x : α) (W : World), xs[i]? = some x → I g i W → w.heap.size + 2 ≤ g →
      assign.wpIn (F.inRound l) (n - 1 - 1) P (Exit.then (fun a' W' => W' = W ∧ ∀ W2, w.heap.size + 1 < W2.heap.size → I g i W2 → body.wpIn (F.inRound l) (n - 1 - 1) P (ListPost w.heap.size g W2 (I g (i + 1)) Ix) a' W2) (fun _ _ _ => False))
        { tmps := (ps.zip (encs x)).foldl (fun t (p, v) => t.setIfInBounds p v) a.tmps, defers := [] } W)
    (hdone : ∀ (g : Nat) (W : World), I g xs.length W → W.heap[w.heap.size]? = some (.deferred (some [])) → Q .normal { a with defers := { target := .collected w.heap.size, args := #[] } :: a.defers } W)
    (hstop : ∀ (c : Code) (W : World), Ix c W → W.heap[w.heap.size]? = some (.deferred (some [])) → c.wpIn F n P Q { a with defers := { target := .collected w.heap.size, args := #[] } :: a.defers } W) :
    (Code.rangeFunc g ps assign body).wpIn F n P Q a w := by
  refine wpIn_rangeFunc fun fn hfn => ?_
  rw [hro]
  obtain ⟨B, hB⟩ : ∃ B, B = w.heap.size := ⟨_, rfl⟩
  rw [← hB] at hI hIx hround hdone hstop h0
  obtain ⟨rec, hrec⟩ : ∃ rec : LoopState → Option Code → Loop, rec = fun st pe => { state := st, pending := pe, fn, tmps := a.tmps, params := ps, assign, body, defers := B } := ⟨_, rfl⟩
  obtain ⟨W1, hW1⟩ : ∃ W1, (w.alloc (.deferred (some []))).alloc (.loop (rec .ready none)) = W1 := ⟨_, rfl⟩
  have hK0 : Keeps (fun _ => False) w W1 := by rw [← hW1]; exact ((Keeps.refl _ w).alloc _).alloc _
  have hS1 : W1.heap.size = B + 2 := by rw [← hW1, hB]; simp
  have hL1 : W1.heap[B + 1]? = some (.loop (rec .ready none)) := by
    have := World.alloc_heap_new (w.alloc (.deferred (some []))) (.loop (rec .ready none))
    rw [World.size_alloc, ← hB, hW1] at this
    exact this
  have hD1 : W1.heap[B]? = some (.deferred (some [])) := by
    rw [← hW1, hB]; exact (Below.heap_alloc _ _ _ (by simp)).trans (World.alloc_heap_new w _)
  refine ⟨B + 1, [{ target := .collected B, args := #[] }], W1, { target := .fn (.func gf) lb, args := #[.func (.yield (B + 1)) #[] #[]] }, W1, gf,
    #[.func (.yield (B + 1)) #[] #[]] ++ lb, W1, ?_, ?_, ?_, ?_, fun _ => h1, ?_⟩
  · rw [← hW1, hrec, hB]; exact run_enterLoop_outer _ _ _ _ _
  · simp only [resolve, hg]
    simp [go_sem]
  · intro f' hf'; simp [Target.leads] at hf'; subst hf'; exact hFg
  · simp [invoke, go_sem, eg]
  refine (hseq (B + 1) (fun g i W => I g i W ∧ B + 2 ≤ g ∧ W.heap[B]? = some (.deferred (some [])) ∧ W.heap[B + 1]? = some (.loop (rec .ready none)))
    (fun W => ∃ c, Ix c W ∧ W.heap[B]? = some (.deferred (some [])) ∧ W.heap[B + 1]? = some (.loop (rec .done (some c)))) W1 (hgood W1 hK0)
    (fun g W hK hg1 hg2 => ⟨h0 g W (hK0.trans hK (fun _ _ h => h)) (by omega) hg2, by omega, (hK.block B (by omega) (fun h => h)).trans hD1, (hK.block (B + 1) (by omega) (fun h => h)).trans hL1⟩)
    (fun g i W W' hK h => ⟨hI g i W _ (hK.mono fun _ _ h => h.elim) h.1, h.2.1, (hK.block B (Array.getElem?_eq_some_iff.1 h.2.2.1).1 (fun h => h)).trans h.2.2.1, (hK.block (B + 1) (Array.getElem?_eq_some_iff.1 h.2.2.2).1 (fun h => h)).trans h.2.2.2⟩) ?_).mono ?_
  · rintro g i x W hx ⟨hi, hgB, hd, hl⟩
    have hlt : B + 1 < W.heap.size := (Array.getElem?_eq_some_iff.1 hl).1
    have hy := run_yield (P := P) (args := encs x) hl (by rw [hrec]; exact hps x)
    rw [hrec] at hy
    refine ⟨fn, _, assign, body, hy, roundIn_of_wpIn hfn (wpIn_mono (hround _ g i x W hx hi hgB) ?_)⟩
    rintro e0 a' W' hp0
    cases e0 with
    | ret => exact hp0.elim
    | exit id => exact hp0.elim
    | goto t => exact hp0.elim
    | panic ch => exact hp0.elim
    | outgrown => exact hp0.elim
    | normal => ?_
    obtain ⟨rfl, hbody⟩ := hp0
    refine ⟨_, run_beginRound hl (by rw [hrec]), ?_⟩
    obtain ⟨W2, hW2⟩ : ∃ W2, W'.putObj (B + 1) (.loop { rec .ready none with state := .busy }) = W2 := ⟨_, rfl⟩
    have hk2 : Keeps (fun k => k = B ∨ k = B + 1) W' W2 := by rw [← hW2]; exact keeps_put W' B (B + 1) _ (.inr rfl)
    have hl2 : W2.heap[B + 1]? = some (.loop { rec .ready none with state := .busy }) := by rw [← hW2]; exact World.putObj_heap_same hlt
    have hd2 : W2.heap[B]? = some (.deferred (some [])) := by rw [← hW2]; exact (World.putObj_heap_other (by omega)).trans hd
    have hg2 : W2.heap[g]? = W'.heap[g]? := by rw [← hW2]; exact World.putObj_heap_other (by omega)
    rw [hW2]
    have back : ∀ (jump : Option Code) (W3 : World), KeptAt B g W2 W3 →
        ∃ W4, (Instr.endRound (B + 1) jump).run P W3 = .ok (.bool jump.isNone) W4 ∧ Keeps (fun k => k = B ∨ k = B + 1) W3 W4 ∧ W4.heap[B]? = some (.deferred (some [])) ∧
          W4.heap[B + 1]? = some (.loop (rec (if jump.isNone then .ready else .done) jump)) ∧ W4.heap[g]? = W'.heap[g]? := fun jump W3 h3 => by
      have hl3 := h3.2.1.trans hl2
      have hd3 := h3.1.trans hd2
      have h4 := run_endRound (P := P) jump hl3
      refine ⟨_, h4, keeps_put W3 B (B + 1) _ (.inr rfl), (World.putObj_heap_other (by omega)).trans hd3, ?_, (World.putObj_heap_other (by omega)).trans (h3.2.2.trans hg2)⟩
      rw [World.putObj_heap_same (Array.getElem?_eq_some_iff.1 hl3).1, hrec]
    refine wpIn_mono (hbody W2 (Array.getElem?_eq_some_iff.1 hl2).1 (hI g i _ W2 hk2 hi)) ?_
    rintro e a3 W3 hp
    cases e with
    | normal =>
      obtain ⟨h3, hi3⟩ := hp
      obtain ⟨W4, hr, hk4, hd4, hl4, hg4⟩ := back none W3 h3
      exact ⟨_, _, hr, hg4, .inl ⟨rfl, hI _ _ _ _ hk4 hi3, hgB, hd4, hl4⟩⟩
    | ret =>
      obtain ⟨h3, hi3⟩ := hp
      obtain ⟨W4, hr, hk4, hd4, hl4, hg4⟩ := back (some .ret) W3 h3
      exact ⟨_, _, hr, hg4, .inr ⟨rfl, .ret, hIx _ _ _ hk4 hi3, hd4, hl4⟩⟩
    | exit id =>
      obtain ⟨h3, hi3⟩ := hp
      obtain ⟨W4, hr, hk4, hd4, hl4, hg4⟩ := back (some (.exit id)) W3 h3
      exact ⟨_, _, hr, hg4, .inr ⟨rfl, .exit id, hIx _ _ _ hk4 hi3, hd4, hl4⟩⟩
    | goto t =>
      obtain ⟨h3, hi3⟩ := hp
      obtain ⟨W4, hr, hk4, hd4, hl4, hg4⟩ := back (some (.goto t)) W3 h3
      exact ⟨_, _, hr, hg4, .inr ⟨rfl, .goto t, hIx _ _ _ hk4 hi3, hd4, hl4⟩⟩
    | panic ch => exact hp.elim
    | outgrown => exact hp.elim
  · rintro e W2 ⟨⟨v, rfl⟩, (⟨g, hi, hgB, hd, hl⟩ | ⟨c, hi, hd, hl⟩)⟩
    · exact ⟨none, _, by have := run_endLoop (P := P) hl (by rw [hrec]; simp); rw [hrec] at this; exact this,
        hdone g _ (hI _ _ _ _ (keeps_put W2 B (B + 1) _ (.inr rfl)) hi) ((World.putObj_heap_other (by omega)).trans hd)⟩
    · exact ⟨some c, _, by have := run_endLoop (P := P) hl (by rw [hrec]; simp); rw [hrec] at this; exact this,
        hstop c _ (hIx _ _ _ (keeps_put W2 B (B + 1) _ (.inr rfl)) hi) ((World.putObj_heap_other (by omega)).trans hd)⟩

end Go.Proofs.Ytajhkilclmicjaa
