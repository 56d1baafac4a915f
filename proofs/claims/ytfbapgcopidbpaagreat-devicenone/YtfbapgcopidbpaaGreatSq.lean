import Derived.Test.YtfbapgcopidbpaaGreatSp
namespace Go.Proofs.YtfbapgcopidbpaaGreat
open Go.RowKit
set_option linter.unusedVariables false
set_option linter.unusedSimpArgs false
set_option maxRecDepth 6000

def sumK (hist : List (Ow × Int)) : Int := (hist.map (·.2)).sum
theorem sumK_app (hist : List (Ow × Int)) (o : Ow) (k : Int) : sumK (hist ++ [(o, k)]) = sumK hist + k := by simp [sumK]
/-- Whose the word t is, of words that were dealt from s on: the last one's that got it. -/
def lastGo (t : Int) : Int → Ow → List (Ow × Int) → Ow
  | _, f, [] => f
  | s, f, (o, k) :: r => lastGo t (s + k) (if s ≤ t ∧ t < s + k then o else f) r
theorem lastGo_app (t : Int) (o : Ow) (k : Int) : ∀ (hist : List (Ow × Int)) (s : Int) (f : Ow), lastGo t s f (hist ++ [(o, k)]) = if s + sumK hist ≤ t ∧ t < s + sumK hist + k then o else lastGo t s f hist
  | [], s, f => by simp [lastGo, sumK]
  | (o', k') :: r, s, f => by
    have := lastGo_app t o k r (s + k') (if s ≤ t ∧ t < s + k' then o' else f)
    simp only [List.cons_append, lastGo]
    rw [this]
    have e : s + k' + sumK r = s + sumK ((o', k') :: r) := by simp [sumK]; omega
    rw [e]

/-- The counter of an owner: it counts, and keeps who got the word t. -/
structure JO (B K A F : Nat) (s t : Int) (w : World) (a : Int) (hist : List (Ow × Int)) : Prop where
  cnt : Blk w B [.int .i64 a] 3
  fn : Blk w K [.func (.func 96) #[] #[.pointer (some ⟨B, 0, none⟩)]] 133
  word : Blk w A [.int .i64 t] 3
  found : Blk w F (lastGo t s ⟨0, 0, 0⟩ hist).vs 86
  sum : a = s + sumK hist
  apart : B ≠ K ∧ B ≠ A ∧ B ≠ F ∧ K ≠ A ∧ K ≠ F ∧ A ≠ F
def SO (B K A F : Nat) : Nat → Prop := fun b => b = B ∨ b = K ∨ b = A ∨ b = F
theorem JO.kept {B K A F : Nat} {s t : Int} {w w' : World} {a : Int} {hist : List (Ow × Int)} {T : Nat → Prop} (h : JO B K A F s t w a hist) (hK : Keeps T w w') (hT : ∀ k, SO B K A F k → ¬ T k) : JO B K A F s t w' a hist :=
  ⟨h.cnt.kept hK (hT _ (.inl rfl)), h.fn.kept hK (hT _ (.inr (.inl rfl))), h.word.kept hK (hT _ (.inr (.inr (.inl rfl)))), h.found.kept hK (hT _ (.inr (.inr (.inr rfl)))), h.sum, h.apart⟩

end Go.Proofs.YtfbapgcopidbpaaGreat
