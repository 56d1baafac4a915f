import Derived.Test.YtadhldpeklkcmaaSt
import Derived.Test.YtadhldpeklkcmaaSk
namespace Go.Proofs.Ytadhldpeklkcmaa
open Go.RowKit
set_option linter.unusedVariables false
set_option maxRecDepth 10000

/-- Behind the first step of the chain over the lock 2, behind the second. -/
theorem step_one : (stepP [2] [] 1 (List.replicate (2 * 16) 0)).tk = [0] ∧ (stepP [2] [] 1 (List.replicate (2 * 16) 0)).st = 2 ∧ (stepP [2] [0] 2 (stepP [2] [] 1 (List.replicate (2 * 16) 0)).xs).st = 0 := by
  refine ⟨?_, ?_, ?_⟩ <;> decide

/-- Where all begins. -/
def p0 (WB mb g nb h mb2 g2 nb2 h2 : Nat) : Pst := ⟨WB, mb, g, nb, h, mb2, g2, nb2, h2, List.replicate (2 * 16) 0, List.replicate (2 * 16) 0, List.replicate (2 * 16) 0, List.replicate (2 * 16) 0, .slice none 0 0, .slice none 0 0, [], [], []⟩

theorem p0_ok {w w' : World} {WB mb g nb h mb2 g2 nb2 h2 : Nat} (hW : Blk w' WB [.pointer (some ⟨mb, 0, none⟩), .pointer (some ⟨nb, 0, none⟩), .pointer (some ⟨mb2, 0, none⟩), .pointer (some ⟨nb2, 0, none⟩), .slice none 0 0, .slice none 0 0, .slice none 0 0] 41)
    (h1 : Mm w' mb g (List.replicate (2 * 16) 0)) (h2' : Rm w' nb h (List.replicate (2 * 16) 0)) (h3 : Mm w' mb2 g2 (List.replicate (2 * 16) 0)) (h4 : Rm w' nb2 h2 (List.replicate (2 * 16) 0))
    (hN : w.heap.size ≤ WB) (a1 : WB < g) (a2 : g < mb) (a3 : mb < h) (a4 : h < nb) (a5 : nb < g2) (a6 : g2 < mb2) (a7 : mb2 < h2) (a8 : h2 < nb2) : (p0 WB mb g nb h mb2 g2 nb2 h2).Ok w.heap.size w' ∧ (p0 WB mb g nb h mb2 g2 nb2 h2).Same := by
  have l8 := h4.blk.lt
  have hF : ∀ key k, (p0 WB mb g nb h mb2 g2 nb2 h2).F key k → (key = 0 ∧ k = WB) ∨ (key = 1 ∧ (k = mb ∨ k = g)) ∨ (key = 2 ∧ (k = nb ∨ k = h)) ∨ (key = 3 ∧ (k = mb2 ∨ k = g2)) ∨ (key = 4 ∧ (k = nb2 ∨ k = h2)) := by
    rintro key k (e | e | e | e | e | ⟨-, e⟩ | ⟨-, e⟩ | ⟨j, D, hD, -⟩ | ⟨j, D, hD, -⟩)
    · exact .inl e
    · exact .inr (.inl e)
    · exact .inr (.inr (.inl e))
    · exact .inr (.inr (.inr (.inl e)))
    · exact .inr (.inr (.inr (.inr e)))
    · simp [p0, Value.ownBlock] at e
    · rcases e with e | ⟨i, e, he, -⟩
      · simp [p0, Value.ownBlock] at e
      · simp [p0] at he
    · simp [p0] at hD
    · simp [p0] at hD
  refine ⟨⟨hW, h1, h2', h3, h4, ⟨rfl, .inl ⟨rfl, rfl⟩⟩, rfl, (fun i X hX => by simp [p0] at hX), (fun i X hX => by simp [p0] at hX), ⟨⟨rfl, .inl ⟨rfl, rfl⟩⟩, (fun i e he => by simp [p0] at he), (fun i e he => by simp [p0] at he), (fun i e he => by simp [p0] at he), (fun i j e e2 k he => by simp [p0] at he), (fun i e k he => by simp [p0] at he), (fun i e k he => by simp [p0] at he)⟩, ⟨?_, ?_, ?_⟩, by have := hW.lt; omega⟩, ⟨rfl, rfl, fun i X Y hX => by simp [p0] at hX⟩⟩
  · intro i j k hi hj
    have := hF i k hi
    have := hF j k hj
    omega
  · intro i k hi
    have := hF i k hi
    omega
  · intro i k hi
    have := hF i k hi
    omega

end Go.Proofs.Ytadhldpeklkcmaa
