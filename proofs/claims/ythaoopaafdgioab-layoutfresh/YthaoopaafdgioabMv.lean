import Derived.Test.YthaoopaafdgioabQ
namespace Go.Proofs.Ythaoopaafdgioab
open Go.RowKit
set_option linter.unusedVariables false
set_option linter.unusedSimpArgs false
set_option maxRecDepth 8000

/-- Two layouts in the memory. -/
structure Duo (w : World) (L H b1 b2 : Nat) (F : Nat → PP) (G : Nat → CP) (T : Nat → List Int) (D : Nat → List Dst) : Prop where
  p : Blk w b1 (row5 (fun i => (F i).vs) L) 70
  c : Blk w b2 (row5 (fun i => (G i).vs) H) 63
  tr : ∀ i, i < L → Row eInt w 0 (F i).tv (T i)
  dr : ∀ i, i < H → Row eDst w 0 (G i).dv (D i)
theorem Duo.grow {w w' : World} {L H b1 b2 : Nat} {F : Nat → PP} {G : Nat → CP} {T : Nat → List Int} {D : Nat → List Dst} (h : Duo w L H b1 b2 F G T D) (hK : Keeps (fun _ => False) w w') : Duo w' L H b1 b2 F G T D :=
  ⟨h.p.kept hK fun h => h, h.c.kept hK fun h => h, fun i hi => (h.tr i hi).kept hK fun _ h => h.elim, fun i hi => (h.dr i hi).kept hK fun _ h => h.elim⟩
theorem Duo.pc {w : World} {L H b1 b2 : Nat} {F : Nat → PP} {G : Nat → CP} {T : Nat → List Int} {D : Nat → List Dst} (h : Duo w L H b1 b2 F G T D) {i : Nat} (hi : i < L) {k : Nat} {v : Value} (hk : k < 5) (hv : (F i).vs[k]? = some v) : w.cell? ⟨b1, i * 5 + k, none⟩ = some v :=
  h.p.cell (by rw [row5_get (fun i => PP.vs5 _) hi hk]; exact hv)
theorem Duo.cc {w : World} {L H b1 b2 : Nat} {F : Nat → PP} {G : Nat → CP} {T : Nat → List Int} {D : Nat → List Dst} (h : Duo w L H b1 b2 F G T D) {i : Nat} (hi : i < H) {k : Nat} {v : Value} (hk : k < 5) (hv : (G i).vs[k]? = some v) : w.cell? ⟨b2, i * 5 + k, none⟩ = some v :=
  h.c.cell (by rw [row5_get (fun i => CP.vs5 _) hi hk]; exact hv)
/-- The numbers are small, and the second is the first, one frame further on. -/
structure Mvd (L H : Nat) (F F' : Nat → PP) (G G' : Nat → CP) (T T' : Nat → List Int) (D D' : Nat → List Dst) : Prop where
  pf : ∀ i, i < L → (0 ≤ (F i).lock ∧ (F i).lock ≤ 100000 ∧ 0 ≤ (F i).save ∧ (F i).save ≤ 100000 ∧ 0 ≤ (F i).state ∧ (F i).state ≤ 100000 ∧ 0 ≤ (F i).root ∧ (F i).root ≤ 100000) ∧
    (F' i).lock = (F i).lock + 16 ∧ (F' i).save = (F i).save + 16 ∧ (F' i).state = (F i).state + 16 ∧ (F' i).root = (F i).root + 1 ∧ T' i = (T i).map (· + 1) ∧ ∀ y ∈ T i, 0 ≤ y ∧ y ≤ 100000
  cf : ∀ i, i < H → (0 ≤ (G i).lock ∧ (G i).lock ≤ 100000 ∧ 0 ≤ (G i).stage ∧ (G i).stage ≤ 100000) ∧
    (G' i).lock = (G i).lock + 16 ∧ (G' i).stage = (G i).stage + 16 ∧ (G' i).sp = (G i).sp ∧ (G' i).sq = (G i).sq ∧ D' i = (D i).map (fun d => ⟨d.p, d.q, d.pos + 16⟩) ∧ ∀ d ∈ D i, 0 ≤ d.pos ∧ d.pos ≤ 100000

end Go.Proofs.Ythaoopaafdgioab
