import Derived.Test.YtomjodoimjiceaaDoorGd
import Derived.ProofKit
import Derived.OpenShut
import Derived.ChangeOld
import Derived.ChangeSlices
import Derived.Deep.Slices
import Derived.Deep.Strs
namespace Go.Proofs.YtomjodoimjiceaaDoor
open Go.ChangeShapes Go.WideShapes Go.ChangeAt Go.RowKit Go.Deep
set_option linter.unusedVariables false
set_option maxRecDepth 6000

theorem own : ownKnob Tryd.prog.godebug = none := by kernel_rfl
theorem laidOut : laidOutB Tryd.prog = true := by kernel_rfl
theorem wf_i64 {n : Int} (h : (Lit.int .i64 n).wf = true) : I.I64 n := by
  have : -9223372036854775808 ≤ n ∧ n ≤ 9223372036854775807 := by simpa [Lit.wf, IntKind.min, IntKind.max, IntKind.signed, IntKind.bits] using h
  exact this
theorem cells37 : Tryd.prog.cellsOf 37 = 3 := by kernel_rfl
theorem cells3 : Tryd.prog.cellsOf 3 = 1 := by kernel_rfl
theorem cells9 : Tryd.prog.cellsOf 9 = 1 := by kernel_rfl

/-- A call. -/
structure Opr where
  kind : Int
  key : Int
  text : ByteArray
instance : Inhabited Opr := ⟨⟨0, 0, ⟨#[]⟩⟩⟩
/-- A call lies there. -/
def OpAt (w : World) (g o : Nat) (l : Opr) : Prop := w.cell? ⟨g, o, none⟩ = some (.int .i64 l.kind) ∧ w.cell? ⟨g, o + 1, none⟩ = some (.int .i64 l.key) ∧ w.cell? ⟨g, o + 2, none⟩ = some (.string l.text)
/-- These calls can be read at this address. -/
def SegO (w : World) (a : Option Addr) (ls : List Opr) : Prop :=
  ls = [] ∨ ∃ g o, a = some ⟨g, o, none⟩ ∧ ∀ j l, ls[j]? = some l → OpAt w g (o + j * 3) l

theorem OpAt.kept {S : Nat → Prop} {w w' : World} {g o : Nat} {l : Opr} (h : OpAt w g o l) (hK : Keeps S w w') (hn : ¬ S g) : OpAt w' g o l := by
  have hlt : g < w.heap.size := World.block_lt_of_cell? w ⟨g, o, none⟩ h.1
  have e : ∀ i, w'.cell? ⟨g, i, none⟩ = w.cell? ⟨g, i, none⟩ := fun i => World.cell?_of_block (w := w) (hK.block g hlt hn)
  exact ⟨(e _).trans h.1, (e _).trans h.2.1, (e _).trans h.2.2⟩

theorem op_cell {H : Type} {enc : TypeId × Value → H} {W : World} {cs : List Value} {x : DataW H × List MemPlace} {fuel : Nat} (hl : cs.length = 3)
    (h : DataW.trod enc Tryd.prog W 0 (fun _ => true) true fuel 37 cs = some x) : ∃ l : Opr, cs = [.int .i64 l.kind, .int .i64 l.key, .string l.text] ∧ (I.I64 l.key ∧ l.text.size ≤ maxLen) := by
  obtain ⟨xs, n', _, _, _, hlenx, hfs⟩ := DataW.trod_struct Tryd.underlying37 h
  obtain ⟨y0, y1, y2, rfl⟩ : ∃ y0 y1 y2, xs = [y0, y1, y2] := by
    match xs, hlenx with
    | [y0, y1, y2], _ => exact ⟨y0, y1, y2, rfl⟩
  obtain ⟨c0, c1, c2, rfl⟩ : ∃ c0 c1 c2, cs = [c0, c1, c2] := by
    match cs, hl with
    | [c0, c1, c2], _ => exact ⟨c0, c1, c2, rfl⟩
  have g0 := hfs 0 _ rfl
  have g1 := hfs 1 _ rfl
  have g2 := hfs 2 _ rfl
  simp [cells3, cells9] at g0 g1 g2
  obtain ⟨K0, e0, _, w0⟩ := DataW.trod_int Tryd.underlying3 g0
  obtain ⟨K1, e1, _, w1⟩ := DataW.trod_int Tryd.underlying3 g1
  obtain ⟨t, e2, _, z2⟩ := DataW.trod_string Tryd.underlying9 g2
  simp at e0 e1 e2
  subst e0 e1 e2
  exact ⟨⟨K0, K1, t⟩, rfl, wf_i64 w1, z2⟩

theorem ops_cell {H : Type} {enc : TypeId × Value → H} {W : World} {cs : List Value} {x : DataW H × List MemPlace} {fuel : Nat}
    (h : DataW.trod enc Tryd.prog W 0 (fun _ => true) true fuel 22 cs = some x) : ∃ a ls c, cs = [.slice a (List.length (α := Opr) ls) c] ∧ (ls.length ≤ c ∧ c ≤ maxLen) ∧ SegO W a ls ∧ ∀ l ∈ ls, (I.I64 l.key ∧ l.text.size ≤ maxLen) := by
  rcases open_slice Tryd.underlying22 h with ⟨hcs, _⟩ | ⟨x, len, cap, m, n, D, Pl, hcs, _, hl, hm, hmm, hx, hcell⟩
  · exact ⟨none, [], 0, hcs, ⟨Nat.zero_le _, Nat.zero_le _⟩, .inl rfl, fun l hl => by cases hl⟩
  · have hmc : m = cap := by simpa using hmm
    subst hmc
    have each : ∀ i, i < len → ∃ l : Opr, W.cell? (x.add (i * 3)) = some (.int .i64 l.kind) ∧ W.cell? (x.add (i * 3 + 1)) = some (.int .i64 l.key) ∧ W.cell? (x.add (i * 3 + 2)) = some (.string l.text) ∧ (I.I64 l.key ∧ l.text.size ≤ maxLen) := by
      intro i hi
      obtain ⟨cs', h1, h2⟩ := hcell i (by omega)
      rw [cells37] at h1
      obtain ⟨_, hlen3, hc3⟩ := World.cells?_some h1
      obtain ⟨l, rfl, hF⟩ := op_cell hlen3 h2
      have q0 := hc3 0 (by omega)
      have q1 := hc3 1 (by omega)
      have q2 := hc3 2 (by omega)
      rw [add_add] at q0 q1 q2
      exact ⟨l, by simpa using q0, by simpa using q1, by simpa using q2, hF⟩
    obtain ⟨V, hV⟩ := choose_lt each
    refine ⟨some x, (List.range len).map V, m, by simp [hcs], by simp; omega, ?_, ?_⟩
    · by_cases h0 : len = 0
      · exact .inl (by simp [h0])
      · obtain ⟨b, off, spot⟩ := x
        have hc := (hV 0 (by omega)).1
        have hspot : spot = none := by simpa [Addr.add] using World.cell?_spot hc
        subst hspot
        refine .inr ⟨b, off, rfl, fun j l hj => ?_⟩
        have hj' : j < len := by
          have := (List.getElem?_eq_some_iff.1 hj).1
          simpa using this
        have e : l = V j := by simp [hj'] at hj; exact hj.symm
        subst e
        obtain ⟨h1, h2, h3, _⟩ := hV j hj'
        rw [addr_add] at h1 h2 h3
        exact ⟨h1, by rw [Nat.add_assoc]; exact h2, by rw [Nat.add_assoc]; exact h3⟩
    · intro l hl
      obtain ⟨i, hi, rfl⟩ := List.mem_map.1 hl
      exact (hV i (by simpa using hi)).2.2.2

/-- A list of calls that came in. -/
theorem ops_in {H : Type} {enc : TypeId × Value → H} {W : World} {v : Value} {d : DataW H} {p : List MemPlace} {base : Nat} (hv : Value.okWide Tryd.prog W .any base 22 v)
    (h : DataW.Trod enc Tryd.prog W 0 (fun _ => true) true 22 v d p) : ∃ a ls c, v = .slice a (List.length (α := Opr) ls) c ∧ (ls.length ≤ c ∧ c ≤ maxLen) ∧ SegO W a ls ∧ ∀ l ∈ ls, (I.I64 l.key ∧ l.text.size ≤ maxLen) := by
  obtain ⟨a0, len, cap, rfl⟩ := okWide_slice Tryd.underlying22 hv
  obtain ⟨fuel, hf⟩ := h
  obtain ⟨a, ls, c, hcs, hl, hs⟩ := ops_cell hf
  simp [Value.cells] at hcs
  obtain ⟨rfl, rfl, rfl⟩ := hcs
  exact ⟨_, ls, _, rfl, hl, hs⟩

end Go.Proofs.YtomjodoimjiceaaDoor
