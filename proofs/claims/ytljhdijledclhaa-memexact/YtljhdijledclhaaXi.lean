import Derived.Test.YtljhdijledclhaaIn
import Derived.Test.YtljhdijledclhaaXa
import Derived.WalkKit
import Derived.ProofKit
import Derived.OpenShut
import Derived.ChangeOld
import Derived.Below
import Derived.Deep.Slices
import Derived.Deep.Strs
namespace Go.Proofs.Ytljhdijledclhaa
open Go.ChangeShapes Go.WideShapes Go.ChangeAt Go.RowKit Go.Deep
set_option linter.unusedVariables false

theorem cells3 : Try.prog.cellsOf 3 = 1 := by kernel_rfl
theorem cells26 : Try.prog.cellsOf 26 = 1 := by kernel_rfl
theorem cells27 : Try.prog.cellsOf 27 = 1 := by kernel_rfl
theorem cells29 : Try.prog.cellsOf 29 = 8 := by kernel_rfl

set_option maxRecDepth 100000 in
/-- A script that came in. -/
theorem script_in {H : Type} {enc : TypeId × Value → H} {W : World} {v : Value} {d : DataW H} {p : List MemPlace} {base : Nat} (hv : Value.okWide Try.prog W .any base 22 v)
    (h : DataW.Trod enc Try.prog W 0 (fun _ => true) true 22 v d p) : ∃ a os c, v = .slice a (List.length (α := Oc) os) c ∧ os.length ≤ maxLen ∧ SegOc W a os ∧ (∀ o ∈ os, o.Ok W) := by
  obtain ⟨a0, len, cap, rfl⟩ := okWide_slice Try.underlying22 hv
  obtain ⟨fuel, hf⟩ := h
  rcases open_slice Try.underlying22 hf with ⟨hcs, _⟩ | ⟨x, l, c, m, n, D, Pl, hcs, _, hl, hm, hmm, hx, hcell⟩
  · simp [Value.cells] at hcs
    obtain ⟨rfl, rfl, rfl⟩ := hcs
    exact ⟨none, [], 0, rfl, Nat.zero_le _, .inl rfl, fun it hit => by cases hit⟩
  · simp [Value.cells] at hcs
    obtain ⟨rfl, rfl, rfl⟩ := hcs
    have hmc : m = cap := by simpa using hmm
    subst hmc
    have each : ∀ i, i < len → ∃ d : Oc, (∀ q u, d.cells.toList[q]? = some u → W.cell? (x.add (i * 8 + q)) = some u) ∧ d.Ok W := by
      intro i hi
      obtain ⟨cs', h1, h2⟩ := hcell i (by omega)
      rw [cells29] at h1
      obtain ⟨_, hlen8, hc8⟩ := World.cells?_some h1
      obtain ⟨xs, n', _, hxs, _, hlenx, hfs⟩ := DataW.trod_struct Try.underlying29 h2
      obtain ⟨y0, y1, y2, y3, y4, y5, y6, y7, rfl⟩ : ∃ y0 y1 y2 y3 y4 y5 y6 y7, xs = [y0, y1, y2, y3, y4, y5, y6, y7] := by
        match xs, hlenx with
        | [y0, y1, y2, y3, y4, y5, y6, y7], _ => exact ⟨y0, y1, y2, y3, y4, y5, y6, y7, rfl⟩
      obtain ⟨c0, c1, c2, c3, c4, c5, c6, c7, rfl⟩ : ∃ c0 c1 c2 c3 c4 c5 c6 c7, cs' = [c0, c1, c2, c3, c4, c5, c6, c7] := by
        match cs', hlen8 with
        | [c0, c1, c2, c3, c4, c5, c6, c7], _ => exact ⟨c0, c1, c2, c3, c4, c5, c6, c7, rfl⟩
      have g0 := hfs 0 _ rfl
      have g1 := hfs 1 _ rfl
      have g2 := hfs 2 _ rfl
      have g3 := hfs 3 _ rfl
      have g4 := hfs 4 _ rfl
      have g5 := hfs 5 _ rfl
      have g6 := hfs 6 _ rfl
      have g7 := hfs 7 _ rfl
      simp [cells3, cells26, cells27] at g0 g1 g2 g3 g4 g5 g6 g7
      obtain ⟨K0, e0, _, w0⟩ := DataW.trod_int Try.underlying3 g0
      obtain ⟨K1, e1, _, w1⟩ := DataW.trod_int Try.underlying3 g1
      obtain ⟨K2, e2, _, w2⟩ := DataW.trod_int Try.underlying3 g2
      obtain ⟨K3, e3, _, w3⟩ := DataW.trod_int Try.underlying3 g3
      obtain ⟨K4, e4, _, w4⟩ := DataW.trod_int Try.underlying3 g4
      obtain ⟨K5, e5, _, w5⟩ := DataW.trod_int Try.underlying3 g5
      obtain ⟨K6, e6, _, w6⟩ := DataW.trod_int Try.underlying26 g6
      obtain ⟨a7, ws, k7, e7', l7, s7⟩ := words_cell g7
      simp at e0 e1 e2 e3 e4 e5 e6 e7'
      subst e0 e1 e2 e3 e4 e5 e6 e7'
      have b6 := wf_u32 w6
      refine ⟨⟨K0, K1, K2, K3, K4, K5, UInt32.ofNat K6.toNat, a7, ws, k7⟩, ?_, ⟨wf_i64 w1, wf_i64 w2, wf_i64 w3, wf_i64 w4, wf_i64 w5, l7, s7⟩⟩
      have e6' : (((UInt32.ofNat K6.toNat).toNat : Nat) : Int) = K6 := by rw [UInt32.toNat_ofNat']; omega
      intro q u hq
      have hq8 : q < 8 := (List.getElem?_eq_some_iff.1 hq).1
      have h3 := hc8 q hq8
      rw [add_add] at h3
      rw [h3, ← hq]
      simp only [Oc.cells, e6']
    obtain ⟨V, hV⟩ := choose_lt each
    refine ⟨some x, (List.range len).map V, m, by simp, by simp; omega, ?_, ?_⟩
    · by_cases h0 : len = 0
      · exact .inl (by simp [h0])
      · obtain ⟨b, off, spot⟩ := x
        have hc := (hV 0 (by omega)).1 0 _ rfl
        have hspot : spot = none := by simpa [Addr.add] using World.cell?_spot hc
        subst hspot
        refine .inr ⟨b, off, rfl, fun j l hj => ?_⟩
        have hj' : j < len := by
          have := (List.getElem?_eq_some_iff.1 hj).1
          simpa using this
        have e : l = V j := by simp [hj'] at hj; exact hj.symm
        subst e
        intro i v hv
        have h1 := (hV j hj').1 i v hv
        rw [addr_add] at h1
        rw [Nat.add_assoc]; exact h1
    · intro l hl
      obtain ⟨i, hi, rfl⟩ := List.mem_map.1 hl
      exact (hV i (by simpa using hi)).2
end Go.Proofs.Ytljhdijledclhaa
