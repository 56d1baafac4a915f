import Derived.Test.YtakidbjkpbgmmaaB
import Derived.ProofKit
import Derived.OpenShut
import Derived.ChangeOld
import Derived.ChangeSlices
import Derived.Deep.Slices
import Derived.Deep.Strs
namespace Go.Proofs.Ytakidbjkpbgmmaa
open Go.ChangeShapes Go.WideShapes Go.ChangeAt Go.RowKit Go.Deep
set_option linter.unusedVariables false

theorem own : ownKnob Try.prog.godebug = none := by kernel_rfl
theorem laidOut : laidOutB Try.prog = true := by kernel_rfl
theorem wf_i64 {n : Int} (h : (Lit.int .i64 n).wf = true) : I64 n := by
  have : -9223372036854775808 ≤ n ∧ n ≤ 9223372036854775807 := by simpa [Lit.wf, IntKind.min, IntKind.max, IntKind.signed, IntKind.bits] using h
  exact this
theorem cells38 : Try.prog.cellsOf 38 = 3 := by kernel_rfl
theorem cells30 : Try.prog.cellsOf 30 = 6 := by kernel_rfl
theorem cells3 : Try.prog.cellsOf 3 = 1 := by kernel_rfl
theorem cells26 : Try.prog.cellsOf 26 = 1 := by kernel_rfl

instance : Inhabited Lf := ⟨⟨0, 0, 0⟩⟩
/-- Its numbers are ints. -/
def Lf.Fine (l : Lf) : Prop := I64 l.p ∧ I64 l.f ∧ I64 l.r

/-- A leaf lies there. -/
def LeafAt (w : World) (g o : Nat) (l : Lf) : Prop := w.cell? ⟨g, o, none⟩ = some (.int .i64 l.p) ∧ w.cell? ⟨g, o + 1, none⟩ = some (.int .i64 l.f) ∧ w.cell? ⟨g, o + 2, none⟩ = some (.int .i64 l.r)

/-- These leaves can be read at this address. -/
def SegL (w : World) (a : Option Addr) (ls : List Lf) : Prop :=
  ls = [] ∨ ∃ g o, a = some ⟨g, o, none⟩ ∧ ∀ j l, ls[j]? = some l → LeafAt w g (o + j * 3) l

theorem LeafAt.kept {S : Nat → Prop} {w w' : World} {g o : Nat} {l : Lf} (h : LeafAt w g o l) (hK : Keeps S w w') (hn : ¬ S g) : LeafAt w' g o l := by
  have hlt : g < w.heap.size := World.block_lt_of_cell? w ⟨g, o, none⟩ h.1
  have e : ∀ i, w'.cell? ⟨g, i, none⟩ = w.cell? ⟨g, i, none⟩ := fun i => World.cell?_of_block (w := w) (hK.block g hlt hn)
  exact ⟨(e _).trans h.1, (e _).trans h.2.1, (e _).trans h.2.2⟩
theorem LeafAt.lt {w : World} {g o : Nat} {l : Lf} (h : LeafAt w g o l) : g < w.heap.size := World.block_lt_of_cell? w ⟨g, o, none⟩ h.1

theorem SegL.kept {S : Nat → Prop} {w w' : World} {a : Option Addr} {ls : List Lf} (h : SegL w a ls) (hK : Keeps S w w') (hn : ∀ x, a = some x → ¬ S x.block) : SegL w' a ls := by
  rcases h with h | ⟨g, o, ha, hc⟩
  · exact .inl h
  · exact .inr ⟨g, o, ha, fun j l hj => (hc j l hj).kept hK (hn _ ha)⟩

theorem leaf_cell {H : Type} {enc : TypeId × Value → H} {W : World} {cs : List Value} {x : DataW H × List MemPlace} {fuel : Nat} (hl : cs.length = 3)
    (h : DataW.trod enc Try.prog W 0 (fun _ => true) true fuel 38 cs = some x) : ∃ l : Lf, cs = l.vs ∧ l.Fine := by
  obtain ⟨xs, n', _, _, _, hlenx, hfs⟩ := DataW.trod_struct Try.underlying38 h
  obtain ⟨y0, y1, y2, rfl⟩ : ∃ y0 y1 y2, xs = [y0, y1, y2] := by
    match xs, hlenx with
    | [y0, y1, y2], _ => exact ⟨y0, y1, y2, rfl⟩
  obtain ⟨c0, c1, c2, rfl⟩ : ∃ c0 c1 c2, cs = [c0, c1, c2] := by
    match cs, hl with
    | [c0, c1, c2], _ => exact ⟨c0, c1, c2, rfl⟩
  have g0 := hfs 0 _ rfl
  have g1 := hfs 1 _ rfl
  have g2 := hfs 2 _ rfl
  simp [cells3] at g0 g1 g2
  obtain ⟨K0, e0, _, w0⟩ := DataW.trod_int Try.underlying3 g0
  obtain ⟨K1, e1, _, w1⟩ := DataW.trod_int Try.underlying3 g1
  obtain ⟨K2, e2, _, w2⟩ := DataW.trod_int Try.underlying3 g2
  simp at e0 e1 e2
  subst e0 e1 e2
  exact ⟨⟨K0, K1, K2⟩, rfl, wf_i64 w0, wf_i64 w1, wf_i64 w2⟩

/-- A leaf that came in. -/
theorem leaf_in {H : Type} {enc : TypeId × Value → H} {W : World} {v : Value} {d : DataW H} {p : List MemPlace} {base : Nat} (hv : Value.okWide Try.prog W .any base 38 v)
    (h : DataW.Trod enc Try.prog W 0 (fun _ => true) true 38 v d p) : ∃ l : Lf, v = l.v ∧ l.Fine := by
  obtain ⟨cs, rfl, hsz⟩ := okWide_struct Try.underlying38 hv
  obtain ⟨fuel, hf⟩ := h
  have hf' : DataW.trod enc Try.prog W 0 (fun _ => true) true fuel 38 cs.toList = some (d, p) := hf
  obtain ⟨l, hl, hF⟩ := leaf_cell (by rw [Array.length_toList, hsz]; kernel_rfl) hf'
  exact ⟨l, by rw [← Array.toArray_toList (xs := cs), hl], hF⟩

/-- A list of leaves, by its cell. -/
theorem leaves_cell {H : Type} {enc : TypeId × Value → H} {W : World} {cs : List Value} {x : DataW H × List MemPlace} {fuel : Nat}
    (h : DataW.trod enc Try.prog W 0 (fun _ => true) true fuel 26 cs = some x) : ∃ a ls c, cs = [.slice a (List.length (α := Lf) ls) c] ∧ (ls.length ≤ c ∧ c ≤ maxLen) ∧ SegL W a ls ∧ ∀ l ∈ ls, l.Fine := by
  rcases open_slice Try.underlying26 h with ⟨hcs, _⟩ | ⟨x, len, cap, m, n, D, Pl, hcs, _, hl, hm, hmm, hx, hcell⟩
  · exact ⟨none, [], 0, hcs, ⟨Nat.zero_le _, Nat.zero_le _⟩, .inl rfl, fun l hl => by cases hl⟩
  · have hmc : m = cap := by simpa using hmm
    subst hmc
    have each : ∀ i, i < len → ∃ l : Lf, W.cell? (x.add (i * 3)) = some (.int .i64 l.p) ∧ W.cell? (x.add (i * 3 + 1)) = some (.int .i64 l.f) ∧ W.cell? (x.add (i * 3 + 2)) = some (.int .i64 l.r) ∧ l.Fine := by
      intro i hi
      obtain ⟨cs', h1, h2⟩ := hcell i (by omega)
      rw [cells38] at h1
      obtain ⟨_, hlen3, hc3⟩ := World.cells?_some h1
      obtain ⟨l, rfl, hF⟩ := leaf_cell hlen3 h2
      have q0 := hc3 0 (by omega)
      have q1 := hc3 1 (by omega)
      have q2 := hc3 2 (by omega)
      rw [add_add] at q0 q1 q2
      exact ⟨l, by simpa using q0, by simpa using q1, by simpa using q2, hF⟩
    obtain ⟨V, hV⟩ := choose_lt each
    refine ⟨some x, (List.range len).map V, m, by simp [hcs], by simp; omega, ?_, ?_⟩
    · by_cases h0 : len = 0
      · exact .inl (by simp [h0])
      · obtain ⟨b, off, spot⟩ := x
        have hc := (hV 0 (by omega)).1
        have hspot : spot = none := by simpa [Addr.add] using World.cell?_spot hc
        subst hspot
        refine .inr ⟨b, off, rfl, fun j l hj => ?_⟩
        have hj' : j < len := by
          have := (List.getElem?_eq_some_iff.1 hj).1
          simpa using this
        have e : l = V j := by simp [hj'] at hj; exact hj.symm
        subst e
        obtain ⟨h1, h2, h3, _⟩ := hV j hj'
        rw [addr_add] at h1 h2 h3
        exact ⟨h1, by rw [Nat.add_assoc]; exact h2, by rw [Nat.add_assoc]; exact h3⟩
    · intro l hl
      obtain ⟨i, hi, rfl⟩ := List.mem_map.1 hl
      exact (hV i (by simpa using hi)).2.2.2

/-- A list of leaves that came in. -/
theorem leaves_in {H : Type} {enc : TypeId × Value → H} {W : World} {v : Value} {d : DataW H} {p : List MemPlace} {base : Nat} (hv : Value.okWide Try.prog W .any base 26 v)
    (h : DataW.Trod enc Try.prog W 0 (fun _ => true) true 26 v d p) : ∃ a ls c, v = .slice a (List.length (α := Lf) ls) c ∧ (ls.length ≤ c ∧ c ≤ maxLen) ∧ SegL W a ls ∧ ∀ l ∈ ls, l.Fine := by
  obtain ⟨a0, len, cap, rfl⟩ := okWide_slice Try.underlying26 hv
  obtain ⟨fuel, hf⟩ := h
  obtain ⟨a, ls, c, hcs, hl, hs⟩ := leaves_cell hf
  simp [Value.cells] at hcs
  obtain ⟨rfl, rfl, rfl⟩ := hcs
  exact ⟨_, ls, _, rfl, hl, hs⟩

/-- A call on one of two. -/
structure OpV where
  which : Int
  kind : Int
  l : Lf
  ad : Option Addr
  ls : List Lf
  cap : Nat
instance : Inhabited OpV := ⟨⟨0, 0, ⟨0, 0, 0⟩, none, [], 0⟩⟩
def OpV.Fine (o : OpV) : Prop := (I64 o.which ∧ I64 o.kind) ∧ o.l.Fine ∧ (o.ls.length ≤ o.cap ∧ o.cap ≤ maxLen) ∧ ∀ l ∈ o.ls, l.Fine
abbrev OpV.v (o : OpV) : Value := .agg #[.int .i64 o.which, .int .i64 o.kind, .int .i64 o.l.p, .int .i64 o.l.f, .int .i64 o.l.r, .slice o.ad o.ls.length o.cap]
abbrev OpV.vs (o : OpV) : List Value := [.int .i64 o.which, .int .i64 o.kind, .int .i64 o.l.p, .int .i64 o.l.f, .int .i64 o.l.r, .slice o.ad o.ls.length o.cap]

/-- Such a call lies there. -/
def OpAt (w : World) (g o : Nat) (x : OpV) : Prop := (w.cell? ⟨g, o, none⟩ = some (.int .i64 x.which) ∧ w.cell? ⟨g, o + 1, none⟩ = some (.int .i64 x.kind) ∧ w.cell? ⟨g, o + 2, none⟩ = some (.int .i64 x.l.p) ∧
  w.cell? ⟨g, o + 3, none⟩ = some (.int .i64 x.l.f) ∧ w.cell? ⟨g, o + 4, none⟩ = some (.int .i64 x.l.r) ∧ w.cell? ⟨g, o + 5, none⟩ = some (.slice x.ad x.ls.length x.cap)) ∧ SegL w x.ad x.ls
def SegO (w : World) (a : Option Addr) (os : List OpV) : Prop :=
  os = [] ∨ ∃ g o, a = some ⟨g, o, none⟩ ∧ ∀ j x, os[j]? = some x → OpAt w g (o + j * 6) x

set_option maxRecDepth 100000 in
/-- A list of calls that came in. -/
theorem ops_in {H : Type} {enc : TypeId × Value → H} {W : World} {v : Value} {d : DataW H} {p : List MemPlace} {base : Nat} (hv : Value.okWide Try.prog W .any base 22 v)
    (h : DataW.Trod enc Try.prog W 0 (fun _ => true) true 22 v d p) : ∃ a os c, v = .slice a (List.length (α := OpV) os) c ∧ (os.length ≤ c ∧ c ≤ maxLen) ∧ SegO W a os ∧ ∀ o ∈ os, o.Fine := by
  obtain ⟨a0, len, cap, rfl⟩ := okWide_slice Try.underlying22 hv
  obtain ⟨fuel, hf⟩ := h
  rcases open_slice Try.underlying22 hf with ⟨hcs, _⟩ | ⟨x, l, c, m, n, D, Pl, hcs, _, hl, hm, hmm, hx, hcell⟩
  · simp [Value.cells] at hcs
    obtain ⟨rfl, rfl, rfl⟩ := hcs
    exact ⟨none, [], 0, rfl, ⟨Nat.zero_le _, Nat.zero_le _⟩, .inl rfl, fun it hit => by cases hit⟩
  · simp [Value.cells] at hcs
    obtain ⟨rfl, rfl, rfl⟩ := hcs
    have hmc : m = cap := by simpa using hmm
    subst hmc
    have each : ∀ i, i < len → ∃ d : OpV, (W.cell? (x.add (i * 6)) = some (.int .i64 d.which) ∧ W.cell? (x.add (i * 6 + 1)) = some (.int .i64 d.kind) ∧ W.cell? (x.add (i * 6 + 2)) = some (.int .i64 d.l.p) ∧
        W.cell? (x.add (i * 6 + 3)) = some (.int .i64 d.l.f) ∧ W.cell? (x.add (i * 6 + 4)) = some (.int .i64 d.l.r) ∧ W.cell? (x.add (i * 6 + 5)) = some (.slice d.ad d.ls.length d.cap)) ∧ SegL W d.ad d.ls ∧ d.Fine := by
      intro i hi
      obtain ⟨cs', h1, h2⟩ := hcell i (by omega)
      rw [cells30] at h1
      obtain ⟨_, hlen6, hc6⟩ := World.cells?_some h1
      obtain ⟨xs, n', _, _, _, hlenx, hfs⟩ := DataW.trod_struct Try.underlying30 h2
      obtain ⟨y0, y1, y2, y3, y4, y5, rfl⟩ : ∃ y0 y1 y2 y3 y4 y5, xs = [y0, y1, y2, y3, y4, y5] := by
        match xs, hlenx with
        | [y0, y1, y2, y3, y4, y5], _ => exact ⟨y0, y1, y2, y3, y4, y5, rfl⟩
      obtain ⟨c0, c1, c2, c3, c4, c5, rfl⟩ : ∃ c0 c1 c2 c3 c4 c5, cs' = [c0, c1, c2, c3, c4, c5] := by
        match cs', hlen6 with
        | [c0, c1, c2, c3, c4, c5], _ => exact ⟨c0, c1, c2, c3, c4, c5, rfl⟩
      have g0 := hfs 0 _ rfl
      have g1 := hfs 1 _ rfl
      have g2 := hfs 2 _ rfl
      have g3 := hfs 3 _ rfl
      have g4 := hfs 4 _ rfl
      have g5 := hfs 5 _ rfl
      simp [cells3, cells26] at g0 g1 g2 g3 g4 g5
      obtain ⟨K0, e0, _, w0⟩ := DataW.trod_int Try.underlying3 g0
      obtain ⟨K1, e1, _, w1⟩ := DataW.trod_int Try.underlying3 g1
      obtain ⟨K2, e2, _, w2⟩ := DataW.trod_int Try.underlying3 g2
      obtain ⟨K3, e3, _, w3⟩ := DataW.trod_int Try.underlying3 g3
      obtain ⟨K4, e4, _, w4⟩ := DataW.trod_int Try.underlying3 g4
      obtain ⟨a5, ls, k5, e5, l5, s5, f5⟩ := leaves_cell g5
      simp at e0 e1 e2 e3 e4 e5
      subst e0 e1 e2 e3 e4 e5
      have q0 := hc6 0 (by omega)
      have q1 := hc6 1 (by omega)
      have q2 := hc6 2 (by omega)
      have q3 := hc6 3 (by omega)
      have q4 := hc6 4 (by omega)
      have q5 := hc6 5 (by omega)
      rw [add_add] at q0 q1 q2 q3 q4 q5
      exact ⟨⟨K0, K1, ⟨K2, K3, K4⟩, a5, ls, k5⟩, ⟨by simpa using q0, by simpa using q1, by simpa using q2, by simpa using q3, by simpa using q4, by simpa using q5⟩, s5, ⟨wf_i64 w0, wf_i64 w1⟩, ⟨wf_i64 w2, wf_i64 w3, wf_i64 w4⟩, l5, f5⟩
    obtain ⟨V, hV⟩ := choose_lt each
    refine ⟨some x, (List.range len).map V, m, by simp, by simp; omega, ?_, ?_⟩
    · by_cases h0 : len = 0
      · exact .inl (by simp [h0])
      · obtain ⟨b, off, spot⟩ := x
        have hc := (hV 0 (by omega)).1.1
        have hspot : spot = none := by simpa [Addr.add] using World.cell?_spot hc
        subst hspot
        refine .inr ⟨b, off, rfl, fun j l hj => ?_⟩
        have hj' : j < len := by
          have := (List.getElem?_eq_some_iff.1 hj).1
          simpa using this
        have e : l = V j := by simp [hj'] at hj; exact hj.symm
        subst e
        obtain ⟨⟨h1, h2, h3, h4, h5, h6⟩, h7, _⟩ := hV j hj'
        rw [addr_add] at h1 h2 h3 h4 h5 h6
        exact ⟨⟨h1, by rw [Nat.add_assoc]; exact h2, by rw [Nat.add_assoc]; exact h3, by rw [Nat.add_assoc]; exact h4, by rw [Nat.add_assoc]; exact h5, by rw [Nat.add_assoc]; exact h6⟩, h7⟩
    · intro l hl
      obtain ⟨i, hi, rfl⟩ := List.mem_map.1 hl
      exact (hV i (by simpa using hi)).2.2

end Go.Proofs.Ytakidbjkpbgmmaa
