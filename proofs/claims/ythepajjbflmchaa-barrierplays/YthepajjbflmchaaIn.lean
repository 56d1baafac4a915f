import Derived.Test.YthepajjbflmchaaA
import Derived.ProofKit
import Derived.OpenShut
import Derived.ChangeOld
import Derived.ChangeSlices
import Derived.Deep.Slices
import Derived.Deep.Strs
namespace Go.Proofs.Ythepajjbflmchaa
open Go.ChangeShapes Go.WideShapes Go.ChangeAt Go.RowKit Go.Deep
set_option linter.unusedVariables false

theorem own : ownKnob Try.prog.godebug = none := by kernel_rfl
theorem laidOut : laidOutB Try.prog = true := by kernel_rfl
theorem wf_u32 {n : Int} (h : (Lit.int .u32 n).wf = true) : 0 ≤ n ∧ n < 4294967296 := by
  have : 0 ≤ n ∧ n ≤ 4294967295 := by simpa [Lit.wf, IntKind.min, IntKind.max, IntKind.signed, IntKind.bits] using h
  omega
theorem wf_u8 {n : Int} (h : (Lit.int .u8 n).wf = true) : 0 ≤ n ∧ n < 256 := by
  have : 0 ≤ n ∧ n ≤ 255 := by simpa [Lit.wf, IntKind.min, IntKind.max, IntKind.signed, IntKind.bits] using h
  omega
theorem wf_i64 {n : Int} (h : (Lit.int .i64 n).wf = true) : -9223372036854775808 ≤ n ∧ n ≤ 9223372036854775807 := by
  simpa [Lit.wf, IntKind.min, IntKind.max, IntKind.signed, IntKind.bits] using h
theorem u32_of {n : Int} (h : (Lit.int .u32 n).wf = true) : ((UInt32.ofNat n.toNat).toNat : Int) = n := by
  have := wf_u32 h
  rw [UInt32.toNat_ofNat']
  omega
theorem cells36 : Try.prog.cellsOf 36 = 4 := by kernel_rfl
theorem cells3 : Try.prog.cellsOf 3 = 1 := by kernel_rfl
theorem cells23 : Try.prog.cellsOf 23 = 1 := by kernel_rfl

/-- A list of words, by its cell. -/
theorem words_cell {H : Type} {enc : TypeId × Value → H} {W : World} {cs : List Value} {x : DataW H × List MemPlace} {fuel : Nat}
    (h : DataW.trod enc Try.prog W 0 (fun _ => true) true fuel 25 cs = some x) : ∃ a ws c, cs = [.slice a (List.length (α := UInt32) ws) c] ∧ ws.length ≤ maxLen ∧ SegW W a ws := by
  rcases open_ints Try.underlying25 Try.underlying23 (by kernel_rfl) h with ⟨hcs, _⟩ | ⟨x, len, cap, zs, hcs, _, hl, hm, hz, _, hcell, hwz⟩
  · exact ⟨none, [], 0, hcs, Nat.zero_le _, .inl rfl⟩
  · have hz' : zs.length = cap := by simpa using hz
    have hlen : ((zs.take len).map fun z => UInt32.ofNat z.toNat).length = len := by simp; omega
    refine ⟨some x, (zs.take len).map fun z => UInt32.ofNat z.toNat, cap, by rw [hlen]; exact hcs, by rw [hlen]; omega, ?_⟩
    by_cases h0 : len = 0
    · exact .inl (List.eq_nil_of_length_eq_zero (by rw [hlen]; exact h0))
    · obtain ⟨b, off, spot⟩ := x
      have hc := hcell 0 (by omega)
      have hspot : spot = none := by simpa [Addr.add] using World.cell?_spot hc
      subst hspot
      refine .inr ⟨b, off, rfl, fun j hj => ?_⟩
      rw [hlen] at hj
      have h1 := hcell j (by omega)
      rw [addr_add] at h1
      rw [h1]
      have hj' : j < zs.length := by omega
      have h2 := wf_u32 (hwz zs[j] (List.getElem_mem _))
      have e1 : zs.getD j 0 = zs[j] := by simp [List.getD, hj']
      have e2 : ((zs.take len).map fun z => UInt32.ofNat z.toNat)[j]'(by rw [hlen]; exact hj) = UInt32.ofNat zs[j].toNat := by simp
      rw [e1, e2, UInt32.toNat_ofNat']
      congr 2
      omega

set_option maxRecDepth 100000 in
/-- A list of words that came in. -/
theorem words_in {H : Type} {enc : TypeId × Value → H} {W : World} {v : Value} {d : DataW H} {p : List MemPlace} {base : Nat} (hv : Value.okWide Try.prog W .any base 25 v)
    (h : DataW.Trod enc Try.prog W 0 (fun _ => true) true 25 v d p) : ∃ a ws c, v = .slice a (List.length (α := UInt32) ws) c ∧ ws.length ≤ maxLen ∧ SegW W a ws := by
  obtain ⟨a0, len, cap, rfl⟩ := okWide_slice Try.underlying25 hv
  obtain ⟨fuel, hf⟩ := h
  obtain ⟨a, ws, c, hcs, hl, hs⟩ := words_cell hf
  simp [Value.cells] at hcs
  obtain ⟨rfl, rfl, rfl⟩ := hcs
  exact ⟨_, ws, _, rfl, hl, hs⟩

/-- A call. -/
structure OpB where
  k : Int
  p : Int
  c : Int
  x : UInt32
instance : Inhabited OpB := ⟨⟨0, 0, 0, 0⟩⟩
def OpB.vs (o : OpB) : List Value := [.int .i64 o.k, .int .i64 o.p, .int .i64 o.c, .int .u32 (o.x.toNat : Int)]
abbrev OpB.v (o : OpB) : Value := .agg #[.int .i64 o.k, .int .i64 o.p, .int .i64 o.c, .int .u32 (o.x.toNat : Int)]
/-- Its place is an int. -/
def OpB.Fine (o : OpB) : Prop := -9223372036854775808 ≤ o.p ∧ o.p ≤ 9223372036854775807

def OpAt (w : World) (g o : Nat) (l : OpB) : Prop := w.cell? ⟨g, o, none⟩ = some (.int .i64 l.k) ∧ w.cell? ⟨g, o + 1, none⟩ = some (.int .i64 l.p) ∧ w.cell? ⟨g, o + 2, none⟩ = some (.int .i64 l.c) ∧ w.cell? ⟨g, o + 3, none⟩ = some (.int .u32 (l.x.toNat : Int))

/-- These calls can be read at this address. -/
def SegO (w : World) (a : Option Addr) (ls : List OpB) : Prop :=
  ls = [] ∨ ∃ g o, a = some ⟨g, o, none⟩ ∧ ∀ j l, ls[j]? = some l → OpAt w g (o + j * 4) l

theorem OpAt.kept {S : Nat → Prop} {w w' : World} {g o : Nat} {l : OpB} (h : OpAt w g o l) (hK : Keeps S w w') (hn : ¬ S g) : OpAt w' g o l := by
  have hlt : g < w.heap.size := World.block_lt_of_cell? w ⟨g, o, none⟩ h.1
  have e : ∀ i, w'.cell? ⟨g, i, none⟩ = w.cell? ⟨g, i, none⟩ := fun i => World.cell?_of_block (w := w) (hK.block g hlt hn)
  exact ⟨(e _).trans h.1, (e _).trans h.2.1, (e _).trans h.2.2.1, (e _).trans h.2.2.2⟩

theorem SegO.kept {S : Nat → Prop} {w w' : World} {a : Option Addr} {ls : List OpB} (h : SegO w a ls) (hK : Keeps S w w') (hn : ∀ x, a = some x → ¬ S x.block) : SegO w' a ls := by
  rcases h with h | ⟨g, o, ha, hc⟩
  · exact .inl h
  · exact .inr ⟨g, o, ha, fun j l hj => (hc j l hj).kept hK (hn _ ha)⟩

theorem op_cell {H : Type} {enc : TypeId × Value → H} {W : World} {cs : List Value} {x : DataW H × List MemPlace} {fuel : Nat} (hl : cs.length = 4)
    (h : DataW.trod enc Try.prog W 0 (fun _ => true) true fuel 36 cs = some x) : ∃ l : OpB, cs = l.vs ∧ l.Fine := by
  obtain ⟨xs, n', _, _, _, hlenx, hfs⟩ := DataW.trod_struct Try.underlying36 h
  obtain ⟨y0, y1, y2, y3, rfl⟩ : ∃ y0 y1 y2 y3, xs = [y0, y1, y2, y3] := by
    match xs, hlenx with
    | [y0, y1, y2, y3], _ => exact ⟨y0, y1, y2, y3, rfl⟩
  obtain ⟨c0, c1, c2, c3, rfl⟩ : ∃ c0 c1 c2 c3, cs = [c0, c1, c2, c3] := by
    match cs, hl with
    | [c0, c1, c2, c3], _ => exact ⟨c0, c1, c2, c3, rfl⟩
  have g0 := hfs 0 _ rfl
  have g1 := hfs 1 _ rfl
  have g2 := hfs 2 _ rfl
  have g3 := hfs 3 _ rfl
  simp [cells3, cells23] at g0 g1 g2 g3
  obtain ⟨K0, e0, _, w0⟩ := DataW.trod_int Try.underlying3 g0
  obtain ⟨K1, e1, _, w1⟩ := DataW.trod_int Try.underlying3 g1
  obtain ⟨K2, e2, _, w2⟩ := DataW.trod_int Try.underlying3 g2
  obtain ⟨K3, e3, _, w3⟩ := DataW.trod_int Try.underlying23 g3
  simp at e0 e1 e2 e3
  subst e0 e1 e2 e3
  exact ⟨⟨K0, K1, K2, UInt32.ofNat K3.toNat⟩, by simp only [OpB.vs, u32_of w3], wf_i64 w1⟩

/-- A call that came in. -/
theorem op_in {H : Type} {enc : TypeId × Value → H} {W : World} {v : Value} {d : DataW H} {p : List MemPlace} {base : Nat} (hv : Value.okWide Try.prog W .any base 36 v)
    (h : DataW.Trod enc Try.prog W 0 (fun _ => true) true 36 v d p) : ∃ l : OpB, v = l.v ∧ l.Fine := by
  obtain ⟨cs, rfl, hsz⟩ := okWide_struct Try.underlying36 hv
  obtain ⟨fuel, hf⟩ := h
  have hf' : DataW.trod enc Try.prog W 0 (fun _ => true) true fuel 36 cs.toList = some (d, p) := hf
  obtain ⟨l, hl, hF⟩ := op_cell (by rw [Array.length_toList, hsz]; kernel_rfl) hf'
  exact ⟨l, by rw [← Array.toArray_toList (xs := cs), hl]; rfl, hF⟩

/-- A list of calls, by its cell. -/
theorem ops_cell {H : Type} {enc : TypeId × Value → H} {W : World} {cs : List Value} {x : DataW H × List MemPlace} {fuel : Nat}
    (h : DataW.trod enc Try.prog W 0 (fun _ => true) true fuel 26 cs = some x) : ∃ a ls c, cs = [.slice a (List.length (α := OpB) ls) c] ∧ (ls.length ≤ c ∧ c ≤ maxLen) ∧ SegO W a ls ∧ ∀ l ∈ ls, l.Fine := by
  rcases open_slice Try.underlying26 h with ⟨hcs, _⟩ | ⟨x, len, cap, m, n, D, Pl, hcs, _, hl, hm, hmm, hx, hcell⟩
  · exact ⟨none, [], 0, hcs, ⟨Nat.zero_le _, Nat.zero_le _⟩, .inl rfl, fun l hl => by cases hl⟩
  · have hmc : m = cap := by simpa using hmm
    subst hmc
    have each : ∀ i, i < len → ∃ l : OpB, W.cell? (x.add (i * 4)) = some (.int .i64 l.k) ∧ W.cell? (x.add (i * 4 + 1)) = some (.int .i64 l.p) ∧ W.cell? (x.add (i * 4 + 2)) = some (.int .i64 l.c) ∧ W.cell? (x.add (i * 4 + 3)) = some (.int .u32 (l.x.toNat : Int)) ∧ l.Fine := by
      intro i hi
      obtain ⟨cs', h1, h2⟩ := hcell i (by omega)
      rw [cells36] at h1
      obtain ⟨_, hlen3, hc3⟩ := World.cells?_some h1
      obtain ⟨l, rfl, hF⟩ := op_cell hlen3 h2
      have q0 := hc3 0 (by omega)
      have q1 := hc3 1 (by omega)
      have q2 := hc3 2 (by omega)
      have q3 := hc3 3 (by omega)
      rw [add_add] at q0 q1 q2 q3
      exact ⟨l, by simpa [OpB.vs] using q0, by simpa [OpB.vs] using q1, by simpa [OpB.vs] using q2, by simpa [OpB.vs] using q3, hF⟩
    obtain ⟨V, hV⟩ := choose_lt each
    refine ⟨some x, (List.range len).map V, m, by simp [hcs], by simp; omega, ?_, ?_⟩
    · by_cases h0 : len = 0
      · exact .inl (by simp [h0])
      · obtain ⟨b, off, spot⟩ := x
        have hc := (hV 0 (by omega)).1
        have hspot : spot = none := by simpa [Addr.add] using World.cell?_spot hc
        subst hspot
        refine .inr ⟨b, off, rfl, fun j l hj => ?_⟩
        have hj' : j < len := by
          have := (List.getElem?_eq_some_iff.1 hj).1
          simpa using this
        have e : l = V j := by simp [hj'] at hj; exact hj.symm
        subst e
        obtain ⟨h1, h2, h3, h4, _⟩ := hV j hj'
        rw [addr_add] at h1 h2 h3 h4
        exact ⟨h1, by rw [Nat.add_assoc]; exact h2, by rw [Nat.add_assoc]; exact h3, by rw [Nat.add_assoc]; exact h4⟩
    · intro l hl
      obtain ⟨i, hi, rfl⟩ := List.mem_map.1 hl
      exact (hV i (by simpa using hi)).2.2.2.2

/-- A list of calls that came in. -/
theorem ops_in {H : Type} {enc : TypeId × Value → H} {W : World} {v : Value} {d : DataW H} {p : List MemPlace} {base : Nat} (hv : Value.okWide Try.prog W .any base 26 v)
    (h : DataW.Trod enc Try.prog W 0 (fun _ => true) true 26 v d p) : ∃ a ls c, v = .slice a (List.length (α := OpB) ls) c ∧ (ls.length ≤ c ∧ c ≤ maxLen) ∧ SegO W a ls ∧ ∀ l ∈ ls, l.Fine := by
  obtain ⟨a0, len, cap, rfl⟩ := okWide_slice Try.underlying26 hv
  obtain ⟨fuel, hf⟩ := h
  obtain ⟨a, ls, c, hcs, hl, hs⟩ := ops_cell hf
  simp [Value.cells] at hcs
  obtain ⟨rfl, rfl, rfl⟩ := hcs
  exact ⟨_, ls, _, rfl, hl, hs⟩

end Go.Proofs.Ythepajjbflmchaa
