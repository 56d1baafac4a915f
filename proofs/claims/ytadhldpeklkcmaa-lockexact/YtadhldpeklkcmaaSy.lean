import Derived.Test.YtadhldpeklkcmaaSh
import Derived.ProofKit
import Derived.OpenShut
import Derived.ChangeOld
import Derived.ChangeSlices
import Derived.Deep.Slices
import Derived.Deep.Strs
import Derived.SizedLaws
namespace Go.Proofs.Ytadhldpeklkcmaa.Ex
open Go.ChangeShapes Go.WideShapes Go.ChangeAt Go.RowKit Go.Deep
set_option linter.unusedVariables false

theorem own : ownKnob Try.prog.godebug = none := by kernel_rfl
theorem laidOut : laidOutB Try.prog = true := by kernel_rfl
theorem wf_u32 {n : Int} (h : (Lit.int .u32 n).wf = true) : 0 ≤ n ∧ n < 4294967296 := by
  have : 0 ≤ n ∧ n ≤ 4294967295 := by simpa [Lit.wf, IntKind.min, IntKind.max, IntKind.signed, IntKind.bits] using h
  omega
theorem wf_i64 {n : Int} (h : (Lit.int .i64 n).wf = true) : -9223372036854775808 ≤ n ∧ n ≤ 9223372036854775807 := by
  simpa [Lit.wf, IntKind.min, IntKind.max, IntKind.signed, IntKind.bits] using h
theorem u32_of {n : Int} (h : (Lit.int .u32 n).wf = true) : ((UInt32.ofNat n.toNat).toNat : Int) = n := by
  have := wf_u32 h
  rw [UInt32.toNat_ofNat']
  omega
theorem cells27 : Try.prog.cellsOf 27 = 1 := by kernel_rfl
theorem cells28 : Try.prog.cellsOf 28 = 1 := by kernel_rfl
theorem cells26 : Try.prog.cellsOf 26 = 1 := by kernel_rfl
theorem cells30 : Try.prog.cellsOf 30 = 8 := by kernel_rfl
theorem cells3 : Try.prog.cellsOf 3 = 1 := by kernel_rfl
theorem cells4 : Try.prog.cellsOf 4 = 1 := by kernel_rfl

theorem bytes3 : Try.prog.bytesOf 3 = 8 := by kernel_rfl
theorem bytes26 : Try.prog.bytesOf 26 = 4 := by kernel_rfl
theorem weights_mem {H : Type} {P : Program} {e : TypeId} {d : DataW H} {q : Nat} : ∀ {ds : List (DataW H)}, d ∈ ds → q ∈ d.weights P e → q ∈ DataW.weightsAll P e ds
  | [], h, _ => by cases h
  | x :: r, h, hq => by
    simp only [DataW.weightsAll, List.mem_append]
    rcases List.mem_cons.1 h with rfl | h
    · exact .inl hq
    · exact .inr (weights_mem h hq)
theorem lits_length (k : IntKind) (zs : List Int) {H : Type} : (lits (H := H) k zs).length = zs.length := by simp [lits]

/-- A list of ints, by its cell. -/
theorem ints_cell {H : Type} {enc : TypeId × Value → H} {W : World} {cs : List Value} {x : DataW H × List MemPlace} {fuel : Nat}
    (h : DataW.trod enc Try.prog W 0 (fun _ => true) true fuel 27 cs = some x) : ∃ a zs c, cs = [.slice a (List.length (α := Int) zs) c] ∧ zs.length ≤ maxLen ∧ SegI W a zs ∧ (∀ z ∈ zs, -9223372036854775808 ≤ z ∧ z ≤ 9223372036854775807) ∧ ((∀ q ∈ DataW.weights Try.prog 27 x.1, q ≤ reachBytes) → zs.length ≤ 70368744177664) := by
  rcases open_ints Try.underlying27 Try.underlying3 (by kernel_rfl) h with ⟨hcs, _⟩ | ⟨x, len, cap, zs, hcs, _, hl, hm, hz, hx, hcell, hwz⟩
  · exact ⟨none, [], 0, hcs, Nat.zero_le _, .inl rfl, (fun z hz => by cases hz), fun _ => Nat.zero_le _⟩
  · have hz' : zs.length = cap := by simpa using hz
    have hlen : (zs.take len).length = len := by simp; omega
    refine ⟨some x, zs.take len, cap, by rw [hlen]; exact hcs, by rw [hlen]; omega, ?_, (fun z hz => wf_i64 (hwz z (List.mem_of_mem_take hz))), fun hq => ?_⟩
    rotate_left
    · rw [hx] at hq
      have h1 := hq (((lits (H := H) .i64 (zs.take len)).length + (lits (H := H) .i64 (zs.drop len)).length) * Try.prog.bytesOf 3) (by simp [DataW.weights, Try.underlying27])
      rw [bytes3, lits_length, lits_length] at h1
      have h2 : reachBytes = 140737488351232 := rfl
      rw [h2] at h1
      rw [hlen]
      simp at h1
      omega
    by_cases h0 : len = 0
    · exact .inl (List.eq_nil_of_length_eq_zero (by rw [hlen]; exact h0))
    · obtain ⟨b, off, spot⟩ := x
      have hc := hcell 0 (by omega)
      have hspot : spot = none := by simpa [Addr.add] using World.cell?_spot hc
      subst hspot
      refine .inr ⟨b, off, rfl, fun j hj => ?_⟩
      rw [hlen] at hj
      have h1 := hcell j (by omega)
      rw [addr_add] at h1
      rw [h1]
      have hj' : j < zs.length := by omega
      have e1 : zs.getD j 0 = zs[j] := by simp [List.getD, hj']
      have e2 : (zs.take len)[j]'(by rw [hlen]; exact hj) = zs[j] := by simp
      rw [e1, e2]

/-- A list of words, by its cell. -/
theorem words_cell {H : Type} {enc : TypeId × Value → H} {W : World} {cs : List Value} {x : DataW H × List MemPlace} {fuel : Nat}
    (h : DataW.trod enc Try.prog W 0 (fun _ => true) true fuel 28 cs = some x) : ∃ a ws c, cs = [.slice a (List.length (α := UInt32) ws) c] ∧ ws.length ≤ maxLen ∧ SegW W a ws ∧ ((∀ q ∈ DataW.weights Try.prog 28 x.1, q ≤ reachBytes) → ws.length ≤ 70368744177664) := by
  rcases open_ints Try.underlying28 Try.underlying26 (by kernel_rfl) h with ⟨hcs, _⟩ | ⟨x, len, cap, zs, hcs, _, hl, hm, hz, hx, hcell, hwz⟩
  · exact ⟨none, [], 0, hcs, Nat.zero_le _, .inl rfl, fun _ => Nat.zero_le _⟩
  · have hz' : zs.length = cap := by simpa using hz
    have hlen : ((zs.take len).map fun z => UInt32.ofNat z.toNat).length = len := by simp; omega
    refine ⟨some x, (zs.take len).map fun z => UInt32.ofNat z.toNat, cap, by rw [hlen]; exact hcs, by rw [hlen]; omega, ?_, fun hq => ?_⟩
    rotate_left
    · rw [hx] at hq
      have h1 := hq (((lits (H := H) .u32 (zs.take len)).length + (lits (H := H) .u32 (zs.drop len)).length) * Try.prog.bytesOf 26) (by simp [DataW.weights, Try.underlying28])
      rw [bytes26, lits_length, lits_length] at h1
      have h2 : reachBytes = 140737488351232 := rfl
      rw [h2] at h1
      rw [hlen]
      simp at h1
      omega
    by_cases h0 : len = 0
    · exact .inl (List.eq_nil_of_length_eq_zero (by rw [hlen]; exact h0))
    · obtain ⟨b, off, spot⟩ := x
      have hc := hcell 0 (by omega)
      have hspot : spot = none := by simpa [Addr.add] using World.cell?_spot hc
      subst hspot
      refine .inr ⟨b, off, rfl, fun j hj => ?_⟩
      rw [hlen] at hj
      have h1 := hcell j (by omega)
      rw [addr_add] at h1
      rw [h1]
      have hj' : j < zs.length := by omega
      have h2 := wf_u32 (hwz zs[j] (List.getElem_mem _))
      have e1 : zs.getD j 0 = zs[j] := by simp [List.getD, hj']
      have e2 : ((zs.take len).map fun z => UInt32.ofNat z.toNat)[j]'(by rw [hlen]; exact hj) = UInt32.ofNat zs[j].toNat := by simp
      rw [e1, e2, UInt32.toNat_ofNat']
      congr 2
      omega

/-- A call of the script with its lists. -/
structure Oc where
  o : Opr
  ls : List Int
  ts : List UInt32
instance : Inhabited Oc := ⟨⟨⟨0, 0, 0, 0, false, 0, none, 0, 0, none, 0, 0⟩, [], []⟩⟩
/-- Its numbers are ints, its lists are where it says. -/
structure Oc.Ok (x : Oc) (w : World) : Prop where
  who : -9223372036854775808 ≤ x.o.who ∧ x.o.who ≤ 9223372036854775807
  a : -9223372036854775808 ≤ x.o.a ∧ x.o.a ≤ 9223372036854775807
  ln : x.o.ln = x.ls.length ∧ x.ls.length ≤ maxLen
  tn : x.o.tn = x.ts.length ∧ x.ts.length ≤ maxLen
  l : SegI w x.o.la x.ls
  t : SegW w x.o.ta x.ts
  top : ∀ z ∈ x.ls, z ≤ 9223372036854775807
theorem Oc.Ok.grown {x : Oc} {w w' : World} (h : x.Ok w) (k : Keeps (fun _ => False) w w') : x.Ok w' :=
  ⟨h.who, h.a, h.ln, h.tn, h.l.kept k fun _ _ e => e, h.t.kept k fun _ _ e => e, h.top⟩

def OcAt (w : World) (g o : Nat) (x : Oc) : Prop := ∀ i v, x.o.vs[i]? = some v → w.cell? ⟨g, o + i, none⟩ = some v
theorem OcAt.grown {w w' : World} {g o : Nat} {x : Oc} (h : OcAt w g o x) (k : Keeps (fun _ => False) w w') : OcAt w' g o x := by
  intro i v hv
  exact cell_kept (h i v hv) k id
/-- These calls can be read at this address. -/
def SegOc (w : World) (a : Option Addr) (xs : List Oc) : Prop :=
  xs = [] ∨ ∃ g o, a = some ⟨g, o, none⟩ ∧ ∀ j x, xs[j]? = some x → OcAt w g (o + j * 8) x

set_option maxRecDepth 100000 in
/-- A script that came in. -/
theorem script_in {H : Type} {enc : TypeId × Value → H} {W : World} {v : Value} {d : DataW H} {p : List MemPlace} {base : Nat} (hv : Value.okWide Try.prog W .any base 22 v)
    (h : DataW.Trod enc Try.prog W 0 (fun _ => true) true 22 v d p) : ∃ a os c, v = .slice a (List.length (α := Oc) os) c ∧ (os.length ≤ c ∧ c ≤ maxLen) ∧ SegOc W a os ∧ (∀ o ∈ os, o.Ok W) ∧ ((∀ q ∈ DataW.weights Try.prog 22 d, q ≤ reachBytes) → ∀ o ∈ os, o.ls.length ≤ 70368744177664 ∧ o.ts.length ≤ 70368744177664) := by
  obtain ⟨a0, len, cap, rfl⟩ := okWide_slice Try.underlying22 hv
  obtain ⟨fuel, hf⟩ := h
  rcases open_slice Try.underlying22 hf with ⟨hcs, _⟩ | ⟨x, l, c, m, n, D, Pl, hcs, _, hl, hm, hmm, hx, hcell⟩
  · simp [Value.cells] at hcs
    obtain ⟨rfl, rfl, rfl⟩ := hcs
    exact ⟨none, [], 0, rfl, ⟨Nat.zero_le _, Nat.zero_le _⟩, .inl rfl, (fun it hit => by cases hit), fun _ it hit => by cases hit⟩
  · simp [Value.cells] at hcs
    obtain ⟨rfl, rfl, rfl⟩ := hcs
    have hmc : m = cap := by simpa using hmm
    subst hmc
    have each : ∀ i, i < len → ∃ d : Oc, (∀ q u, d.o.vs[q]? = some u → W.cell? (x.add (i * 8 + q)) = some u) ∧ d.Ok W ∧ ((∀ q ∈ DataW.weights Try.prog 30 (D i), q ≤ reachBytes) → d.ls.length ≤ 70368744177664 ∧ d.ts.length ≤ 70368744177664) := by
      intro i hi
      obtain ⟨cs', h1, h2⟩ := hcell i (by omega)
      rw [cells30] at h1
      obtain ⟨_, hlen8, hc8⟩ := World.cells?_some h1
      obtain ⟨xs, n', _, hxs, _, hlenx, hfs⟩ := DataW.trod_struct Try.underlying30 h2
      obtain ⟨y0, y1, y2, y3, y4, y5, y6, y7, rfl⟩ : ∃ y0 y1 y2 y3 y4 y5 y6 y7, xs = [y0, y1, y2, y3, y4, y5, y6, y7] := by
        match xs, hlenx with
        | [y0, y1, y2, y3, y4, y5, y6, y7], _ => exact ⟨y0, y1, y2, y3, y4, y5, y6, y7, rfl⟩
      obtain ⟨c0, c1, c2, c3, c4, c5, c6, c7, rfl⟩ : ∃ c0 c1 c2 c3 c4 c5 c6 c7, cs' = [c0, c1, c2, c3, c4, c5, c6, c7] := by
        match cs', hlen8 with
        | [c0, c1, c2, c3, c4, c5, c6, c7], _ => exact ⟨c0, c1, c2, c3, c4, c5, c6, c7, rfl⟩
      have g0 := hfs 0 _ rfl
      have g1 := hfs 1 _ rfl
      have g2 := hfs 2 _ rfl
      have g3 := hfs 3 _ rfl
      have g4 := hfs 4 _ rfl
      have g5 := hfs 5 _ rfl
      have g6 := hfs 6 _ rfl
      have g7 := hfs 7 _ rfl
      simp [cells3, cells4, cells26, cells27, cells28] at g0 g1 g2 g3 g4 g5 g6 g7
      obtain ⟨K0, e0, _, w0⟩ := DataW.trod_int Try.underlying3 g0
      obtain ⟨K1, e1, _, w1⟩ := DataW.trod_int Try.underlying3 g1
      obtain ⟨K2, e2, _, w2⟩ := DataW.trod_int Try.underlying3 g2
      obtain ⟨K3, e3, _, w3⟩ := DataW.trod_int Try.underlying3 g3
      obtain ⟨K4, e4, _⟩ := DataW.trod_bool Try.underlying4 g4
      obtain ⟨K5, e5, _, w5⟩ := DataW.trod_int Try.underlying26 g5
      obtain ⟨a6, ls, k6, e6, l6, s6, f6, m6⟩ := ints_cell g6
      obtain ⟨a7, ts, k7, e7, l7, s7, m7⟩ := words_cell g7
      simp at e0 e1 e2 e3 e4 e5 e6 e7
      subst e0 e1 e2 e3 e4 e5 e6 e7
      refine ⟨⟨⟨K0, K1, K2, K3, K4, UInt32.ofNat K5.toNat, a6, ls.length, k6, a7, ts.length, k7⟩, ls, ts⟩, ?_, ⟨wf_i64 w1, wf_i64 w2, ⟨rfl, l6⟩, ⟨rfl, l7⟩, s6, s7, fun z hz => (f6 z hz).2⟩, ?_⟩
      rotate_left
      · have e8 : D i = .agg [y0.1, y1.1, y2.1, y3.1, y4.1, y5.1, y6.1, y7.1] := (Prod.mk.inj hxs).1
        intro hq
        refine ⟨m6 fun q hq6 => hq q ?_, m7 fun q hq7 => hq q ?_⟩
        · rw [e8]
          simp only [DataW.weights, Try.underlying30]
          exact DataW.weights_mem_each (j := 6) (t := 27) (d := y6.1) (by kernel_rfl) rfl q hq6
        · rw [e8]
          simp only [DataW.weights, Try.underlying30]
          exact DataW.weights_mem_each (j := 7) (t := 28) (d := y7.1) (by kernel_rfl) rfl q hq7
      intro q u hq
      have hq8 : q < 8 := (List.getElem?_eq_some_iff.1 hq).1
      have h3 := hc8 q hq8
      rw [add_add] at h3
      rw [h3, ← hq]
      simp only [Opr.vs, u32_of w5]
    obtain ⟨V, hV⟩ := choose_lt each
    refine ⟨some x, (List.range len).map V, m, by simp, by simp; omega, ?_, ?_, ?_⟩
    · by_cases h0 : len = 0
      · exact .inl (by simp [h0])
      · obtain ⟨b, off, spot⟩ := x
        have hc := (hV 0 (by omega)).1 0 _ rfl
        have hspot : spot = none := by simpa [Addr.add] using World.cell?_spot hc
        subst hspot
        refine .inr ⟨b, off, rfl, fun j l hj => ?_⟩
        have hj' : j < len := by
          have := (List.getElem?_eq_some_iff.1 hj).1
          simpa using this
        have e : l = V j := by simp [hj'] at hj; exact hj.symm
        subst e
        intro i v hv
        have h1 := (hV j hj').1 i v hv
        rw [addr_add] at h1
        rw [Nat.add_assoc]; exact h1
    · intro l hl
      obtain ⟨i, hi, rfl⟩ := List.mem_map.1 hl
      exact (hV i (by simpa using hi)).2.1
    · intro hq o ho
      obtain ⟨i, hi, rfl⟩ := List.mem_map.1 ho
      have e7 : d = .slice ((List.range len).map D) ((List.range (m - len)).map fun j => D (len + j)) := (Prod.mk.inj hx).1
      refine (hV i (by simpa using hi)).2.2 fun q hqi => hq q ?_
      rw [e7]
      have h1 : q ∈ DataW.weightsAll Try.prog 30 ((List.range len).map D) := weights_mem (List.mem_map.2 ⟨i, hi, rfl⟩) hqi
      simp only [DataW.weights, Try.underlying22, List.mem_cons, List.mem_append]
      exact .inr (.inl h1)

end Go.Proofs.Ytadhldpeklkcmaa.Ex
