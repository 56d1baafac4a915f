import Derived.Test.YtonjmknjjdnjkaaXb
import Derived.WalkKit
import Derived.ProofKit
import Derived.OpenShut
import Derived.ChangeOld
import Derived.Below
import Derived.SizedLaws
import Derived.Deep.Slices
import Derived.Deep.Strs
namespace Go.Proofs.Ytonjmknjjdnjkaa.Ex
open Go.ChangeShapes Go.WideShapes Go.ChangeAt Go.RowKit Go.Deep
set_option linter.unusedVariables false

theorem own : ownKnob Try.prog.godebug = none := by kernel_rfl
theorem laidOut : laidOutB Try.prog = true := by kernel_rfl
theorem wf_u8 {n : Int} (h : (Lit.int .u8 n).wf = true) : 0 ≤ n ∧ n < 256 := by
  have : 0 ≤ n ∧ n ≤ 255 := by simpa [Lit.wf, IntKind.min, IntKind.max, IntKind.signed, IntKind.bits] using h
  omega
theorem wf_u32 {n : Int} (h : (Lit.int .u32 n).wf = true) : 0 ≤ n ∧ n < 4294967296 := by
  have : 0 ≤ n ∧ n ≤ 4294967295 := by simpa [Lit.wf, IntKind.min, IntKind.max, IntKind.signed, IntKind.bits] using h
  omega
theorem wf_u64 {n : Int} (h : (Lit.int .u64 n).wf = true) : 0 ≤ n ∧ n < 18446744073709551616 := by
  have : 0 ≤ n ∧ n ≤ 18446744073709551615 := by simpa [Lit.wf, IntKind.min, IntKind.max, IntKind.signed, IntKind.bits] using h
  omega
theorem wf_i64 {n : Int} (h : (Lit.int .i64 n).wf = true) : -9223372036854775808 ≤ n ∧ n ≤ 9223372036854775807 := by
  simpa [Lit.wf, IntKind.min, IntKind.max, IntKind.signed, IntKind.bits] using h
theorem cells3 : Try.prog.cellsOf 3 = 1 := by kernel_rfl
theorem cells36 : Try.prog.cellsOf 36 = 1 := by kernel_rfl
theorem cells37 : Try.prog.cellsOf 37 = 1 := by kernel_rfl
theorem cells38 : Try.prog.cellsOf 38 = 1 := by kernel_rfl
theorem cells39 : Try.prog.cellsOf 39 = 1 := by kernel_rfl
theorem cells9 : Try.prog.cellsOf 9 = 1 := by kernel_rfl
theorem cells41 : Try.prog.cellsOf 41 = 10 := by kernel_rfl
theorem bytes5 : Try.prog.bytesOf 5 = 1 := by kernel_rfl
theorem bytes36 : Try.prog.bytesOf 36 = 4 := by kernel_rfl
theorem weights_mem {H : Type} {P : Program} {e : TypeId} {d : DataW H} {q : Nat} : ∀ {ds : List (DataW H)}, d ∈ ds → q ∈ d.weights P e → q ∈ DataW.weightsAll P e ds
  | [], h, _ => by cases h
  | x :: r, h, hq => by
    simp only [DataW.weightsAll, List.mem_append]
    rcases List.mem_cons.1 h with rfl | h
    · exact .inl hq
    · exact .inr (weights_mem h hq)
theorem lits_length (k : IntKind) (zs : List Int) {H : Type} : (lits (H := H) k zs).length = zs.length := by simp [lits]

/-- A list of bytes, by its cell. -/
theorem bytes_cell {H : Type} {enc : TypeId × Value → H} {W : World} {cs : List Value} {x : DataW H × List MemPlace} {fuel : Nat}
    (h : DataW.trod enc Try.prog W 0 (fun _ => true) true fuel 38 cs = some x) : ∃ a ws c, cs = [.slice a (List.length (α := UInt8) ws) c] ∧ (ws.length ≤ c ∧ c ≤ maxLen) ∧ Seg W a ws ∧ ((∀ q ∈ DataW.weights Try.prog 38 x.1, q ≤ reachBytes) → ws.length ≤ 140737488355328) := by
  rcases open_ints Try.underlying38 Try.underlying5 (by kernel_rfl) h with ⟨hcs, _⟩ | ⟨x, len, cap, zs, hcs, _, hl, hm, hz, hx, hcell, hwz⟩
  · exact ⟨none, [], 0, hcs, ⟨Nat.zero_le _, Nat.zero_le _⟩, .inl rfl, fun _ => Nat.zero_le _⟩
  · have hz' : zs.length = cap := by simpa using hz
    have hlen : ((zs.take len).map fun z => UInt8.ofNat z.toNat).length = len := by simp; omega
    refine ⟨some x, (zs.take len).map fun z => UInt8.ofNat z.toNat, cap, by rw [hlen]; exact hcs, by rw [hlen]; exact ⟨hl, hm⟩, ?_, fun hq => ?_⟩
    rotate_left
    · rw [hx] at hq
      have h1 := hq (((lits (H := H) .u8 (zs.take len)).length + (lits (H := H) .u8 (zs.drop len)).length) * Try.prog.bytesOf 5) (by simp [DataW.weights, Try.underlying38])
      rw [bytes5, lits_length, lits_length] at h1
      have h2 : reachBytes = 140737488351232 := rfl
      rw [h2] at h1
      rw [hlen]
      simp at h1
      omega
    by_cases h0 : len = 0
    · exact .inl (List.eq_nil_of_length_eq_zero (by rw [hlen]; exact h0))
    · obtain ⟨b, off, spot⟩ := x
      have hc := hcell 0 (by omega)
      have hspot : spot = none := by simpa [Addr.add] using World.cell?_spot hc
      subst hspot
      refine .inr ⟨b, off, rfl, fun j hj => ?_⟩
      rw [hlen] at hj
      have h1 := hcell j (by omega)
      rw [addr_add] at h1
      rw [h1]
      have hj' : j < zs.length := by omega
      have h2 := wf_u8 (hwz zs[j] (List.getElem_mem _))
      have e1 : zs.getD j 0 = zs[j] := by simp [List.getD, hj']
      have e2 : ((zs.take len).map fun z => UInt8.ofNat z.toNat)[j]'(by rw [hlen]; exact hj) = UInt8.ofNat zs[j].toNat := by simp
      rw [e1, e2, UInt8.toNat_ofNat']
      congr 2
      omega

/-- A list of words, by its cell. -/
theorem words_cell {H : Type} {enc : TypeId × Value → H} {W : World} {cs : List Value} {x : DataW H × List MemPlace} {fuel : Nat}
    (h : DataW.trod enc Try.prog W 0 (fun _ => true) true fuel 39 cs = some x) : ∃ a ws c, cs = [.slice a (List.length (α := UInt32) ws) c] ∧ (ws.length ≤ c ∧ c ≤ maxLen) ∧ SegW W a ws ∧ ((∀ q ∈ DataW.weights Try.prog 39 x.1, q ≤ reachBytes) → ws.length ≤ 140737488355328) := by
  rcases open_ints Try.underlying39 Try.underlying36 (by kernel_rfl) h with ⟨hcs, _⟩ | ⟨x, len, cap, zs, hcs, _, hl, hm, hz, hx, hcell, hwz⟩
  · exact ⟨none, [], 0, hcs, ⟨Nat.zero_le _, Nat.zero_le _⟩, .inl rfl, fun _ => Nat.zero_le _⟩
  · have hz' : zs.length = cap := by simpa using hz
    have hlen : ((zs.take len).map fun z => UInt32.ofNat z.toNat).length = len := by simp; omega
    refine ⟨some x, (zs.take len).map fun z => UInt32.ofNat z.toNat, cap, by rw [hlen]; exact hcs, by rw [hlen]; exact ⟨hl, hm⟩, ?_, fun hq => ?_⟩
    rotate_left
    · rw [hx] at hq
      have h1 := hq (((lits (H := H) .u32 (zs.take len)).length + (lits (H := H) .u32 (zs.drop len)).length) * Try.prog.bytesOf 36) (by simp [DataW.weights, Try.underlying39])
      rw [bytes36, lits_length, lits_length] at h1
      have h2 : reachBytes = 140737488351232 := rfl
      rw [h2] at h1
      rw [hlen]
      simp at h1
      omega
    by_cases h0 : len = 0
    · exact .inl (List.eq_nil_of_length_eq_zero (by rw [hlen]; exact h0))
    · obtain ⟨b, off, spot⟩ := x
      have hc := hcell 0 (by omega)
      have hspot : spot = none := by simpa [Addr.add] using World.cell?_spot hc
      subst hspot
      refine .inr ⟨b, off, rfl, fun j hj => ?_⟩
      rw [hlen] at hj
      have h1 := hcell j (by omega)
      rw [addr_add] at h1
      rw [h1]
      have hj' : j < zs.length := by omega
      have h2 := wf_u32 (hwz zs[j] (List.getElem_mem _))
      have e1 : zs.getD j 0 = zs[j] := by simp [List.getD, hj']
      have e2 : ((zs.take len).map fun z => UInt32.ofNat z.toNat)[j]'(by rw [hlen]; exact hj) = UInt32.ofNat zs[j].toNat := by simp
      rw [e1, e2, UInt32.toNat_ofNat']
      congr 2
      omega

set_option maxRecDepth 100000 in
/-- A script that came in. -/
theorem script_in {H : Type} {enc : TypeId × Value → H} {W : World} {v : Value} {d : DataW H} {p : List MemPlace} {base : Nat} (hv : Value.okWide Try.prog W .any base 22 v)
    (h : DataW.Trod enc Try.prog W 0 (fun _ => true) true 22 v d p) (hw : ∀ q ∈ DataW.weights Try.prog 22 d, q ≤ reachBytes) : ∃ a os c, v = .slice a (List.length (α := Oc) os) c ∧ os.length ≤ maxLen ∧ SegOc W a os ∧ (∀ o ∈ os, o.Ok W) := by
  obtain ⟨a0, len, cap, rfl⟩ := okWide_slice Try.underlying22 hv
  obtain ⟨fuel, hf⟩ := h
  rcases open_slice Try.underlying22 hf with ⟨hcs, _⟩ | ⟨x, l, c, m, n, D, Pl, hcs, _, hl, hm, hmm, hx, hcell⟩
  · simp [Value.cells] at hcs
    obtain ⟨rfl, rfl, rfl⟩ := hcs
    exact ⟨none, [], 0, rfl, Nat.zero_le _, .inl rfl, fun it hit => by cases hit⟩
  · simp [Value.cells] at hcs
    obtain ⟨rfl, rfl, rfl⟩ := hcs
    have hmc : m = cap := by simpa using hmm
    subst hmc
    have e7 : d = .slice ((List.range len).map D) ((List.range (m - len)).map fun j => D (len + j)) := (Prod.mk.inj hx).1
    have hwi : ∀ i, i < len → ∀ q ∈ DataW.weights Try.prog 41 (D i), q ≤ reachBytes := fun i hi q hq => hw q (by
      rw [e7]
      have h1 : q ∈ DataW.weightsAll Try.prog 41 ((List.range len).map D) := weights_mem (List.mem_map.2 ⟨i, List.mem_range.2 hi, rfl⟩) hq
      simp only [DataW.weights, Try.underlying22, List.mem_cons, List.mem_append]
      exact .inr (.inl h1))
    have each : ∀ i, i < len → ∃ d : Oc, (∀ q u, d.o.cells.toList[q]? = some u → W.cell? (x.add (i * 10 + q)) = some u) ∧ d.Ok W := by
      intro i hi
      have hwi := hwi i hi
      obtain ⟨cs', h1, h2⟩ := hcell i (by omega)
      rw [cells41] at h1
      obtain ⟨_, hlen10, hc10⟩ := World.cells?_some h1
      obtain ⟨xs, n', _, hxs, _, hlenx, hfs⟩ := DataW.trod_struct Try.underlying41 h2
      obtain ⟨y0, y1, y2, y3, y4, y5, y6, y7, y8, y9, rfl⟩ : ∃ y0 y1 y2 y3 y4 y5 y6 y7 y8 y9, xs = [y0, y1, y2, y3, y4, y5, y6, y7, y8, y9] := by
        match xs, hlenx with
        | [y0, y1, y2, y3, y4, y5, y6, y7, y8, y9], _ => exact ⟨y0, y1, y2, y3, y4, y5, y6, y7, y8, y9, rfl⟩
      obtain ⟨c0, c1, c2, c3, c4, c5, c6, c7, c8, c9, rfl⟩ : ∃ c0 c1 c2 c3 c4 c5 c6 c7 c8 c9, cs' = [c0, c1, c2, c3, c4, c5, c6, c7, c8, c9] := by
        match cs', hlen10 with
        | [c0, c1, c2, c3, c4, c5, c6, c7, c8, c9], _ => exact ⟨c0, c1, c2, c3, c4, c5, c6, c7, c8, c9, rfl⟩
      have g0 := hfs 0 _ rfl
      have g1 := hfs 1 _ rfl
      have g2 := hfs 2 _ rfl
      have g3 := hfs 3 _ rfl
      have g4 := hfs 4 _ rfl
      have g5 := hfs 5 _ rfl
      have g6 := hfs 6 _ rfl
      have g7 := hfs 7 _ rfl
      have g8 := hfs 8 _ rfl
      have g9 := hfs 9 _ rfl
      simp [cells3, cells36, cells37, cells38, cells39, cells9] at g0 g1 g2 g3 g4 g5 g6 g7 g8 g9
      obtain ⟨K0, e0, _, w0⟩ := DataW.trod_int Try.underlying3 g0
      obtain ⟨K1, e1, _, w1⟩ := DataW.trod_int Try.underlying3 g1
      obtain ⟨K2, e2, _, w2⟩ := DataW.trod_int Try.underlying3 g2
      obtain ⟨K3, e3, _, w3⟩ := DataW.trod_int Try.underlying3 g3
      obtain ⟨K4, e4, _, w4⟩ := DataW.trod_int Try.underlying36 g4
      obtain ⟨K5, e5, _, w5⟩ := DataW.trod_int Try.underlying36 g5
      obtain ⟨K6, e6, _, w6⟩ := DataW.trod_int Try.underlying37 g6
      obtain ⟨a7, bs, k7, e7', l7, s7, m7⟩ := bytes_cell g7
      obtain ⟨a8, ws, k8, e8', l8, s8, m8⟩ := words_cell g8
      obtain ⟨s, e9, f9, _⟩ := DataW.trod_string Try.underlying9 g9
      simp at e0 e1 e2 e3 e4 e5 e6 e7' e8' e9
      subst e0 e1 e2 e3 e4 e5 e6 e7' e8' e9
      have b4 := wf_u32 w4
      have b5 := wf_u32 w5
      have b6 := wf_u64 w6
      obtain ⟨M4, rfl⟩ : ∃ M : Nat, K4 = (M : Int) := ⟨K4.toNat, by omega⟩
      obtain ⟨M5, rfl⟩ : ∃ M : Nat, K5 = (M : Int) := ⟨K5.toNat, by omega⟩
      obtain ⟨M6, rfl⟩ : ∃ M : Nat, K6 = (M : Int) := ⟨K6.toNat, by omega⟩
      have hDi : D i = .agg [y0.1, y1.1, y2.1, y3.1, y4.1, y5.1, y6.1, y7.1, y8.1, y9.1] := (Prod.mk.inj hxs).1
      rw [hDi] at hwi
      simp only [DataW.weights, Try.underlying41] at hwi
      have z7 := m7 fun q hq => hwi q (DataW.weights_mem_each (j := 7) (t := 38) (d := y7.1) (by kernel_rfl) rfl q hq)
      have z8 := m8 fun q hq => hwi q (DataW.weights_mem_each (j := 8) (t := 39) (d := y8.1) (by kernel_rfl) rfl q hq)
      have z9 : s.size ≤ reachBytes := hwi s.size (DataW.weights_mem_each (j := 9) (t := 9) (d := y9.1) (by kernel_rfl) rfl _ (by rw [f9]; simp [DataW.weights]))
      refine ⟨⟨⟨K0, K1, K2, K3, M4, M5, M6, a7, bs.length, k7, a8, ws.length, k8, s⟩, bs, ws⟩, ?_, ⟨wf_i64 w1, wf_i64 w2, wf_i64 w3, by show M4 < _; omega, by show M5 < _; omega, by show M6 < _; omega, rfl, rfl, l7, s7, s8, ⟨Nat.le_trans z9 (by decide), z7, z8⟩⟩⟩
      intro q u hq
      have hq10 : q < 10 := (List.getElem?_eq_some_iff.1 hq).1
      have h3 := hc10 q hq10
      rw [add_add] at h3
      rw [h3, ← hq]
      rfl
    obtain ⟨V, hV⟩ := choose_lt each
    refine ⟨some x, (List.range len).map V, m, by simp, by simp; omega, ?_, ?_⟩
    · by_cases h0 : len = 0
      · exact .inl (by simp [h0])
      · obtain ⟨b, off, spot⟩ := x
        have hc := (hV 0 (by omega)).1 0 _ rfl
        have hspot : spot = none := by simpa [Addr.add] using World.cell?_spot hc
        subst hspot
        refine .inr ⟨b, off, rfl, fun j l hj => ?_⟩
        have hj' : j < len := by
          have := (List.getElem?_eq_some_iff.1 hj).1
          simpa using this
        have e : l = V j := by simp [hj'] at hj; exact hj.symm
        subst e
        intro i v hv
        have h1 := (hV j hj').1 i v hv
        rw [addr_add] at h1
        rw [Nat.add_assoc]; exact h1
    · intro l hl
      obtain ⟨i, hi, rfl⟩ := List.mem_map.1 hl
      exact (hV i (by simpa using hi)).2
end Go.Proofs.Ytonjmknjjdnjkaa.Ex
