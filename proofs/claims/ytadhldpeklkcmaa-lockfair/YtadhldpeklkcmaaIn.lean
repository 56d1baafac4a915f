import Derived.Test.YtadhldpeklkcmaaO
import Derived.ProofKit
import Derived.OpenShut
import Derived.ChangeOld
import Derived.ChangeSlices
import Derived.Deep.Slices
import Derived.Deep.Strs
namespace Go.Proofs.Ytadhldpeklkcmaa
open Go.ChangeShapes Go.WideShapes Go.ChangeAt Go.RowKit Go.Deep
set_option linter.unusedVariables false

theorem own : ownKnob Try.prog.godebug = none := by kernel_rfl
theorem laidOut : laidOutB Try.prog = true := by kernel_rfl
theorem wf_u32 {n : Int} (h : (Lit.int .u32 n).wf = true) : 0 ≤ n ∧ n < 4294967296 := by
  have : 0 ≤ n ∧ n ≤ 4294967295 := by simpa [Lit.wf, IntKind.min, IntKind.max, IntKind.signed, IntKind.bits] using h
  omega
theorem wf_i64 {n : Int} (h : (Lit.int .i64 n).wf = true) : -9223372036854775808 ≤ n ∧ n ≤ 9223372036854775807 := by
  simpa [Lit.wf, IntKind.min, IntKind.max, IntKind.signed, IntKind.bits] using h
theorem cells27 : Try.prog.cellsOf 27 = 1 := by kernel_rfl

/-- A list of ints, by its cell. -/
theorem ints_cell {H : Type} {enc : TypeId × Value → H} {W : World} {cs : List Value} {x : DataW H × List MemPlace} {fuel : Nat}
    (h : DataW.trod enc Try.prog W 0 (fun _ => true) true fuel 27 cs = some x) : ∃ a zs c, cs = [.slice a (List.length (α := Int) zs) c] ∧ zs.length ≤ maxLen ∧ SegI W a zs ∧ ∀ z ∈ zs, -9223372036854775808 ≤ z ∧ z ≤ 9223372036854775807 := by
  rcases open_ints Try.underlying27 Try.underlying3 (by kernel_rfl) h with ⟨hcs, _⟩ | ⟨x, len, cap, zs, hcs, _, hl, hm, hz, _, hcell, hwz⟩
  · exact ⟨none, [], 0, hcs, Nat.zero_le _, .inl rfl, fun z hz => by cases hz⟩
  · have hz' : zs.length = cap := by simpa using hz
    have hlen : (zs.take len).length = len := by simp; omega
    refine ⟨some x, zs.take len, cap, by rw [hlen]; exact hcs, by rw [hlen]; omega, ?_, fun z hz => wf_i64 (hwz z (List.mem_of_mem_take hz))⟩
    by_cases h0 : len = 0
    · exact .inl (List.eq_nil_of_length_eq_zero (by rw [hlen]; exact h0))
    · obtain ⟨b, off, spot⟩ := x
      have hc := hcell 0 (by omega)
      have hspot : spot = none := by simpa [Addr.add] using World.cell?_spot hc
      subst hspot
      refine .inr ⟨b, off, rfl, fun j hj => ?_⟩
      rw [hlen] at hj
      have h1 := hcell j (by omega)
      rw [addr_add] at h1
      rw [h1]
      have hj' : j < zs.length := by omega
      have e1 : zs.getD j 0 = zs[j] := by simp [List.getD, hj']
      have e2 : (zs.take len)[j]'(by rw [hlen]; exact hj) = zs[j] := by simp
      rw [e1, e2]

set_option maxRecDepth 100000 in
/-- A list of ints that came in. -/
theorem ints_in {H : Type} {enc : TypeId × Value → H} {W : World} {v : Value} {d : DataW H} {p : List MemPlace} {base : Nat} (hv : Value.okWide Try.prog W .any base 27 v)
    (h : DataW.Trod enc Try.prog W 0 (fun _ => true) true 27 v d p) : ∃ a zs c, v = .slice a (List.length (α := Int) zs) c ∧ zs.length ≤ maxLen ∧ SegI W a zs ∧ ∀ z ∈ zs, -9223372036854775808 ≤ z ∧ z ≤ 9223372036854775807 := by
  obtain ⟨a0, len, cap, rfl⟩ := okWide_slice Try.underlying27 hv
  obtain ⟨fuel, hf⟩ := h
  obtain ⟨a, zs, c, hcs, hl, hs, hr⟩ := ints_cell hf
  simp [Value.cells] at hcs
  obtain ⟨rfl, rfl, rfl⟩ := hcs
  exact ⟨_, zs, _, rfl, hl, hs, hr⟩

abbrev Pl.v (P : Pl) : Value := .agg #[.slice P.a1 P.l1.length P.c1, .slice P.a2 P.l2.length P.c2, .slice P.a3 P.l3.length P.c3, .slice P.a4 P.l4.length P.c4]

set_option maxRecDepth 100000 in
/-- A play that came in. -/
theorem play_in {H : Type} {enc : TypeId × Value → H} {W : World} {v : Value} {d : DataW H} {p : List MemPlace} {base : Nat} (hv : Value.okWide Try.prog W .any base 70 v)
    (h : DataW.Trod enc Try.prog W 0 (fun _ => true) true 70 v d p) : ∃ P : Pl, v = P.v ∧ P.In W := by
  obtain ⟨cs, rfl, hsz⟩ := okWide_struct Try.underlying70 hv
  obtain ⟨fuel, hf⟩ := h
  have hf' : DataW.trod enc Try.prog W 0 (fun _ => true) true fuel 70 cs.toList = some (d, p) := hf
  obtain ⟨xs, n', _, _, _, hlenx, hfs⟩ := DataW.trod_struct Try.underlying70 hf'
  obtain ⟨y0, y1, y2, y3, rfl⟩ : ∃ y0 y1 y2 y3, xs = [y0, y1, y2, y3] := by
    match xs, hlenx with
    | [y0, y1, y2, y3], _ => exact ⟨y0, y1, y2, y3, rfl⟩
  have hl4 : cs.toList.length = 4 := by rw [Array.length_toList, hsz]; kernel_rfl
  obtain ⟨c0, c1, c2, c3, hcs⟩ : ∃ c0 c1 c2 c3, cs.toList = [c0, c1, c2, c3] := by
    match cs.toList, hl4 with
    | [c0, c1, c2, c3], _ => exact ⟨c0, c1, c2, c3, rfl⟩
  rw [hcs] at hfs
  have g0 := hfs 0 _ rfl
  have g1 := hfs 1 _ rfl
  have g2 := hfs 2 _ rfl
  have g3 := hfs 3 _ rfl
  simp [cells27] at g0 g1 g2 g3
  obtain ⟨a0, z0, m0, e0, n0, s0, f0⟩ := ints_cell g0
  obtain ⟨a1, z1, m1, e1, n1, s1, f1⟩ := ints_cell g1
  obtain ⟨a2, z2, m2, e2, n2, s2, f2⟩ := ints_cell g2
  obtain ⟨a3, z3, m3, e3, n3, s3, f3⟩ := ints_cell g3
  simp at e0 e1 e2 e3
  subst e0 e1 e2 e3
  refine ⟨⟨a0, a1, a2, a3, m0, m1, m2, m3, z0, z1, z2, z3⟩, ?_, ⟨s0, s1, s2, s3, n0, n1, n2, n3, f0, f1, f2, f3⟩⟩
  rw [← Array.toArray_toList (xs := cs), hcs]
end Go.Proofs.Ytadhldpeklkcmaa
