import Derived.Test.YtmkeccibminnhaaIn
namespace Go.Proofs.Ytmkeccibminnhaa
open Go.ChangeShapes Go.WideShapes Go.ChangeAt Go.RowKit Go.Deep
set_option linter.unusedVariables false
set_option maxRecDepth 100000

theorem wf_u8b {n : Int} (h : (Lit.int .u8 n).wf = true) : 0 ≤ n ∧ n ≤ 255 := by
  simpa [Lit.wf, IntKind.min, IntKind.max, IntKind.signed, IntKind.bits] using h
theorem wf_u16b {n : Int} (h : (Lit.int .u16 n).wf = true) : 0 ≤ n ∧ n ≤ 65535 := by
  simpa [Lit.wf, IntKind.min, IntKind.max, IntKind.signed, IntKind.bits] using h
/-- A list of bytes that came in. -/
theorem bytes_in {H : Type} {enc : TypeId × Value → H} {W : World} {v : Value} {d : DataW H} {p : List MemPlace} {base : Nat} (hv : Value.okWide Try.prog W .any base 27 v)
    (h : DataW.Trod enc Try.prog W 0 (fun _ => true) true 27 v d p) : ∃ a B cap, v = .slice a (List.length (α := UInt8) B) cap ∧ Seg W a B ∧ (B.length ≤ cap ∧ cap ≤ maxLen) ∧ (B ≠ [] → ∀ y, a = some y → y.block < W.heap.size) := by
  obtain ⟨a0, len0, cap0, rfl⟩ := okWide_slice Try.underlying27 hv
  obtain ⟨fuel, hf⟩ := h
  rcases open_ints Try.underlying27 Try.underlying5 (by kernel_rfl) hf with ⟨hcs, _⟩ | ⟨x, l, c, zs, hcs, _, hl, hm, hz, _, hcell, hwz⟩
  · simp [Value.cells] at hcs
    obtain ⟨rfl, rfl, rfl⟩ := hcs
    exact ⟨none, [], 0, rfl, .inl rfl, ⟨Nat.le_refl _, Nat.zero_le _⟩, fun e => (e rfl).elim⟩
  · simp [Value.cells] at hcs
    obtain ⟨rfl, rfl, rfl⟩ := hcs
    have hz' : zs.length = cap0 := by simpa using hz
    have hlen : ((zs.take len0).map fun z => UInt8.ofNat z.toNat).length = len0 := by simp; omega
    have hseg : Seg W (some x) ((zs.take len0).map fun z => UInt8.ofNat z.toNat) := by
      by_cases h0 : len0 = 0
      · exact .inl (List.eq_nil_of_length_eq_zero (by rw [hlen]; exact h0))
      · obtain ⟨b, off, spot⟩ := x
        have hc := hcell 0 (by omega)
        have hspot : spot = none := by simpa [Addr.add] using World.cell?_spot hc
        subst hspot
        refine .inr ⟨b, off, rfl, fun j hj => ?_⟩
        rw [hlen] at hj
        have h1 := hcell j (by omega)
        rw [addr_add] at h1
        rw [h1]
        have hj' : j < zs.length := by omega
        have h2 := wf_u8b (hwz zs[j] (List.getElem_mem _))
        have e1 : zs.getD j 0 = zs[j] := by simp [List.getD, hj']
        have e2 : ((zs.take len0).map fun z => UInt8.ofNat z.toNat)[j]'(by rw [hlen]; exact hj) = UInt8.ofNat zs[j].toNat := by simp
        rw [e1, e2, UInt8.toNat_ofNat']
        congr 2
        omega
    refine ⟨some x, (zs.take len0).map fun z => UInt8.ofNat z.toNat, cap0, by rw [hlen], hseg, by rw [hlen]; exact ⟨hl, hm⟩, fun hn y hy => ?_⟩
    rcases hseg with h0 | ⟨g, o, h0, hc⟩
    · exact (hn h0).elim
    · rw [h0] at hy; cases hy
      exact World.block_lt_of_cell? W ⟨g, o + 0, none⟩ (hc 0 (List.length_pos_iff.2 hn))
end Go.Proofs.Ytmkeccibminnhaa
