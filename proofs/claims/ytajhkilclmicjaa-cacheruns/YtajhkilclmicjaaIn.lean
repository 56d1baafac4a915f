import Derived.Test.YtajhkilclmicjaaB
import Derived.ProofKit
import Derived.OpenShut
import Derived.ChangeOld
import Derived.ChangeSlices
import Derived.Deep.Slices
import Derived.Deep.Strs
namespace Go.Proofs.Ytajhkilclmicjaa
open Go.ChangeShapes Go.WideShapes Go.ChangeAt Go.RowKit Go.Deep
set_option linter.unusedVariables false

theorem own : ownKnob Try.prog.godebug = none := by kernel_rfl
theorem laidOut : laidOutB Try.prog = true := by kernel_rfl
theorem wf_i64 {n : Int} (h : (Lit.int .i64 n).wf = true) : I64 n := by
  have : -9223372036854775808 ≤ n ∧ n ≤ 9223372036854775807 := by simpa [Lit.wf, IntKind.min, IntKind.max, IntKind.signed, IntKind.bits] using h
  exact this
theorem wf_u16 {n : Int} (h : (Lit.int .u16 n).wf = true) : 0 ≤ n ∧ n ≤ 65535 := by simpa [Lit.wf, IntKind.min, IntKind.max, IntKind.signed, IntKind.bits] using h
theorem wf_u8 {n : Int} (h : (Lit.int .u8 n).wf = true) : 0 ≤ n ∧ n ≤ 255 := by simpa [Lit.wf, IntKind.min, IntKind.max, IntKind.signed, IntKind.bits] using h

/-- These words can be read at this address. -/
def SegU (w : World) (a : Option Addr) (ws : List Nat) : Prop :=
  ws = [] ∨ ∃ g o, a = some ⟨g, o, none⟩ ∧ ∀ j, (h : j < ws.length) → w.cell? ⟨g, o + j, none⟩ = some (.int .u16 (ws[j] : Int))

theorem SegU.kept {S : Nat → Prop} {w w' : World} {a : Option Addr} {ws : List Nat} (h : SegU w a ws) (hK : Keeps S w w') (hn : ∀ x, a = some x → ¬ S x.block) : SegU w' a ws := by
  rcases h with h | ⟨g, o, ha, hc⟩
  · exact .inl h
  · refine .inr ⟨g, o, ha, fun j hj => ?_⟩
    have h1 := hc j hj
    have hlt : g < w.heap.size := World.block_lt_of_cell? w ⟨g, o + j, none⟩ h1
    rw [World.cell?_of_block (w := w) (hK.block g hlt (hn _ ha))]
    exact h1

/-- A list of words that came in. -/
theorem words_in {H : Type} {enc : TypeId × Value → H} {W : World} {v : Value} {d : DataW H} {p : List MemPlace} {base : Nat} (hv : Value.okWide Try.prog W .any base 34 v)
    (h : DataW.Trod enc Try.prog W 0 (fun _ => true) true 34 v d p) : ∃ a ws c, v = .slice a (List.length (α := Nat) ws) c ∧ ws.length ≤ maxLen ∧ (∀ x ∈ ws, x ≤ 65535) ∧ SegU W a ws := by
  obtain ⟨a0, len0, cap0, rfl⟩ := okWide_slice Try.underlying34 hv
  obtain ⟨fuel, hf⟩ := h
  rcases open_ints Try.underlying34 Try.underlying36 (by kernel_rfl) hf with ⟨hcs, _⟩ | ⟨x, len, cap, zs, hcs, _, hl, hm, hz, _, hcell, hwz⟩
  · simp [Value.cells] at hcs
    obtain ⟨rfl, rfl, rfl⟩ := hcs
    exact ⟨none, [], 0, rfl, Nat.zero_le _, by simp, .inl rfl⟩
  · simp [Value.cells] at hcs
    obtain ⟨rfl, rfl, rfl⟩ := hcs
    have hz' : zs.length = cap0 := by simpa using hz
    have hlen : ((zs.take len0).map Int.toNat).length = len0 := by simp; omega
    refine ⟨some x, (zs.take len0).map Int.toNat, cap0, by rw [hlen], by rw [hlen]; omega, fun y hy => ?_, ?_⟩
    · obtain ⟨z, hz, rfl⟩ := List.mem_map.1 hy
      have := wf_u16 (hwz z (List.mem_of_mem_take hz))
      omega
    · by_cases h0 : len0 = 0
      · exact .inl (List.eq_nil_of_length_eq_zero (by rw [hlen]; exact h0))
      · obtain ⟨b, off, spot⟩ := x
        have hc := hcell 0 (by omega)
        have hspot : spot = none := by simpa [Addr.add] using World.cell?_spot hc
        subst hspot
        refine .inr ⟨b, off, rfl, fun j hj => ?_⟩
        rw [hlen] at hj
        have h1 := hcell j (by omega)
        rw [addr_add] at h1
        rw [h1]
        have hj' : j < zs.length := by omega
        have := wf_u16 (hwz (zs[j]) (List.getElem_mem _))
        simp [List.getD, hj']
        omega

end Go.Proofs.Ytajhkilclmicjaa
