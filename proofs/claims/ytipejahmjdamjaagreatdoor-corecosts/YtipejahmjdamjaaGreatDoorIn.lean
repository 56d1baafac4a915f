import Derived.Test.YtipejahmjdamjaaGreatDoorWe
import Derived.ProofKit
import Derived.OpenShut
import Derived.ChangeOld
import Derived.ChangeSlices
import Derived.Deep.Slices
import Derived.Deep.Strs
namespace Go.Proofs.YtipejahmjdamjaaGreatDoor
open Go.ChangeShapes Go.WideShapes Go.ChangeAt Go.RowKit Go.Deep
set_option linter.unusedVariables false

theorem own : ownKnob Tryz.prog.godebug = none := by kernel_rfl
theorem laidOut : laidOutB Tryz.prog = true := by kernel_rfl
theorem wf_u32b {n : Int} (h : (Lit.int .u32 n).wf = true) : 0 ≤ n ∧ n < 4294967296 := by
  have : 0 ≤ n ∧ n ≤ 4294967295 := by simpa [Lit.wf, IntKind.min, IntKind.max, IntKind.signed, IntKind.bits] using h
  omega
theorem wf_i64 {n : Int} (h : (Lit.int .i64 n).wf = true) : -9223372036854775808 ≤ n ∧ n ≤ 9223372036854775807 := by
  simpa [Lit.wf, IntKind.min, IntKind.max, IntKind.signed, IntKind.bits] using h

/-- A list of words, by its cell. -/
theorem words_cell {H : Type} {enc : TypeId × Value → H} {W : World} {cs : List Value} {x : DataW H × List MemPlace} {fuel : Nat}
    (h : DataW.trod enc Tryz.prog W 0 (fun _ => true) true fuel 22 cs = some x) : ∃ a ws c, cs = [.slice a (List.length (α := UInt32) ws) c] ∧ ws.length ≤ maxLen ∧ SegW W a ws := by
  rcases open_ints Tryz.underlying22 Tryz.underlying37 (by kernel_rfl) h with ⟨hcs, _⟩ | ⟨x, len, cap, zs, hcs, _, hl, hm, hz, _, hcell, hwz⟩
  · exact ⟨none, [], 0, hcs, Nat.zero_le _, .inl rfl⟩
  · have hz' : zs.length = cap := by simpa using hz
    have hlen : ((zs.take len).map fun z => UInt32.ofNat z.toNat).length = len := by simp; omega
    refine ⟨some x, (zs.take len).map fun z => UInt32.ofNat z.toNat, cap, by rw [hlen]; exact hcs, by rw [hlen]; omega, ?_⟩
    by_cases h0 : len = 0
    · exact .inl (List.eq_nil_of_length_eq_zero (by rw [hlen]; exact h0))
    · obtain ⟨b, off, spot⟩ := x
      have hc := hcell 0 (by omega)
      have hspot : spot = none := by simpa [Addr.add] using World.cell?_spot hc
      subst hspot
      refine .inr ⟨b, off, rfl, fun j hj => ?_⟩
      rw [hlen] at hj
      have h1 := hcell j (by omega)
      rw [addr_add] at h1
      rw [h1]
      have hj' : j < zs.length := by omega
      have h2 := wf_u32b (hwz zs[j] (List.getElem_mem _))
      have e1 : zs.getD j 0 = zs[j] := by simp [List.getD, hj']
      have e2 : ((zs.take len).map fun z => UInt32.ofNat z.toNat)[j]'(by rw [hlen]; exact hj) = UInt32.ofNat zs[j].toNat := by simp
      rw [e1, e2, UInt32.toNat_ofNat']
      congr 2
      omega

set_option maxRecDepth 100000 in
/-- A list of words that came in. -/
theorem words_in {H : Type} {enc : TypeId × Value → H} {W : World} {v : Value} {d : DataW H} {p : List MemPlace} {base : Nat} (hv : Value.okWide Tryz.prog W .any base 22 v)
    (h : DataW.Trod enc Tryz.prog W 0 (fun _ => true) true 22 v d p) : ∃ a ws c, v = .slice a (List.length (α := UInt32) ws) c ∧ ws.length ≤ maxLen ∧ SegW W a ws := by
  obtain ⟨a0, len, cap, rfl⟩ := okWide_slice Tryz.underlying22 hv
  obtain ⟨fuel, hf⟩ := h
  obtain ⟨a, ws, c, hcs, hl, hs⟩ := words_cell hf
  simp [Value.cells] at hcs
  obtain ⟨rfl, rfl, rfl⟩ := hcs
  exact ⟨_, ws, _, rfl, hl, hs⟩

def zOf : Value → Nat | .int _ n => n.toNat | _ => 0

theorem take_one' {l : List Value} {n : Nat} {v : Value} (h : (l.drop n).take 1 = [v]) : l[n]? = some v := by
  have := congrArg (·[0]?) h
  simpa [List.getElem?_take, List.getElem?_drop] using this

set_option maxRecDepth 100000 in
/-- A context that came in. -/
theorem ctx_in {H : Type} {enc : TypeId × Value → H} {W : World} {v : Value} {d : DataW H} {p : List MemPlace} {base : Nat} (hv : Value.okWide Tryz.prog W .any base 40 v)
    (h : DataW.Trod enc Tryz.prog W 0 (fun _ => true) true 40 v d p) : ∃ rg pc, v = .agg (ctx rg pc).toArray ∧ rg.length = 16 ∧ pc < 4294967296 := by
  obtain ⟨cs, rfl, hsz⟩ := okWide_struct Tryz.underlying40 hv
  have hsz' : cs.size = 17 := hsz.trans (by kernel_rfl)
  obtain ⟨fuel, hf⟩ := h
  obtain ⟨xs, n, _, hx, _, hlen, hg⟩ := DataW.trod_struct Tryz.underlying40 hf
  have hc38 : Tryz.prog.cellsOf 38 = 16 := by kernel_rfl
  have hc37 : Tryz.prog.cellsOf 37 = 1 := by kernel_rfl
  have h0 : DataW.trod enc Tryz.prog W 0 (fun _ => true) true n 38 ((cs.toList.drop 0).take (Tryz.prog.cellsOf 38)) = xs[0]? := hg 0 _ rfl
  have h1 : DataW.trod enc Tryz.prog W 0 (fun _ => true) true n 37 ((cs.toList.drop 16).take (Tryz.prog.cellsOf 37)) = xs[1]? := hg 1 _ rfl
  rw [hc38] at h0
  rw [hc37] at h1
  have hl2 : xs.length = 2 := hlen
  have hx0 : xs[0]? = some (xs[0]'(by omega)) := List.getElem?_eq_getElem (by omega)
  have hx1 : xs[1]? = some (xs[1]'(by omega)) := List.getElem?_eq_getElem (by omega)
  rw [hx0] at h0
  rw [hx1] at h1
  have cell : ∀ i, i < 17 → ∃ z : Nat, z < 4294967296 ∧ cs.toList[i]? = some (.int .u32 (z : Int)) := by
    intro i hi
    by_cases hi16 : i = 16
    · subst hi16
      obtain ⟨z, hz, _, hw⟩ := DataW.trod_int Tryz.underlying37 h1
      have hb := wf_u32b hw
      exact ⟨z.toNat, by omega, by rw [show ((z.toNat : Nat) : Int) = z by omega]; exact take_one' hz⟩
    · obtain ⟨ys, m, _, hy, _, hyl, hf2⟩ := DataW.trod_array Tryz.underlying38 h0
      have h2 := hf2 i (by omega)
      rw [hc37, Nat.mul_one] at h2
      have hy0 : ys[i]? = some (ys[i]'(by omega)) := List.getElem?_eq_getElem (by omega)
      rw [hy0] at h2
      obtain ⟨z, hz, _, hw⟩ := DataW.trod_int Tryz.underlying37 h2
      have hb := wf_u32b hw
      refine ⟨z.toNat, by omega, ?_⟩
      rw [show ((z.toNat : Nat) : Int) = z by omega]
      have := take_one' hz
      rw [List.getElem?_take, if_pos (by omega)] at this
      simpa using this
  refine ⟨(cs.toList.take 16).map fun v => UInt32.ofNat (zOf v), zOf (cs.toList.getD 16 undef), ?_, ?_, ?_⟩
  · congr 1
    apply Array.toList_inj.1
    apply List.ext_getElem?
    intro i
    have hlen17 : cs.toList.length = 17 := by simpa using hsz'
    by_cases hi : i < 17
    · obtain ⟨z, hz, hc⟩ := cell i hi
      rw [hc]
      unfold ctx
      by_cases hi16 : i < 16
      · rw [List.getElem?_append_left (by simp [wvs]; omega)]
        simp only [wvs, List.getElem?_map, List.getElem?_take, if_pos hi16, hc, Option.map_some, zOf]
        congr 2
        rw [UInt32.toNat_ofNat_of_lt' (by simpa using hz)]
        simp
      · obtain rfl : i = 16 := by omega
        rw [List.getElem?_append_right (by simp [wvs]; omega)]
        simp only [wvs, List.length_map, List.length_take, hlen17]
        simp [List.getD, hc, zOf]
    · rw [List.getElem?_eq_none (by omega), List.getElem?_eq_none (by simp [ctx, wvs]; omega)]
  · simp [hsz']
  · obtain ⟨z, hz, hc⟩ := cell 16 (by omega)
    simp only [List.getD, hc, zOf, Option.getD_some]
    omega

end Go.Proofs.YtipejahmjdamjaaGreatDoor
