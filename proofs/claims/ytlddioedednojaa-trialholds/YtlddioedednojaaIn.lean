import Derived.Test.YtlddioedednojaaG
import Derived.ProofKit
import Derived.OpenShut
import Derived.ChangeOld
import Derived.ChangeSlices
import Derived.Deep.Slices
import Derived.Deep.Strs
namespace Go.Proofs.Ytlddioedednojaa
open Go.ChangeShapes Go.WideShapes Go.ChangeAt Go.RowKit Go.Deep
set_option linter.unusedVariables false
set_option maxRecDepth 100000

theorem own : ownKnob Try.prog.godebug = none := by kernel_rfl
theorem laidOut : laidOutB Try.prog = true := by kernel_rfl
theorem wf_i64 {n : Int} (h : (Lit.int .i64 n).wf = true) : I64 n := by
  have : -9223372036854775808 ≤ n ∧ n ≤ 9223372036854775807 := by simpa [Lit.wf, IntKind.min, IntKind.max, IntKind.signed, IntKind.bits] using h
  exact this
theorem wf_u32b {n : Int} (h : (Lit.int .u32 n).wf = true) : 0 ≤ n ∧ n < 4294967296 := by
  have : 0 ≤ n ∧ n ≤ 4294967295 := by simpa [Lit.wf, IntKind.min, IntKind.max, IntKind.signed, IntKind.bits] using h
  omega
theorem u32_of {n : Int} (h : (Lit.int .u32 n).wf = true) : ((UInt32.ofNat n.toNat).toNat : Int) = n := by
  have := wf_u32b h
  rw [UInt32.toNat_ofNat']
  omega
def zOf : Value → Nat | .int _ n => n.toNat | _ => 0
theorem take_one' {l : List Value} {n : Nat} {v : Value} (h : (l.drop n).take 1 = [v]) : l[n]? = some v := by
  have := congrArg (·[0]?) h
  simpa [List.getElem?_take, List.getElem?_drop] using this
theorem wvs_at (xs : List UInt32) (i : Nat) : (wvs xs)[i]? = xs[i]?.map fun x => .int .u32 (x.toNat : Int) := by simp [wvs]
theorem u32s_of {cs : List Value} {n : Nat} (hl : cs.length = n) (h : ∀ i, i < n → ∃ z : Nat, z < 4294967296 ∧ cs[i]? = some (.int .u32 (z : Int))) : ∃ ys : List UInt32, cs = wvs ys ∧ ys.length = n := by
  refine ⟨cs.map fun v => UInt32.ofNat (zOf v), ?_, by simpa using hl⟩
  refine List.ext_getElem? fun i => ?_
  rw [wvs_at, List.getElem?_map]
  by_cases hi : i < n
  · obtain ⟨z, hz, hc⟩ := h i hi
    rw [hc]
    simp only [Option.map_some, zOf]
    rw [UInt32.toNat_ofNat']
    congr 2
    omega
  · rw [List.getElem?_eq_none (by omega)]; rfl
theorem cells3 : Try.prog.cellsOf 3 = 1 := by kernel_rfl
theorem cells4 : Try.prog.cellsOf 4 = 1 := by kernel_rfl
theorem cells28 : Try.prog.cellsOf 28 = 1 := by kernel_rfl
theorem cells29 : Try.prog.cellsOf 29 = 16 := by kernel_rfl
theorem cells31 : Try.prog.cellsOf 31 = 17 := by kernel_rfl
theorem cells33 : Try.prog.cellsOf 33 = 26 := by kernel_rfl

variable {H : Type} {enc : TypeId × Value → H} {W : World}
theorem ctx_cell {cs : List Value} {x : DataW H × List MemPlace} {fuel : Nat} (hl : cs.length = 17)
    (h : DataW.trod enc Try.prog W 0 (fun _ => true) true fuel 31 cs = some x) : ∃ ys : List UInt32, cs = wvs ys ∧ ys.length = 17 := by
  obtain ⟨xs, n, _, hx, _, hlen, hg⟩ := DataW.trod_struct Try.underlying31 h
  have h0 : DataW.trod enc Try.prog W 0 (fun _ => true) true n 29 ((cs.drop 0).take (Try.prog.cellsOf 29)) = xs[0]? := hg 0 _ rfl
  have h1 : DataW.trod enc Try.prog W 0 (fun _ => true) true n 28 ((cs.drop 16).take (Try.prog.cellsOf 28)) = xs[1]? := hg 1 _ rfl
  rw [cells29] at h0
  rw [cells28] at h1
  have hl2 : xs.length = 2 := hlen
  have hx0 : xs[0]? = some (xs[0]'(by omega)) := List.getElem?_eq_getElem (by omega)
  have hx1 : xs[1]? = some (xs[1]'(by omega)) := List.getElem?_eq_getElem (by omega)
  rw [hx0] at h0
  rw [hx1] at h1
  refine u32s_of hl fun i hi => ?_
  by_cases hi16 : i = 16
  · subst hi16
    obtain ⟨z, hz, _, hw⟩ := DataW.trod_int Try.underlying28 h1
    have hb := wf_u32b hw
    exact ⟨z.toNat, by omega, by rw [show ((z.toNat : Nat) : Int) = z by omega]; exact take_one' hz⟩
  · obtain ⟨ys, m, _, hy, _, hyl, hf2⟩ := DataW.trod_array Try.underlying29 h0
    have h2 := hf2 i (by omega)
    rw [cells28, Nat.mul_one] at h2
    have hy0 : ys[i]? = some (ys[i]'(by omega)) := List.getElem?_eq_getElem (by omega)
    rw [hy0] at h2
    obtain ⟨z, hz, _, hw⟩ := DataW.trod_int Try.underlying28 h2
    have hb := wf_u32b hw
    refine ⟨z.toNat, by omega, ?_⟩
    rw [show ((z.toNat : Nat) : Int) = z by omega]
    have := take_one' hz
    rw [List.getElem?_take, if_pos (by omega)] at this
    simpa using this
theorem seen_cell {cs : List Value} {x : DataW H × List MemPlace} {fuel : Nat} (hl : cs.length = 26)
    (h : DataW.trod enc Try.prog W 0 (fun _ => true) true fuel 33 cs = some x) : ∃ s : Sn, cs = s.vs ∧ s.Fine := by
  obtain ⟨xs, n, _, hx, _, hlen, hg⟩ := DataW.trod_struct Try.underlying33 h
  have hl10 : xs.length = 10 := hlen
  have hx' : ∀ i, (hi : i < 10) → xs[i]? = some (xs[i]'(by omega)) := fun i hi => List.getElem?_eq_getElem (by omega)
  have g0 : DataW.trod enc Try.prog W 0 (fun _ => true) true n 3 ((cs.drop 0).take (Try.prog.cellsOf 3)) = xs[0]? := hg 0 _ rfl
  have g1 : DataW.trod enc Try.prog W 0 (fun _ => true) true n 3 ((cs.drop 1).take (Try.prog.cellsOf 3)) = xs[1]? := hg 1 _ rfl
  have g2 : DataW.trod enc Try.prog W 0 (fun _ => true) true n 3 ((cs.drop 2).take (Try.prog.cellsOf 3)) = xs[2]? := hg 2 _ rfl
  have g3 : DataW.trod enc Try.prog W 0 (fun _ => true) true n 28 ((cs.drop 3).take (Try.prog.cellsOf 28)) = xs[3]? := hg 3 _ rfl
  have g4 : DataW.trod enc Try.prog W 0 (fun _ => true) true n 28 ((cs.drop 4).take (Try.prog.cellsOf 28)) = xs[4]? := hg 4 _ rfl
  have g5 : DataW.trod enc Try.prog W 0 (fun _ => true) true n 3 ((cs.drop 5).take (Try.prog.cellsOf 3)) = xs[5]? := hg 5 _ rfl
  have g6 : DataW.trod enc Try.prog W 0 (fun _ => true) true n 4 ((cs.drop 6).take (Try.prog.cellsOf 4)) = xs[6]? := hg 6 _ rfl
  have g7 : DataW.trod enc Try.prog W 0 (fun _ => true) true n 28 ((cs.drop 7).take (Try.prog.cellsOf 28)) = xs[7]? := hg 7 _ rfl
  have g8 : DataW.trod enc Try.prog W 0 (fun _ => true) true n 28 ((cs.drop 8).take (Try.prog.cellsOf 28)) = xs[8]? := hg 8 _ rfl
  have g9 : DataW.trod enc Try.prog W 0 (fun _ => true) true n 31 ((cs.drop 9).take (Try.prog.cellsOf 31)) = xs[9]? := hg 9 _ rfl
  rw [cells3, hx' 0 (by omega)] at g0
  rw [cells3, hx' 1 (by omega)] at g1
  rw [cells3, hx' 2 (by omega)] at g2
  rw [cells28, hx' 3 (by omega)] at g3
  rw [cells28, hx' 4 (by omega)] at g4
  rw [cells3, hx' 5 (by omega)] at g5
  rw [cells4, hx' 6 (by omega)] at g6
  rw [cells28, hx' 7 (by omega)] at g7
  rw [cells28, hx' 8 (by omega)] at g8
  rw [cells31, hx' 9 (by omega)] at g9
  obtain ⟨K0, e0, _, w0⟩ := DataW.trod_int Try.underlying3 g0
  obtain ⟨K1, e1, _, w1⟩ := DataW.trod_int Try.underlying3 g1
  obtain ⟨K2, e2, _, w2⟩ := DataW.trod_int Try.underlying3 g2
  obtain ⟨K3, e3, _, w3⟩ := DataW.trod_int Try.underlying28 g3
  obtain ⟨K4, e4, _, w4⟩ := DataW.trod_int Try.underlying28 g4
  obtain ⟨K5, e5, _, w5⟩ := DataW.trod_int Try.underlying3 g5
  obtain ⟨b6, e6, _⟩ := DataW.trod_bool Try.underlying4 g6
  obtain ⟨K7, e7, _, w7⟩ := DataW.trod_int Try.underlying28 g7
  obtain ⟨K8, e8, _, w8⟩ := DataW.trod_int Try.underlying28 g8
  obtain ⟨ys, e9, hy⟩ := ctx_cell (by simp; omega) g9
  refine ⟨⟨K0, K1, K2, UInt32.ofNat K3.toNat, UInt32.ofNat K4.toNat, K5, b6, UInt32.ofNat K7.toNat, UInt32.ofNat K8.toNat, ys⟩, ?_, wf_i64 w0, wf_i64 w1, wf_i64 w2, wf_i64 w5, hy⟩
  refine List.ext_getElem? fun i => ?_
  unfold Sn.vs
  dsimp only
  rw [u32_of w3, u32_of w4, u32_of w7, u32_of w8, ← e9]
  have f0 := take_one' e0
  have f1 := take_one' e1
  have f2 := take_one' e2
  have f3 := take_one' e3
  have f4 := take_one' e4
  have f5 := take_one' e5
  have f6 := take_one' e6
  have f7 := take_one' e7
  have f8 := take_one' e8
  by_cases h9 : i < 9
  · rw [List.getElem?_append_left (by simp; omega)]
    have : i = 0 ∨ i = 1 ∨ i = 2 ∨ i = 3 ∨ i = 4 ∨ i = 5 ∨ i = 6 ∨ i = 7 ∨ i = 8 := by omega
    rcases this with rfl | rfl | rfl | rfl | rfl | rfl | rfl | rfl | rfl
    · exact f0
    · exact f1
    · exact f2
    · exact f3
    · exact f4
    · exact f5
    · exact f6
    · exact f7
    · exact f8
  · rw [List.getElem?_append_right (by simp; omega), List.getElem?_take, List.getElem?_drop]
    simp only [List.length_cons, List.length_nil]
    by_cases h26 : i < 26
    · rw [if_pos (by omega)]
      congr 1
      omega
    · rw [if_neg (by omega), List.getElem?_eq_none (by omega)]

/-- A list of them, by its cell. -/
theorem seens_cell {cs : List Value} {x : DataW H × List MemPlace} {fuel : Nat}
    (h : DataW.trod enc Try.prog W 0 (fun _ => true) true fuel 22 cs = some x) : ∃ a ls c, cs = [.slice a (List.length (α := Sn) ls) c] ∧ (ls.length ≤ c ∧ c ≤ maxLen) ∧ SegS W a ls ∧ ∀ l ∈ ls, l.Fine := by
  rcases open_slice Try.underlying22 h with ⟨hcs, _⟩ | ⟨x, len, cap, m, n, D, Pl, hcs, _, hl, hm, hmm, hx, hcell⟩
  · exact ⟨none, [], 0, hcs, ⟨Nat.zero_le _, Nat.zero_le _⟩, .inl rfl, fun l hl => by cases hl⟩
  · have hmc : m = cap := by simpa using hmm
    subst hmc
    have each : ∀ i, i < len → ∃ l : Sn, (∀ j v, l.vs[j]? = some v → W.cell? (x.add (i * 26 + j)) = some v) ∧ l.Fine := by
      intro i hi
      obtain ⟨cs', h1, h2⟩ := hcell i (by omega)
      rw [cells33] at h1
      obtain ⟨_, hlen3, hc3⟩ := World.cells?_some h1
      obtain ⟨l, rfl, hF⟩ := seen_cell hlen3 h2
      refine ⟨l, fun j v hv => ?_, hF⟩
      have := hc3 j (by have := (List.getElem?_eq_some_iff.1 hv).1; omega)
      rw [add_add] at this
      rw [this, hv]
    obtain ⟨V, hV⟩ := choose_lt each
    refine ⟨some x, (List.range len).map V, m, by simp [hcs], by simp; omega, ?_, ?_⟩
    · by_cases h0 : len = 0
      · exact .inl (by simp [h0])
      · obtain ⟨b, off, spot⟩ := x
        have hc := (hV 0 (by omega)).1 0 _ rfl
        have hspot : spot = none := by simpa [Addr.add] using World.cell?_spot hc
        subst hspot
        refine .inr ⟨b, off, rfl, fun j l hj i v hv => ?_⟩
        have hj' : j < len := by
          have := (List.getElem?_eq_some_iff.1 hj).1
          simpa using this
        have e : l = V j := by simp [hj'] at hj; exact hj.symm
        subst e
        have h1 := (hV j hj').1 i v hv
        rw [addr_add] at h1
        rw [Nat.add_assoc]
        exact h1
    · intro l hl
      obtain ⟨i, hi, rfl⟩ := List.mem_map.1 hl
      exact (hV i (by simpa using hi)).2

/-- A list of them that came in. -/
theorem seens_in {v : Value} {d : DataW H} {p : List MemPlace} {base : Nat} (hv : Value.okWide Try.prog W .any base 22 v)
    (h : DataW.Trod enc Try.prog W 0 (fun _ => true) true 22 v d p) : ∃ a ls c, v = .slice a (List.length (α := Sn) ls) c ∧ (ls.length ≤ c ∧ c ≤ maxLen) ∧ SegS W a ls ∧ ∀ l ∈ ls, l.Fine := by
  obtain ⟨a0, len, cap, rfl⟩ := okWide_slice Try.underlying22 hv
  obtain ⟨fuel, hf⟩ := h
  obtain ⟨a, ls, c, hcs, hl, hs⟩ := seens_cell hf
  simp [Value.cells] at hcs
  obtain ⟨rfl, rfl, rfl⟩ := hcs
  exact ⟨_, ls, _, rfl, hl, hs⟩
end Go.Proofs.Ytlddioedednojaa
