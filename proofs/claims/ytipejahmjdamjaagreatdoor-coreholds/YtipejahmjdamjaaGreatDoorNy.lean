import Derived.Test.YtipejahmjdamjaaGreatDoorWx
import Derived.ProofKit
import Derived.OpenShut
import Derived.ChangeOld
import Derived.ChangeSlices
import Derived.Deep.Slices
import Derived.Deep.Strs
import Derived.Test.YtipejahmjdamjaaGreatDoorTlLs
import Derived.SizedLaws
import Derived.Test.YtipejahmjdamjaaGreatDoorNx
namespace Go.Proofs.YtipejahmjdamjaaGreatDoor
open Go.ChangeShapes Go.WideShapes Go.ChangeAt Go.RowKit Go.Deep
set_option linter.unusedVariables false

theorem own : ownKnob Tryz.prog.godebug = none := by kernel_rfl
theorem laidOut : laidOutB Tryz.prog = true := by kernel_rfl
theorem wf_u32b {n : Int} (h : (Lit.int .u32 n).wf = true) : 0 ≤ n ∧ n < 4294967296 := by
  have : 0 ≤ n ∧ n ≤ 4294967295 := by simpa [Lit.wf, IntKind.min, IntKind.max, IntKind.signed, IntKind.bits] using h
  omega
theorem wf_i64 {n : Int} (h : (Lit.int .i64 n).wf = true) : -9223372036854775808 ≤ n ∧ n ≤ 9223372036854775807 := by
  simpa [Lit.wf, IntKind.min, IntKind.max, IntKind.signed, IntKind.bits] using h

/-- A list of words, by its cell. -/
theorem words_cell {H : Type} {enc : TypeId × Value → H} {W : World} {cs : List Value} {x : DataW H × List MemPlace} {fuel : Nat}
    (h : DataW.trod enc Tryz.prog W 0 (fun _ => true) true fuel 22 cs = some x) : ∃ a ws c, cs = [.slice a (List.length (α := UInt32) ws) c] ∧ ws.length ≤ maxLen ∧ SegW W a ws := by
  rcases open_ints Tryz.underlying22 Tryz.underlying37 (by kernel_rfl) h with ⟨hcs, _⟩ | ⟨x, len, cap, zs, hcs, _, hl, hm, hz, _, hcell, hwz⟩
  · exact ⟨none, [], 0, hcs, Nat.zero_le _, .inl rfl⟩
  · have hz' : zs.length = cap := by simpa using hz
    have hlen : ((zs.take len).map fun z => UInt32.ofNat z.toNat).length = len := by simp; omega
    refine ⟨some x, (zs.take len).map fun z => UInt32.ofNat z.toNat, cap, by rw [hlen]; exact hcs, by rw [hlen]; omega, ?_⟩
    by_cases h0 : len = 0
    · exact .inl (List.eq_nil_of_length_eq_zero (by rw [hlen]; exact h0))
    · obtain ⟨b, off, spot⟩ := x
      have hc := hcell 0 (by omega)
      have hspot : spot = none := by simpa [Addr.add] using World.cell?_spot hc
      subst hspot
      refine .inr ⟨b, off, rfl, fun j hj => ?_⟩
      rw [hlen] at hj
      have h1 := hcell j (by omega)
      rw [addr_add] at h1
      rw [h1]
      have hj' : j < zs.length := by omega
      have h2 := wf_u32b (hwz zs[j] (List.getElem_mem _))
      have e1 : zs.getD j 0 = zs[j] := by simp [List.getD, hj']
      have e2 : ((zs.take len).map fun z => UInt32.ofNat z.toNat)[j]'(by rw [hlen]; exact hj) = UInt32.ofNat zs[j].toNat := by simp
      rw [e1, e2, UInt32.toNat_ofNat']
      congr 2
      omega

set_option maxRecDepth 100000 in
/-- A list of words that came in. -/
theorem words_in {H : Type} {enc : TypeId × Value → H} {W : World} {v : Value} {d : DataW H} {p : List MemPlace} {base : Nat} (hv : Value.okWide Tryz.prog W .any base 22 v)
    (h : DataW.Trod enc Tryz.prog W 0 (fun _ => true) true 22 v d p) : ∃ a ws c, v = .slice a (List.length (α := UInt32) ws) c ∧ ws.length ≤ maxLen ∧ SegW W a ws := by
  obtain ⟨a0, len, cap, rfl⟩ := okWide_slice Tryz.underlying22 hv
  obtain ⟨fuel, hf⟩ := h
  obtain ⟨a, ws, c, hcs, hl, hs⟩ := words_cell hf
  simp [Value.cells] at hcs
  obtain ⟨rfl, rfl, rfl⟩ := hcs
  exact ⟨_, ws, _, rfl, hl, hs⟩

def zOf : Value → Nat | .int _ n => n.toNat | _ => 0

theorem take_one' {l : List Value} {n : Nat} {v : Value} (h : (l.drop n).take 1 = [v]) : l[n]? = some v := by
  have := congrArg (·[0]?) h
  simpa [List.getElem?_take, List.getElem?_drop] using this

set_option maxRecDepth 100000 in
/-- A context that came in. -/
theorem ctx_in {H : Type} {enc : TypeId × Value → H} {W : World} {v : Value} {d : DataW H} {p : List MemPlace} {base : Nat} (hv : Value.okWide Tryz.prog W .any base 40 v)
    (h : DataW.Trod enc Tryz.prog W 0 (fun _ => true) true 40 v d p) : ∃ rg pc, v = .agg (ctx rg pc).toArray ∧ rg.length = 16 ∧ pc < 4294967296 := by
  obtain ⟨cs, rfl, hsz⟩ := okWide_struct Tryz.underlying40 hv
  have hsz' : cs.size = 17 := hsz.trans (by kernel_rfl)
  obtain ⟨fuel, hf⟩ := h
  obtain ⟨xs, n, _, hx, _, hlen, hg⟩ := DataW.trod_struct Tryz.underlying40 hf
  have hc38 : Tryz.prog.cellsOf 38 = 16 := by kernel_rfl
  have hc37 : Tryz.prog.cellsOf 37 = 1 := by kernel_rfl
  have h0 : DataW.trod enc Tryz.prog W 0 (fun _ => true) true n 38 ((cs.toList.drop 0).take (Tryz.prog.cellsOf 38)) = xs[0]? := hg 0 _ rfl
  have h1 : DataW.trod enc Tryz.prog W 0 (fun _ => true) true n 37 ((cs.toList.drop 16).take (Tryz.prog.cellsOf 37)) = xs[1]? := hg 1 _ rfl
  rw [hc38] at h0
  rw [hc37] at h1
  have hl2 : xs.length = 2 := hlen
  have hx0 : xs[0]? = some (xs[0]'(by omega)) := List.getElem?_eq_getElem (by omega)
  have hx1 : xs[1]? = some (xs[1]'(by omega)) := List.getElem?_eq_getElem (by omega)
  rw [hx0] at h0
  rw [hx1] at h1
  have cell : ∀ i, i < 17 → ∃ z : Nat, z < 4294967296 ∧ cs.toList[i]? = some (.int .u32 (z : Int)) := by
    intro i hi
    by_cases hi16 : i = 16
    · subst hi16
      obtain ⟨z, hz, _, hw⟩ := DataW.trod_int Tryz.underlying37 h1
      have hb := wf_u32b hw
      exact ⟨z.toNat, by omega, by rw [show ((z.toNat : Nat) : Int) = z by omega]; exact take_one' hz⟩
    · obtain ⟨ys, m, _, hy, _, hyl, hf2⟩ := DataW.trod_array Tryz.underlying38 h0
      have h2 := hf2 i (by omega)
      rw [hc37, Nat.mul_one] at h2
      have hy0 : ys[i]? = some (ys[i]'(by omega)) := List.getElem?_eq_getElem (by omega)
      rw [hy0] at h2
      obtain ⟨z, hz, _, hw⟩ := DataW.trod_int Tryz.underlying37 h2
      have hb := wf_u32b hw
      refine ⟨z.toNat, by omega, ?_⟩
      rw [show ((z.toNat : Nat) : Int) = z by omega]
      have := take_one' hz
      rw [List.getElem?_take, if_pos (by omega)] at this
      simpa using this
  refine ⟨(cs.toList.take 16).map fun v => UInt32.ofNat (zOf v), zOf (cs.toList.getD 16 undef), ?_, ?_, ?_⟩
  · congr 1
    apply Array.toList_inj.1
    apply List.ext_getElem?
    intro i
    have hlen17 : cs.toList.length = 17 := by simpa using hsz'
    by_cases hi : i < 17
    · obtain ⟨z, hz, hc⟩ := cell i hi
      rw [hc]
      unfold ctx
      by_cases hi16 : i < 16
      · rw [List.getElem?_append_left (by simp [wvs]; omega)]
        simp only [wvs, List.getElem?_map, List.getElem?_take, if_pos hi16, hc, Option.map_some, zOf]
        congr 2
        rw [UInt32.toNat_ofNat_of_lt' (by simpa using hz)]
        simp
      · obtain rfl : i = 16 := by omega
        rw [List.getElem?_append_right (by simp [wvs]; omega)]
        simp only [wvs, List.length_map, List.length_take, hlen17]
        simp [List.getD, hc, zOf]
    · rw [List.getElem?_eq_none (by omega), List.getElem?_eq_none (by simp [ctx, wvs]; omega)]
  · simp [hsz']
  · obtain ⟨z, hz, hc⟩ := cell 16 (by omega)
    simp only [List.getD, hc, zOf, Option.getD_some]
    omega

end Go.Proofs.YtipejahmjdamjaaGreatDoor
namespace Go.Proofs.YtipejahmjdamjaaGreatDoor.Tl
open Go.ChangeShapes Go.WideShapes Go.ChangeAt Go.RowKit Go.Deep
set_option linter.unusedVariables false

/-! ### How long the lists are that came in -/
theorem bytes38 : Tryz.prog.bytesOf 64 = 24 := by kernel_rfl
theorem weights_mem {H : Type} {P : Program} {e : TypeId} {d : DataW H} {q : Nat} : ∀ {ds : List (DataW H)}, d ∈ ds → q ∈ d.weights P e → q ∈ DataW.weightsAll P e ds
  | [], h, _ => by cases h
  | x :: r, h, hq => by
    simp only [DataW.weightsAll, List.mem_append]
    rcases List.mem_cons.1 h with rfl | h
    · exact .inl hq
    · exact .inr (weights_mem h hq)

/-- A list of leaves, by its cell. -/
theorem leaves_cell3 {H : Type} {enc : TypeId × Value → H} {W : World} {cs : List Value} {x : DataW H × List MemPlace} {fuel : Nat}
    (h : DataW.trod enc Tryz.prog W 0 (fun _ => true) true fuel 42 cs = some x) : ∃ a ls c, cs = [.slice a (List.length (α := Lf) ls) c] ∧ (ls.length ≤ c ∧ c ≤ maxLen) ∧ SegL W a ls ∧ (∀ l ∈ ls, l.Fine) ∧ ((∀ q ∈ DataW.weights Tryz.prog 42 x.1, q ≤ reachBytes) → ls.length ≤ 5864062014634) := by
  rcases open_slice Tryz.underlying42 h with ⟨hcs, _⟩ | ⟨ad, len, cap, m, n, D, Pl, hcs, _, hl, hm, hmm, hx, hcell⟩
  · exact ⟨none, [], 0, hcs, ⟨Nat.zero_le _, Nat.zero_le _⟩, .inl rfl, (fun l hl => by cases hl), fun _ => Nat.zero_le _⟩
  · have hmc : m = cap := by simpa using hmm
    subst hmc
    have each : ∀ i, i < len → ∃ l : Lf, W.cell? (ad.add (i * 3)) = some (.int .i64 l.p) ∧ W.cell? (ad.add (i * 3 + 1)) = some (.int .i64 l.f) ∧ W.cell? (ad.add (i * 3 + 2)) = some (.int .i64 l.r) ∧ l.Fine := by
      intro i hi
      obtain ⟨cs', h1, h2⟩ := hcell i (by omega)
      rw [cells38] at h1
      obtain ⟨_, hlen3, hc3⟩ := World.cells?_some h1
      obtain ⟨l, rfl, hF⟩ := leaf_cell hlen3 h2
      have q0 := hc3 0 (by omega)
      have q1 := hc3 1 (by omega)
      have q2 := hc3 2 (by omega)
      rw [add_add] at q0 q1 q2
      exact ⟨l, by simpa using q0, by simpa using q1, by simpa using q2, hF⟩
    obtain ⟨V, hV⟩ := choose_lt each
    refine ⟨some ad, (List.range len).map V, m, by simp [hcs], by simp; omega, ?_, ?_, ?_⟩
    · by_cases h0 : len = 0
      · exact .inl (by simp [h0])
      · obtain ⟨b, off, spot⟩ := ad
        have hc := (hV 0 (by omega)).1
        have hspot : spot = none := by simpa [Addr.add] using World.cell?_spot hc
        subst hspot
        refine .inr ⟨b, off, rfl, fun j l hj => ?_⟩
        have hj' : j < len := by
          have := (List.getElem?_eq_some_iff.1 hj).1
          simpa using this
        have e : l = V j := by simp [hj'] at hj; exact hj.symm
        subst e
        obtain ⟨h1, h2, h3, _⟩ := hV j hj'
        rw [addr_add] at h1 h2 h3
        exact ⟨h1, by rw [Nat.add_assoc]; exact h2, by rw [Nat.add_assoc]; exact h3⟩
    · intro l hl
      obtain ⟨i, hi, rfl⟩ := List.mem_map.1 hl
      exact (hV i (by simpa using hi)).2.2.2
    · intro hq
      rw [hx] at hq
      have h1 := hq ((((List.range len).map D).length + ((List.range (m - len)).map fun j => D (len + j)).length) * Tryz.prog.bytesOf 64) (by simp [DataW.weights, Tryz.underlying42])
      rw [bytes38] at h1
      have h2 : reachBytes = 140737488351232 := rfl
      rw [h2] at h1
      simp at h1 ⊢
      omega

end Go.Proofs.YtipejahmjdamjaaGreatDoor.Tl
namespace Go.Proofs.YtipejahmjdamjaaGreatDoor
open Go.ChangeShapes Go.WideShapes Go.ChangeAt Go.RowKit Go.Deep
set_option linter.unusedVariables false

theorem bytes3 : Tryz.prog.bytesOf 3 = 8 := by kernel_rfl
theorem bytes99 : Tryz.prog.bytesOf 99 = 24 := by kernel_rfl
theorem cells99 : Tryz.prog.cellsOf 99 = 1 := by kernel_rfl
theorem cells40 : Tryz.prog.cellsOf 40 = 17 := by kernel_rfl
theorem cells41 : Tryz.prog.cellsOf 41 = 1 := by kernel_rfl
theorem cells42 : Tryz.prog.cellsOf 42 = 1 := by kernel_rfl
theorem cells37 : Tryz.prog.cellsOf 37 = 1 := by kernel_rfl
theorem cells38 : Tryz.prog.cellsOf 38 = 16 := by kernel_rfl

variable {H : Type} {enc : TypeId × Value → H} {W : World}
/-- A list of ints, by its cell. -/
theorem ints_cell3 {cs : List Value} {x : DataW H × List MemPlace} {fuel : Nat}
    (h : DataW.trod enc Tryz.prog W 0 (fun _ => true) true fuel 99 cs = some x) : ∃ a ls c, cs = [.slice a (List.length (α := Int) ls) c] ∧ (ls.length ≤ c ∧ c ≤ maxLen) ∧ Ch.SegI W a ls ∧ ((∀ q ∈ DataW.weights Tryz.prog 99 x.1, q ≤ reachBytes) → ls.length ≤ 17592186043904) := by
  rcases open_ints Tryz.underlying99 Tryz.underlying3 (by kernel_rfl) h with ⟨hcs, _⟩ | ⟨ad, len, cap, zs, hcs, _, hl, hm, hz, hx, hcell, hwz⟩
  · exact ⟨none, [], 0, hcs, ⟨Nat.zero_le _, Nat.zero_le _⟩, .inl rfl, fun _ => Nat.zero_le _⟩
  · have hz' : zs.length = cap := by simpa using hz
    have hlen : (zs.take len).length = len := by simp; omega
    refine ⟨some ad, zs.take len, cap, by rw [hlen]; exact hcs, by rw [hlen]; omega, ?_, ?_⟩
    · by_cases h0 : len = 0
      · exact .inl (List.eq_nil_of_length_eq_zero (by rw [hlen]; exact h0))
      · obtain ⟨b, off, spot⟩ := ad
        have hc := hcell 0 (by omega)
        have hspot : spot = none := by simpa [Addr.add] using World.cell?_spot hc
        subst hspot
        refine .inr ⟨b, off, rfl, fun j hj => ?_⟩
        rw [hlen] at hj
        have h1 := hcell j (by omega)
        rw [addr_add] at h1
        rw [h1]
        have hj' : j < zs.length := by omega
        simp [List.getD, hj']
    · intro hq
      rw [hx] at hq
      have h1 := hq (((lits .i64 (zs.take len) : List (DataW H)).length + (lits .i64 (zs.drop len) : List (DataW H)).length) * Tryz.prog.bytesOf 3) (by simp [DataW.weights, Tryz.underlying99])
      rw [bytes3] at h1
      have h2 : reachBytes = 140737488351232 := rfl
      rw [h2] at h1
      simp [lits] at h1 ⊢
      omega

structure Ln where
  a : Option Addr
  l : List Int
  c : Nat
instance : Inhabited Ln := ⟨⟨none, [], 0⟩⟩

/-- A list of lists of ints, by its cell. -/
theorem lines_cell3 {cs : List Value} {x : DataW H × List MemPlace} {fuel : Nat}
    (h : DataW.trod enc Tryz.prog W 0 (fun _ => true) true fuel 41 cs = some x) : ∃ a lls c, cs = [.slice a (List.length (α := List Int) lls) c] ∧ Ch.SegL W a lls ∧ ((∀ q ∈ DataW.weights Tryz.prog 41 x.1, q ≤ reachBytes) → lls.length ≤ 5864062014634 ∧ ∀ (j : Nat) (l : List Int), lls[j]? = some l → l.length ≤ 17592186043904) := by
  rcases open_slice1 Tryz.underlying41 cells99 h with ⟨hcs, _⟩ | ⟨ad, len, cap, m, n, V, D, Pl, hcs, _, hl, hm, hmm, hx, hcell⟩
  · exact ⟨none, [], 0, hcs, .inl rfl, fun _ => ⟨Nat.zero_le _, fun j l h => by simp at h⟩⟩
  · have hmc : m = cap := by simpa using hmm
    subst hmc
    have each : ∀ i, i < len → ∃ r : Ln, W.cell? (ad.add i) = some (.slice r.a r.l.length r.c) ∧ (r.l.length ≤ r.c ∧ r.c ≤ maxLen) ∧ Ch.SegI W r.a r.l ∧ ((∀ q ∈ DataW.weights Tryz.prog 99 (D i), q ≤ reachBytes) → r.l.length ≤ 17592186043904) := by
      intro i hi
      obtain ⟨h1, h2⟩ := hcell i (by omega)
      obtain ⟨a, l, c, e, hc, hs, hq⟩ := ints_cell3 h2
      have e' : V i = .slice a l.length c := by simpa using e
      rw [e'] at h1
      exact ⟨⟨a, l, c⟩, h1, hc, hs, hq⟩
    obtain ⟨R, hR⟩ := choose_lt each
    refine ⟨some ad, (List.range len).map fun i => (R i).l, m, by simp [hcs], ?_, ?_⟩
    · by_cases h0 : len = 0
      · exact .inl (by simp [h0])
      · obtain ⟨b, off, spot⟩ := ad
        have hc := (hR 0 (by omega)).1
        have hspot : spot = none := by simpa [Addr.add] using World.cell?_spot hc
        subst hspot
        refine .inr ⟨b, off, rfl, fun j l hj => ?_⟩
        have hj' : j < len := by
          have := (List.getElem?_eq_some_iff.1 hj).1
          simpa using this
        have e : l = (R j).l := by simp [hj'] at hj; exact hj.symm
        subst e
        obtain ⟨h1, h2, h3, _⟩ := hR j hj'
        rw [addr_add] at h1
        refine ⟨(R j).a, (R j).c, h1, h3, h2.1, ?_⟩
        have := h2.2
        unfold maxLen at this
        omega
    · intro hq
      have e7 : x.1 = .slice ((List.range len).map D) ((List.range (m - len)).map fun j => D (len + j)) := by rw [hx]
      refine ⟨?_, fun j l hj => ?_⟩
      · have h1 := hq ((((List.range len).map D).length + ((List.range (m - len)).map fun j => D (len + j)).length) * Tryz.prog.bytesOf 99) (by rw [e7]; simp [DataW.weights, Tryz.underlying41])
        rw [bytes99] at h1
        have h2 : reachBytes = 140737488351232 := rfl
        rw [h2] at h1
        simp at h1 ⊢
        omega
      · have hj' : j < len := by
          have := (List.getElem?_eq_some_iff.1 hj).1
          simpa using this
        have e : l = (R j).l := by simp [hj'] at hj; exact hj.symm
        subst e
        refine (hR j hj').2.2.2 fun q hqi => hq q ?_
        rw [e7]
        have h1 : q ∈ DataW.weightsAll Tryz.prog 99 ((List.range len).map D) := Tl.weights_mem (List.mem_map.2 ⟨j, by simpa using hj', rfl⟩) hqi
        simp only [DataW.weights, Tryz.underlying41, List.mem_cons, List.mem_append]
        exact .inr (.inl h1)

/-- A context, by its cells. -/
theorem ctx_cell {cs : List Value} {x : DataW H × List MemPlace} {fuel : Nat} (hl : cs.length = 17)
    (h : DataW.trod enc Tryz.prog W 0 (fun _ => true) true fuel 40 cs = some x) : ∃ rg pc, cs = ctx rg pc ∧ rg.length = 16 ∧ pc < 4294967296 := by
  obtain ⟨xs, n, _, hx, _, hlen, hg⟩ := DataW.trod_struct Tryz.underlying40 h
  have h0 : DataW.trod enc Tryz.prog W 0 (fun _ => true) true n 38 ((cs.drop 0).take (Tryz.prog.cellsOf 38)) = xs[0]? := hg 0 _ rfl
  have h1 : DataW.trod enc Tryz.prog W 0 (fun _ => true) true n 37 ((cs.drop 16).take (Tryz.prog.cellsOf 37)) = xs[1]? := hg 1 _ rfl
  rw [cells38] at h0
  rw [cells37] at h1
  have hl2 : xs.length = 2 := hlen
  have hx0 : xs[0]? = some (xs[0]'(by omega)) := List.getElem?_eq_getElem (by omega)
  have hx1 : xs[1]? = some (xs[1]'(by omega)) := List.getElem?_eq_getElem (by omega)
  rw [hx0] at h0
  rw [hx1] at h1
  have cell : ∀ i, i < 17 → ∃ z : Nat, z < 4294967296 ∧ cs[i]? = some (.int .u32 (z : Int)) := by
    intro i hi
    by_cases hi16 : i = 16
    · subst hi16
      obtain ⟨z, hz, _, hw⟩ := DataW.trod_int Tryz.underlying37 h1
      have hb := wf_u32b hw
      exact ⟨z.toNat, by omega, by rw [show ((z.toNat : Nat) : Int) = z by omega]; exact take_one' hz⟩
    · obtain ⟨ys, m, _, hy, _, hyl, hf2⟩ := DataW.trod_array Tryz.underlying38 h0
      have h2 := hf2 i (by omega)
      rw [cells37, Nat.mul_one] at h2
      have hy0 : ys[i]? = some (ys[i]'(by omega)) := List.getElem?_eq_getElem (by omega)
      rw [hy0] at h2
      obtain ⟨z, hz, _, hw⟩ := DataW.trod_int Tryz.underlying37 h2
      have hb := wf_u32b hw
      refine ⟨z.toNat, by omega, ?_⟩
      rw [show ((z.toNat : Nat) : Int) = z by omega]
      have := take_one' hz
      rw [List.getElem?_take, if_pos (by omega)] at this
      simpa using this
  refine ⟨(cs.take 16).map fun v => UInt32.ofNat (zOf v), zOf (cs.getD 16 undef), ?_, ?_, ?_⟩
  · apply List.ext_getElem?
    intro i
    by_cases hi : i < 17
    · obtain ⟨z, hz, hc⟩ := cell i hi
      rw [hc]
      unfold ctx
      by_cases hi16 : i < 16
      · rw [List.getElem?_append_left (by simp [wvs]; omega)]
        simp only [wvs, List.getElem?_map, List.getElem?_take, if_pos hi16, hc, Option.map_some, zOf]
        congr 2
        rw [UInt32.toNat_ofNat_of_lt' (by simpa using hz)]
        simp
      · obtain rfl : i = 16 := by omega
        rw [List.getElem?_append_right (by simp [wvs]; omega)]
        simp only [wvs, List.length_map, List.length_take, hl]
        simp [List.getD, hc, zOf]
    · rw [List.getElem?_eq_none (by omega), List.getElem?_eq_none (by simp [ctx, wvs]; omega)]
  · simp [hl]
  · obtain ⟨z, hz, hc⟩ := cell 16 (by omega)
    simp only [List.getD, hc, zOf, Option.getD_some]
    omega

set_option maxRecDepth 100000 in
/-- What is to be held, as it came in. -/
theorem held_in {v : Value} {d : DataW H} {p : List MemPlace} {base : Nat} (hv : Value.okWide Tryz.prog W .any base 44 v)
    (h : DataW.Trod enc Tryz.prog W 0 (fun _ => true) true 44 v d p) (hq : ∀ q ∈ DataW.weights Tryz.prog 44 d, q ≤ reachBytes) :
    ∃ rg pc la lls lc va ls vc, v = .agg (heldL rg pc (.slice la (List.length (α := List Int) lls) lc) (.slice va (List.length (α := Tl.Lf) ls) vc)).toArray ∧ HIn W rg pc la lls lc va ls vc ∧
      (lls.length ≤ 35184372088832 ∧ (∀ (j : Nat) (l : List Int), lls[j]? = some l → l.length ≤ 35184372088832) ∧ ls.length ≤ 35184372088832) := by
  obtain ⟨cs, rfl, hsz⟩ := okWide_struct Tryz.underlying44 hv
  have hsz' : cs.size = 19 := hsz.trans (by kernel_rfl)
  obtain ⟨fuel, hf⟩ := h
  obtain ⟨xs, n, _, hx, _, hlen, hg⟩ := DataW.trod_struct Tryz.underlying44 hf
  obtain ⟨y0, y1, y2, rfl⟩ : ∃ y0 y1 y2, xs = [y0, y1, y2] := by
    match xs, hlen with
    | [y0, y1, y2], _ => exact ⟨y0, y1, y2, rfl⟩
  have h0 : DataW.trod enc Tryz.prog W 0 (fun _ => true) true n 40 ((cs.toList.drop 0).take (Tryz.prog.cellsOf 40)) = some y0 := hg 0 _ rfl
  have h1 : DataW.trod enc Tryz.prog W 0 (fun _ => true) true n 41 ((cs.toList.drop 17).take (Tryz.prog.cellsOf 41)) = some y1 := hg 1 _ rfl
  have h2 : DataW.trod enc Tryz.prog W 0 (fun _ => true) true n 42 ((cs.toList.drop 18).take (Tryz.prog.cellsOf 42)) = some y2 := hg 2 _ rfl
  rw [cells40] at h0
  rw [cells41] at h1
  rw [cells42] at h2
  have hl : cs.toList.length = 19 := by simpa using hsz'
  obtain ⟨rg, pc, e0, g0, b0⟩ := ctx_cell (by simp; omega) h0
  obtain ⟨la, lls, lc, e1, s1, q1⟩ := lines_cell3 h1
  obtain ⟨va, ls, vc, e2, c2, s2, _, q2⟩ := Tl.leaves_cell3 h2
  have ed : d = .agg [y0.1, y1.1, y2.1] := (Prod.mk.inj hx).1
  have z1 := q1 fun q hqi => hq q (by
    rw [ed]
    simp only [DataW.weights, Tryz.underlying44]
    exact DataW.weights_mem_each (j := 1) (t := 41) (d := y1.1) (by kernel_rfl) rfl q hqi)
  have z2 := q2 fun q hqi => hq q (by
    rw [ed]
    simp only [DataW.weights, Tryz.underlying44]
    exact DataW.weights_mem_each (j := 2) (t := 42) (d := y2.1) (by kernel_rfl) rfl q hqi)
  refine ⟨rg, pc, la, lls, lc, va, ls, vc, ?_, ⟨g0, b0, s1, s2, c2⟩, ⟨by omega, fun j l hj => by have := z1.2 j l hj; omega, by omega⟩⟩
  congr 1
  apply Array.toList_inj.1
  unfold heldL
  have f1 := take_one' e1
  have f2 := take_one' e2
  have e3 : cs.toList = (cs.toList.drop 0).take 17 ++ [cs.toList[17]'(by omega), cs.toList[18]'(by omega)] := by
    apply List.ext_getElem?
    intro i
    by_cases hi : i < 17
    · rw [List.getElem?_append_left (by simp; omega)]
      simp [hi]
    · rw [List.getElem?_append_right (by simp; omega)]
      have : ((cs.toList.drop 0).take 17).length = 17 := by simp; omega
      rw [this]
      by_cases e : i = 17
      · subst e; simp
      · by_cases e : i = 18
        · subst e; simp
        · rw [List.getElem?_eq_none (by omega), List.getElem?_eq_none (by simp; omega)]
  rw [List.getElem?_eq_getElem (by omega)] at f1 f2
  rw [e3, e0, Option.some.inj f1, Option.some.inj f2]

end Go.Proofs.YtipejahmjdamjaaGreatDoor
