import Derived.Test.YtpccdhoaicabcaaWr
import Derived.Test.YtpccdhoaicabcaaIn
namespace Go.Proofs.Ytpccdhoaicabcaa
open Go.ChangeShapes Go.WideShapes Go.ChangeAt Go.RowKit Go.Deep
set_option linter.unusedVariables false

theorem cells97 : Try.prog.cellsOf 97 = 2 := by kernel_rfl
theorem cells3 : Try.prog.cellsOf 3 = 1 := by kernel_rfl
theorem cells27 : Try.prog.cellsOf 27 = 1 := by kernel_rfl
instance : Inhabited Wk := ⟨⟨0, 0⟩⟩

set_option maxRecDepth 100000 in
theorem wk_cell {H : Type} {enc : TypeId × Value → H} {W : World} {cs : List Value} {x : DataW H × List MemPlace} {fuel : Nat} (hl : cs.length = 2)
    (h : DataW.trod enc Try.prog W 0 (fun _ => true) true fuel 97 cs = some x) : ∃ k : Wk, cs = [.int .i64 k.p, .int .u32 (k.x.toNat : Int)] ∧ I64 k.p := by
  obtain ⟨xs, n', _, _, _, hlenx, hfs⟩ := DataW.trod_struct Try.underlying97 h
  obtain ⟨y0, y1, rfl⟩ : ∃ y0 y1, xs = [y0, y1] := by
    match xs, hlenx with
    | [y0, y1], _ => exact ⟨y0, y1, rfl⟩
  obtain ⟨c0, c1, rfl⟩ : ∃ c0 c1, cs = [c0, c1] := by
    match cs, hl with
    | [c0, c1], _ => exact ⟨c0, c1, rfl⟩
  have g0 := hfs 0 _ rfl
  have g1 := hfs 1 _ rfl
  simp [cells3, cells27] at g0 g1
  obtain ⟨K0, e0, _, w0⟩ := DataW.trod_int Try.underlying3 g0
  obtain ⟨K1, e1, _, w1⟩ := DataW.trod_int Try.underlying27 g1
  simp at e0 e1
  subst e0 e1
  have hw1 := wf_u32 w1
  refine ⟨⟨K0, UInt32.ofNat K1.toNat⟩, ?_, wf_i64 w0⟩
  have : ((UInt32.ofNat K1.toNat).toNat : Int) = K1 := by rw [UInt32.toNat_ofNat']; omega
  show [Value.int .i64 K0, Value.int .u32 K1] = [Value.int .i64 K0, Value.int .u32 (((UInt32.ofNat K1.toNat).toNat : Nat) : Int)]
  rw [this]

set_option maxRecDepth 100000 in
theorem works_cell {H : Type} {enc : TypeId × Value → H} {W : World} {cs : List Value} {x : DataW H × List MemPlace} {fuel : Nat}
    (h : DataW.trod enc Try.prog W 0 (fun _ => true) true fuel 65 cs = some x) : ∃ a ls c, cs = [.slice a (List.length (α := Wk) ls) c] ∧ (ls.length ≤ c ∧ c ≤ maxLen) ∧ SegK W a ls ∧ ∀ l ∈ ls, I64 l.p := by
  rcases open_slice Try.underlying65 h with ⟨hcs, _⟩ | ⟨x, len, cap, m, n, D, Pl, hcs, _, hl, hm, hmm, hx, hcell⟩
  · exact ⟨none, [], 0, hcs, ⟨Nat.zero_le _, Nat.zero_le _⟩, .inl rfl, fun l hl => by cases hl⟩
  · have hmc : m = cap := by simpa using hmm
    subst hmc
    have each : ∀ i, i < len → ∃ l : Wk, W.cell? (x.add (i * 2)) = some (.int .i64 l.p) ∧ W.cell? (x.add (i * 2 + 1)) = some (.int .u32 (l.x.toNat : Int)) ∧ I64 l.p := by
      intro i hi
      obtain ⟨cs', h1, h2⟩ := hcell i (by omega)
      rw [cells97] at h1
      obtain ⟨_, hlen3, hc3⟩ := World.cells?_some h1
      obtain ⟨l, rfl, hF⟩ := wk_cell hlen3 h2
      have q0 := hc3 0 (by omega)
      have q1 := hc3 1 (by omega)
      rw [add_add] at q0 q1
      exact ⟨l, by simpa using q0, by simpa using q1, hF⟩
    obtain ⟨V, hV⟩ := choose_lt each
    refine ⟨some x, (List.range len).map V, m, by simp [hcs], by simp; omega, ?_, ?_⟩
    · by_cases h0 : len = 0
      · exact .inl (by simp [h0])
      · obtain ⟨b, off, spot⟩ := x
        have hc := (hV 0 (by omega)).1
        have hspot : spot = none := by simpa [Addr.add] using World.cell?_spot hc
        subst hspot
        refine .inr ⟨b, off, rfl, fun j l hj => ?_⟩
        have hj' : j < len := by
          have := (List.getElem?_eq_some_iff.1 hj).1
          simpa using this
        have e : l = V j := by simp [hj'] at hj; exact hj.symm
        subst e
        obtain ⟨h1, h2, _⟩ := hV j hj'
        rw [addr_add] at h1 h2
        exact ⟨h1, by rw [Nat.add_assoc]; exact h2⟩
    · intro l hl
      obtain ⟨i, hi, rfl⟩ := List.mem_map.1 hl
      exact (hV i (by simpa using hi)).2.2

set_option maxRecDepth 100000 in
/-- A list of works that came in. -/
theorem works_in {H : Type} {enc : TypeId × Value → H} {W : World} {v : Value} {d : DataW H} {p : List MemPlace} {base : Nat} (hv : Value.okWide Try.prog W .any base 65 v)
    (h : DataW.Trod enc Try.prog W 0 (fun _ => true) true 65 v d p) : ∃ a ls c, v = .slice a (List.length (α := Wk) ls) c ∧ (ls.length ≤ c ∧ c ≤ maxLen) ∧ SegK W a ls ∧ ∀ l ∈ ls, I64 l.p := by
  obtain ⟨a0, len, cap, rfl⟩ := okWide_slice Try.underlying65 hv
  obtain ⟨fuel, hf⟩ := h
  obtain ⟨a, ls, c, hcs, hl, hs⟩ := works_cell hf
  simp [Value.cells] at hcs
  obtain ⟨rfl, rfl, rfl⟩ := hcs
  exact ⟨_, ls, _, rfl, hl, hs⟩

end Go.Proofs.Ytpccdhoaicabcaa
