import Derived.Test.YtpccdhoaicabcaaFl
import Derived.Test.YtpccdhoaicabcaaIn
import Derived.SizedLaws
namespace Go.Proofs.Ytpccdhoaicabcaa
open Go.ChangeShapes Go.WideShapes Go.ChangeAt Go.RowKit Go.Deep
set_option linter.unusedVariables false

theorem cells54 : Try.prog.cellsOf 54 = 4 := by kernel_rfl
theorem cells3' : Try.prog.cellsOf 3 = 1 := by kernel_rfl
theorem bytes54 : Try.prog.bytesOf 54 = 32 := by kernel_rfl
theorem bytes3 : Try.prog.bytesOf 3 = 8 := by kernel_rfl
instance : Inhabited Rgn := ⟨rg0⟩

set_option maxRecDepth 100000 in
/-- A list that came in lies in a block that is there. -/
theorem slice_lt {W : World} {base : Nat} {t e : TypeId} {a : Option Addr} {n c : Nat} (ht : Try.prog.underlying t = some (.slice e)) (hv : Value.okWide Try.prog W .any base t (.slice a n c)) : ∀ x, a = some x → x.block < W.heap.size := by
  intro x hx
  subst hx
  simp only [Value.okWide, ht, Cell.okWide, Cell.ok, World.has] at hv
  obtain ⟨_, _, _, _, row, cells, hs, _⟩ := hv
  unfold World.shape? at hs
  cases hb : W.heap[x.block]? with
  | none => rw [hb] at hs; simp at hs
  | some o => exact (Array.getElem?_eq_some_iff.1 hb).1

set_option maxRecDepth 100000 in
theorem rg_cell {H : Type} {enc : TypeId × Value → H} {W : World} {cs : List Value} {x : DataW H × List MemPlace} {fuel : Nat} (hl : cs.length = 4)
    (h : DataW.trod enc Try.prog W 0 (fun _ => true) true fuel 54 cs = some x) : ∃ r : Rgn, cs = r.vs ∧ r.Fine := by
  obtain ⟨xs, n', _, _, _, hlenx, hfs⟩ := DataW.trod_struct Try.underlying54 h
  obtain ⟨y0, y1, y2, y3, rfl⟩ : ∃ y0 y1 y2 y3, xs = [y0, y1, y2, y3] := by
    match xs, hlenx with
    | [y0, y1, y2, y3], _ => exact ⟨y0, y1, y2, y3, rfl⟩
  obtain ⟨c0, c1, c2, c3, rfl⟩ : ∃ c0 c1 c2 c3, cs = [c0, c1, c2, c3] := by
    match cs, hl with
    | [c0, c1, c2, c3], _ => exact ⟨c0, c1, c2, c3, rfl⟩
  have g0 := hfs 0 _ rfl
  have g1 := hfs 1 _ rfl
  have g2 := hfs 2 _ rfl
  have g3 := hfs 3 _ rfl
  simp [cells3'] at g0 g1 g2 g3
  obtain ⟨K0, e0, _, w0⟩ := DataW.trod_int Try.underlying3 g0
  obtain ⟨K1, e1, _, w1⟩ := DataW.trod_int Try.underlying3 g1
  obtain ⟨K2, e2, _, w2⟩ := DataW.trod_int Try.underlying3 g2
  obtain ⟨K3, e3, _, w3⟩ := DataW.trod_int Try.underlying3 g3
  simp at e0 e1 e2 e3
  subst e0 e1 e2 e3
  exact ⟨⟨K0, K1, K2, K3⟩, rfl, wf_i64 w0, wf_i64 w1, wf_i64 w2, wf_i64 w3⟩

set_option maxRecDepth 100000 in
theorem regions_in {H : Type} {enc : TypeId × Value → H} {W : World} {v : Value} {d : DataW H} {p : List MemPlace} {base : Nat} (hv : Value.okWide Try.prog W .any base 29 v)
    (h : DataW.Trod enc Try.prog W 0 (fun _ => true) true 29 v d p) : ∃ a ls c, v = .slice a (List.length (α := Rgn) ls) c ∧ SegR W a ls ∧ (ls.length ≤ c ∧ c ≤ maxLen) ∧ (∀ l ∈ ls, l.Fine) ∧ ((∀ q ∈ DataW.weights Try.prog 29 d, q ≤ reachBytes) → ls.length ≤ 4398046511104) ∧ ∀ x, a = some x → x.block < W.heap.size := by
  obtain ⟨a0, len, cap, rfl⟩ := okWide_slice Try.underlying29 hv
  have hlt := slice_lt Try.underlying29 hv
  obtain ⟨fuel, hf⟩ := h
  rcases open_slice Try.underlying29 hf with ⟨hcs, _⟩ | ⟨x, l, c, m, n, D, Pl, hcs, _, hl, hm, hmm, hx, hcell⟩
  · simp [Value.cells] at hcs
    obtain ⟨rfl, rfl, rfl⟩ := hcs
    exact ⟨none, [], 0, rfl, .inl rfl, ⟨Nat.zero_le _, Nat.zero_le _⟩, (fun it hit => by cases hit), (fun _ => Nat.zero_le _), fun x hx => by cases hx⟩
  · simp [Value.cells] at hcs
    obtain ⟨rfl, rfl, rfl⟩ := hcs
    have hmc : m = cap := by simpa using hmm
    subst hmc
    have each : ∀ i, i < len → ∃ r : Rgn, W.cell? (x.add (i * 4)) = some (.int .i64 r.page) ∧ W.cell? (x.add (i * 4 + 1)) = some (.int .i64 r.pages) ∧ W.cell? (x.add (i * 4 + 2)) = some (.int .i64 r.frame) ∧ W.cell? (x.add (i * 4 + 3)) = some (.int .i64 r.rights) ∧ r.Fine := by
      intro i hi
      obtain ⟨cs', h1, h2⟩ := hcell i (by omega)
      rw [cells54] at h1
      obtain ⟨_, hlen3, hc3⟩ := World.cells?_some h1
      obtain ⟨r, rfl, hF⟩ := rg_cell hlen3 h2
      have q0 := hc3 0 (by omega)
      have q1 := hc3 1 (by omega)
      have q2 := hc3 2 (by omega)
      have q3 := hc3 3 (by omega)
      rw [add_add] at q0 q1 q2 q3
      exact ⟨r, by simpa using q0, by simpa using q1, by simpa using q2, by simpa using q3, hF⟩
    obtain ⟨V, hV⟩ := choose_lt each
    refine ⟨some x, (List.range len).map V, m, by simp, ?_, by simp; omega, ?_, ?_, hlt⟩
    · by_cases h0 : len = 0
      · exact .inl (by simp [h0])
      · obtain ⟨b, off, spot⟩ := x
        have hc := (hV 0 (by omega)).1
        have hspot : spot = none := by simpa [Addr.add] using World.cell?_spot hc
        subst hspot
        refine .inr ⟨b, off, rfl, fun j l hj => ?_⟩
        have hj' : j < len := by
          have := (List.getElem?_eq_some_iff.1 hj).1
          simpa using this
        have e : l = V j := by simp [hj'] at hj; exact hj.symm
        subst e
        obtain ⟨h1, h2, h3, h4, _⟩ := hV j hj'
        rw [addr_add] at h1 h2 h3 h4
        exact ⟨h1, by rw [Nat.add_assoc]; exact h2, by rw [Nat.add_assoc]; exact h3, by rw [Nat.add_assoc]; exact h4⟩
    · intro l hl
      obtain ⟨i, hi, rfl⟩ := List.mem_map.1 hl
      exact (hV i (by simpa using hi)).2.2.2.2
    · intro hq
      have hd : d = _ := (Prod.mk.inj hx).1
      rw [hd] at hq
      have h1 := hq ((((List.range len).map D).length + ((List.range (m - len)).map fun j => D (len + j)).length) * Try.prog.bytesOf 54) (by simp [DataW.weights, Try.underlying29])
      rw [bytes54] at h1
      have h2 : reachBytes = 140737488351232 := rfl
      rw [h2] at h1
      simp at h1 ⊢
      omega

set_option maxRecDepth 100000 in
theorem tables_in {H : Type} {enc : TypeId × Value → H} {W : World} {v : Value} {d : DataW H} {p : List MemPlace} {base : Nat} (hv : Value.okWide Try.prog W .any base 28 v)
    (h : DataW.Trod enc Try.prog W 0 (fun _ => true) true 28 v d p) : ∃ a ls c, v = .slice a (List.length (α := Int) ls) c ∧ SegI W a ls ∧ (ls.length ≤ c ∧ c ≤ maxLen) ∧ ((∀ q ∈ DataW.weights Try.prog 28 d, q ≤ reachBytes) → ls.length ≤ 17592186044416) ∧ ∀ x, a = some x → x.block < W.heap.size := by
  obtain ⟨a0, len, cap, rfl⟩ := okWide_slice Try.underlying28 hv
  have hlt := slice_lt Try.underlying28 hv
  obtain ⟨fuel, hf⟩ := h
  rcases open_slice Try.underlying28 hf with ⟨hcs, _⟩ | ⟨x, l, c, m, n, D, Pl, hcs, _, hl, hm, hmm, hx, hcell⟩
  · simp [Value.cells] at hcs
    obtain ⟨rfl, rfl, rfl⟩ := hcs
    exact ⟨none, [], 0, rfl, .inl rfl, ⟨Nat.zero_le _, Nat.zero_le _⟩, (fun _ => Nat.zero_le _), fun x hx => by cases hx⟩
  · simp [Value.cells] at hcs
    obtain ⟨rfl, rfl, rfl⟩ := hcs
    have hmc : m = cap := by simpa using hmm
    subst hmc
    have each : ∀ i, i < len → ∃ t : Int, W.cell? (x.add i) = some (.int .i64 t) := by
      intro i hi
      obtain ⟨cs', h1, h2⟩ := hcell i (by omega)
      rw [cells3', Nat.mul_one] at h1
      obtain ⟨_, hlen3, hc3⟩ := World.cells?_some h1
      obtain ⟨K0, e0, _, w0⟩ := DataW.trod_int Try.underlying3 h2
      have q0 := hc3 0 (by omega)
      rw [add_add] at q0
      subst e0
      exact ⟨K0, by simpa using q0⟩
    obtain ⟨V, hV⟩ := choose_lt each
    refine ⟨some x, (List.range len).map V, m, by simp, ?_, by simp; omega, ?_, hlt⟩
    · by_cases h0 : len = 0
      · exact .inl (by simp [h0])
      · obtain ⟨b, off, spot⟩ := x
        have hc := hV 0 (by omega)
        have hspot : spot = none := by simpa [Addr.add] using World.cell?_spot hc
        subst hspot
        refine .inr ⟨b, off, rfl, fun j l hj => ?_⟩
        have hj' : j < len := by
          have := (List.getElem?_eq_some_iff.1 hj).1
          simpa using this
        have e : l = V j := by simp [hj'] at hj; exact hj.symm
        subst e
        have h1 := hV j hj'
        rw [addr_add] at h1
        exact h1
    · intro hq
      have hd : d = _ := (Prod.mk.inj hx).1
      rw [hd] at hq
      have h1 := hq ((((List.range len).map D).length + ((List.range (m - len)).map fun j => D (len + j)).length) * Try.prog.bytesOf 3) (by simp [DataW.weights, Try.underlying28])
      rw [bytes3] at h1
      have h2 : reachBytes = 140737488351232 := rfl
      rw [h2] at h1
      simp at h1 ⊢
      omega

end Go.Proofs.Ytpccdhoaicabcaa
