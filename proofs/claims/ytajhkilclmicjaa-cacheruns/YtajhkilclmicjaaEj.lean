import Derived.Test.YtajhkilclmicjaaEi
import Derived.Test.YtajhkilclmicjaaIn
namespace Go.Proofs.Ytajhkilclmicjaa
open Go.ChangeShapes Go.WideShapes Go.ChangeAt Go.RowKit Go.Deep
set_option linter.unusedVariables false

theorem cells29 : Try.prog.cellsOf 29 = 4 := by kernel_rfl
theorem cells59 : Try.prog.cellsOf 59 = 1 := by kernel_rfl
theorem cells3 : Try.prog.cellsOf 3 = 1 := by kernel_rfl
theorem cells27 : Try.prog.cellsOf 27 = 1 := by kernel_rfl

instance : Inhabited OpV := ⟨⟨0, 0, 0, none, [], 0⟩⟩

/-- A list of numbers, by its cell. -/
theorem ints_cell {H : Type} {enc : TypeId × Value → H} {W : World} {cs : List Value} {x : DataW H × List MemPlace} {fuel : Nat}
    (h : DataW.trod enc Try.prog W 0 (fun _ => true) true fuel 59 cs = some x) : ∃ a ws c, cs = [.slice a (List.length (α := Int) ws) c] ∧ (ws.length ≤ c ∧ c ≤ maxLen) ∧ SegI W a ws := by
  rcases open_ints Try.underlying59 Try.underlying3 (by kernel_rfl) h with ⟨hcs, _⟩ | ⟨x, len, cap, zs, hcs, _, hl, hm, hz, _, hcell, hwz⟩
  · exact ⟨none, [], 0, hcs, ⟨Nat.zero_le _, Nat.zero_le _⟩, .inl rfl⟩
  · have hz' : zs.length = cap := by simpa using hz
    have hlen : (zs.take len).length = len := by simp; omega
    refine ⟨some x, zs.take len, cap, by rw [hlen]; exact hcs, by rw [hlen]; omega, ?_⟩
    by_cases h0 : len = 0
    · exact .inl (List.eq_nil_of_length_eq_zero (by rw [hlen]; exact h0))
    · obtain ⟨b, off, spot⟩ := x
      have hc := hcell 0 (by omega)
      have hspot : spot = none := by simpa [Addr.add] using World.cell?_spot hc
      subst hspot
      refine .inr ⟨b, off, rfl, fun j hj => ?_⟩
      rw [hlen] at hj
      have h1 := hcell j (by omega)
      rw [addr_add] at h1
      rw [h1]
      have hj' : j < zs.length := by omega
      simp [List.getD, hj']

/-- A list of lists, by its cell. -/
theorem lists_cell {H : Type} {enc : TypeId × Value → H} {W : World} {cs : List Value} {x : DataW H × List MemPlace} {fuel : Nat}
    (h : DataW.trod enc Try.prog W 0 (fun _ => true) true fuel 27 cs = some x) : ∃ a ls c, cs = [.slice a (List.length (α := List Int) ls) c] ∧ (ls.length ≤ c ∧ c ≤ maxLen) ∧ SegL W a ls := by
  rcases open_slice Try.underlying27 h with ⟨hcs, _⟩ | ⟨ad, len, cap, m, n, D, Pl, hcs, _, hl, hm, hmm, hx, hcell⟩
  · exact ⟨none, [], 0, hcs, ⟨Nat.zero_le _, Nat.zero_le _⟩, .inl rfl⟩
  · have hmc : m = cap := by simpa using hmm
    subst hmc
    have each : ∀ i, i < len → ∃ l : List Int, ∃ x c, W.cell? (ad.add i) = some (.slice x l.length c) ∧ SegI W x l ∧ l.length ≤ c ∧ c ≤ maxLen := by
      intro i hi
      obtain ⟨cs', h1, h2⟩ := hcell i (by omega)
      rw [cells59] at h1
      obtain ⟨_, hlen1, hc1⟩ := World.cells?_some h1
      obtain ⟨a, ws, c, rfl, ⟨g1, g2⟩, g3⟩ := ints_cell h2
      have q0 := hc1 0 (by omega)
      rw [add_add] at q0
      exact ⟨ws, a, c, by simpa using q0, g3, g1, g2⟩
    obtain ⟨V, hV⟩ := choose_lt each
    refine ⟨some ad, (List.range len).map V, m, by simp [hcs], by simp; omega, ?_⟩
    by_cases h0 : len = 0
    · exact .inl (by simp [h0])
    · obtain ⟨b, off, spot⟩ := ad
      obtain ⟨x0, c0, hc, _⟩ := hV 0 (by omega)
      have hspot : spot = none := by simpa [Addr.add] using World.cell?_spot hc
      subst hspot
      refine .inr ⟨b, off, rfl, fun j l hj => ?_⟩
      have hj' : j < len := by
        have := (List.getElem?_eq_some_iff.1 hj).1
        simpa using this
      have e : l = V j := by simp [hj'] at hj; exact hj.symm
      subst e
      obtain ⟨x, c, h1, h2, h3, h4⟩ := hV j hj'
      rw [addr_add] at h1
      exact ⟨x, c, h1, h2, h3, by unfold maxLen at h4; omega⟩

set_option maxRecDepth 100000 in
/-- A script that came in. -/
theorem ops_in {H : Type} {enc : TypeId × Value → H} {W : World} {v : Value} {d : DataW H} {p : List MemPlace} {base : Nat} (hv : Value.okWide Try.prog W .any base 22 v)
    (h : DataW.Trod enc Try.prog W 0 (fun _ => true) true 22 v d p) : ∃ a os c, v = .slice a (List.length (α := OpV) os) c ∧ os.length ≤ maxLen ∧ SegO W a os := by
  obtain ⟨a0, len, cap, rfl⟩ := okWide_slice Try.underlying22 hv
  obtain ⟨fuel, hf⟩ := h
  rcases open_slice Try.underlying22 hf with ⟨hcs, _⟩ | ⟨x, l, c, m, n, D, Pl, hcs, _, hl, hm, hmm, hx, hcell⟩
  · simp [Value.cells] at hcs
    obtain ⟨rfl, rfl, rfl⟩ := hcs
    exact ⟨none, [], 0, rfl, Nat.zero_le _, .inl rfl⟩
  · simp [Value.cells] at hcs
    obtain ⟨rfl, rfl, rfl⟩ := hcs
    have hmc : m = cap := by simpa using hmm
    subst hmc
    have each : ∀ i, i < len → ∃ d : OpV, (W.cell? (x.add (i * 4)) = some (.int .i64 d.dd) ∧ W.cell? (x.add (i * 4 + 1)) = some (.int .i64 d.one) ∧ W.cell? (x.add (i * 4 + 2)) = some (.int .i64 d.at') ∧ W.cell? (x.add (i * 4 + 3)) = some (.slice d.ad d.ls.length d.cap)) ∧ SegL W d.ad d.ls ∧ (d.ls.length : Int) ≤ 9223372036854775807 := by
      intro i hi
      obtain ⟨cs', h1, h2⟩ := hcell i (by omega)
      rw [cells29] at h1
      obtain ⟨_, hlen4, hc4⟩ := World.cells?_some h1
      obtain ⟨xs, n', _, hxs, _, hlenx, hfs⟩ := DataW.trod_struct Try.underlying29 h2
      obtain ⟨y0, y1, y2, y3, rfl⟩ : ∃ y0 y1 y2 y3, xs = [y0, y1, y2, y3] := by
        match xs, hlenx with
        | [y0, y1, y2, y3], _ => exact ⟨y0, y1, y2, y3, rfl⟩
      obtain ⟨c0, c1, c2, c3, rfl⟩ : ∃ c0 c1 c2 c3, cs' = [c0, c1, c2, c3] := by
        match cs', hlen4 with
        | [c0, c1, c2, c3], _ => exact ⟨c0, c1, c2, c3, rfl⟩
      have g0 := hfs 0 _ rfl
      have g1 := hfs 1 _ rfl
      have g2 := hfs 2 _ rfl
      have g3 := hfs 3 _ rfl
      simp [cells3, cells27] at g0 g1 g2 g3
      obtain ⟨K0, e0, _, w0⟩ := DataW.trod_int Try.underlying3 g0
      obtain ⟨K1, e1, _, w1⟩ := DataW.trod_int Try.underlying3 g1
      obtain ⟨K2, e2, _, w2⟩ := DataW.trod_int Try.underlying3 g2
      obtain ⟨a5, ls, k5, e5, l5, s5⟩ := lists_cell g3
      simp at e0 e1 e2 e5
      subst e0 e1 e2 e5
      have q0 := hc4 0 (by omega)
      have q1 := hc4 1 (by omega)
      have q2 := hc4 2 (by omega)
      have q3 := hc4 3 (by omega)
      rw [add_add] at q0 q1 q2 q3
      refine ⟨⟨K0, K1, K2, a5, ls, k5⟩, ⟨by simpa using q0, by simpa using q1, by simpa using q2, by simpa using q3⟩, s5, ?_⟩
      have := l5.1
      have := l5.2
      unfold maxLen at this
      simp only
      omega
    obtain ⟨V, hV⟩ := choose_lt each
    refine ⟨some x, (List.range len).map V, m, by simp, by simp; omega, ?_⟩
    by_cases h0 : len = 0
    · exact .inl (by simp [h0])
    · obtain ⟨b, off, spot⟩ := x
      have hc := (hV 0 (by omega)).1.1
      have hspot : spot = none := by simpa [Addr.add] using World.cell?_spot hc
      subst hspot
      refine .inr ⟨b, off, rfl, fun j l hj => ?_⟩
      have hj' : j < len := by
        have := (List.getElem?_eq_some_iff.1 hj).1
        simpa using this
      have e : l = V j := by simp [hj'] at hj; exact hj.symm
      subst e
      obtain ⟨⟨h1, h2, h3, h4⟩, h7, h8⟩ := hV j hj'
      rw [addr_add] at h1 h2 h3 h4
      exact ⟨h1, by rw [Nat.add_assoc]; exact h2, by rw [Nat.add_assoc]; exact h3, by rw [Nat.add_assoc]; exact h4, h7, h8⟩

end Go.Proofs.Ytajhkilclmicjaa
