import Derived.Test.YtakidbjkpbgmmaaIn
import Derived.SizedLaws
namespace Go.Proofs.Ytakidbjkpbgmmaa
open Go.ChangeShapes Go.WideShapes Go.ChangeAt Go.RowKit Go.Deep
set_option linter.unusedVariables false

/-! ### How long the lists are that came in -/
theorem bytes38 : Try.prog.bytesOf 38 = 24 := by kernel_rfl
theorem weights_mem {H : Type} {P : Program} {e : TypeId} {d : DataW H} {q : Nat} : ∀ {ds : List (DataW H)}, d ∈ ds → q ∈ d.weights P e → q ∈ DataW.weightsAll P e ds
  | [], h, _ => by cases h
  | x :: r, h, hq => by
    simp only [DataW.weightsAll, List.mem_append]
    rcases List.mem_cons.1 h with rfl | h
    · exact .inl hq
    · exact .inr (weights_mem h hq)

/-- A list of leaves, by its cell. -/
theorem leaves_cell3 {H : Type} {enc : TypeId × Value → H} {W : World} {cs : List Value} {x : DataW H × List MemPlace} {fuel : Nat}
    (h : DataW.trod enc Try.prog W 0 (fun _ => true) true fuel 26 cs = some x) : ∃ a ls c, cs = [.slice a (List.length (α := Lf) ls) c] ∧ (ls.length ≤ c ∧ c ≤ maxLen) ∧ SegL W a ls ∧ (∀ l ∈ ls, l.Fine) ∧ ((∀ q ∈ DataW.weights Try.prog 26 x.1, q ≤ reachBytes) → ls.length ≤ 5864062014634) := by
  rcases open_slice Try.underlying26 h with ⟨hcs, _⟩ | ⟨ad, len, cap, m, n, D, Pl, hcs, _, hl, hm, hmm, hx, hcell⟩
  · exact ⟨none, [], 0, hcs, ⟨Nat.zero_le _, Nat.zero_le _⟩, .inl rfl, (fun l hl => by cases hl), fun _ => Nat.zero_le _⟩
  · have hmc : m = cap := by simpa using hmm
    subst hmc
    have each : ∀ i, i < len → ∃ l : Lf, W.cell? (ad.add (i * 3)) = some (.int .i64 l.p) ∧ W.cell? (ad.add (i * 3 + 1)) = some (.int .i64 l.f) ∧ W.cell? (ad.add (i * 3 + 2)) = some (.int .i64 l.r) ∧ l.Fine := by
      intro i hi
      obtain ⟨cs', h1, h2⟩ := hcell i (by omega)
      rw [cells38] at h1
      obtain ⟨_, hlen3, hc3⟩ := World.cells?_some h1
      obtain ⟨l, rfl, hF⟩ := leaf_cell hlen3 h2
      have q0 := hc3 0 (by omega)
      have q1 := hc3 1 (by omega)
      have q2 := hc3 2 (by omega)
      rw [add_add] at q0 q1 q2
      exact ⟨l, by simpa using q0, by simpa using q1, by simpa using q2, hF⟩
    obtain ⟨V, hV⟩ := choose_lt each
    refine ⟨some ad, (List.range len).map V, m, by simp [hcs], by simp; omega, ?_, ?_, ?_⟩
    · by_cases h0 : len = 0
      · exact .inl (by simp [h0])
      · obtain ⟨b, off, spot⟩ := ad
        have hc := (hV 0 (by omega)).1
        have hspot : spot = none := by simpa [Addr.add] using World.cell?_spot hc
        subst hspot
        refine .inr ⟨b, off, rfl, fun j l hj => ?_⟩
        have hj' : j < len := by
          have := (List.getElem?_eq_some_iff.1 hj).1
          simpa using this
        have e : l = V j := by simp [hj'] at hj; exact hj.symm
        subst e
        obtain ⟨h1, h2, h3, _⟩ := hV j hj'
        rw [addr_add] at h1 h2 h3
        exact ⟨h1, by rw [Nat.add_assoc]; exact h2, by rw [Nat.add_assoc]; exact h3⟩
    · intro l hl
      obtain ⟨i, hi, rfl⟩ := List.mem_map.1 hl
      exact (hV i (by simpa using hi)).2.2.2
    · intro hq
      rw [hx] at hq
      have h1 := hq ((((List.range len).map D).length + ((List.range (m - len)).map fun j => D (len + j)).length) * Try.prog.bytesOf 38) (by simp [DataW.weights, Try.underlying26])
      rw [bytes38] at h1
      have h2 : reachBytes = 140737488351232 := rfl
      rw [h2] at h1
      simp at h1 ⊢
      omega

set_option maxRecDepth 100000 in
/-- A list of calls that came in. -/
theorem ops_in3 {H : Type} {enc : TypeId × Value → H} {W : World} {v : Value} {d : DataW H} {p : List MemPlace} {base : Nat} (hv : Value.okWide Try.prog W .any base 22 v)
    (h : DataW.Trod enc Try.prog W 0 (fun _ => true) true 22 v d p) : ∃ a os c, v = .slice a (List.length (α := OpV) os) c ∧ (os.length ≤ c ∧ c ≤ maxLen) ∧ SegO W a os ∧ (∀ o ∈ os, o.Fine) ∧ ((∀ q ∈ DataW.weights Try.prog 22 d, q ≤ reachBytes) → ∀ o ∈ os, o.ls.length ≤ 5864062014634) := by
  obtain ⟨a0, len, cap, rfl⟩ := okWide_slice Try.underlying22 hv
  obtain ⟨fuel, hf⟩ := h
  rcases open_slice Try.underlying22 hf with ⟨hcs, _⟩ | ⟨x, l, c, m, n, D, Pl, hcs, _, hl, hm, hmm, hx, hcell⟩
  · simp [Value.cells] at hcs
    obtain ⟨rfl, rfl, rfl⟩ := hcs
    exact ⟨none, [], 0, rfl, ⟨Nat.zero_le _, Nat.zero_le _⟩, .inl rfl, (fun it hit => by cases hit), fun _ it hit => by cases hit⟩
  · simp [Value.cells] at hcs
    obtain ⟨rfl, rfl, rfl⟩ := hcs
    have hmc : m = cap := by simpa using hmm
    subst hmc
    have each : ∀ i, i < len → ∃ d : OpV, (W.cell? (x.add (i * 6)) = some (.int .i64 d.which) ∧ W.cell? (x.add (i * 6 + 1)) = some (.int .i64 d.kind) ∧ W.cell? (x.add (i * 6 + 2)) = some (.int .i64 d.l.p) ∧
        W.cell? (x.add (i * 6 + 3)) = some (.int .i64 d.l.f) ∧ W.cell? (x.add (i * 6 + 4)) = some (.int .i64 d.l.r) ∧ W.cell? (x.add (i * 6 + 5)) = some (.slice d.ad d.ls.length d.cap)) ∧ SegL W d.ad d.ls ∧ d.Fine ∧ ((∀ q ∈ DataW.weights Try.prog 30 (D i), q ≤ reachBytes) → d.ls.length ≤ 5864062014634) := by
      intro i hi
      obtain ⟨cs', h1, h2⟩ := hcell i (by omega)
      rw [cells30] at h1
      obtain ⟨_, hlen6, hc6⟩ := World.cells?_some h1
      obtain ⟨xs, n', _, hxs, _, hlenx, hfs⟩ := DataW.trod_struct Try.underlying30 h2
      obtain ⟨y0, y1, y2, y3, y4, y5, rfl⟩ : ∃ y0 y1 y2 y3 y4 y5, xs = [y0, y1, y2, y3, y4, y5] := by
        match xs, hlenx with
        | [y0, y1, y2, y3, y4, y5], _ => exact ⟨y0, y1, y2, y3, y4, y5, rfl⟩
      obtain ⟨c0, c1, c2, c3, c4, c5, rfl⟩ : ∃ c0 c1 c2 c3 c4 c5, cs' = [c0, c1, c2, c3, c4, c5] := by
        match cs', hlen6 with
        | [c0, c1, c2, c3, c4, c5], _ => exact ⟨c0, c1, c2, c3, c4, c5, rfl⟩
      have g0 := hfs 0 _ rfl
      have g1 := hfs 1 _ rfl
      have g2 := hfs 2 _ rfl
      have g3 := hfs 3 _ rfl
      have g4 := hfs 4 _ rfl
      have g5 := hfs 5 _ rfl
      simp [cells3, cells26] at g0 g1 g2 g3 g4 g5
      obtain ⟨K0, e0, _, w0⟩ := DataW.trod_int Try.underlying3 g0
      obtain ⟨K1, e1, _, w1⟩ := DataW.trod_int Try.underlying3 g1
      obtain ⟨K2, e2, _, w2⟩ := DataW.trod_int Try.underlying3 g2
      obtain ⟨K3, e3, _, w3⟩ := DataW.trod_int Try.underlying3 g3
      obtain ⟨K4, e4, _, w4⟩ := DataW.trod_int Try.underlying3 g4
      obtain ⟨a5, ls, k5, e5, l5, s5, f5, m5⟩ := leaves_cell3 g5
      simp at e0 e1 e2 e3 e4 e5
      subst e0 e1 e2 e3 e4 e5
      have q0 := hc6 0 (by omega)
      have q1 := hc6 1 (by omega)
      have q2 := hc6 2 (by omega)
      have q3 := hc6 3 (by omega)
      have q4 := hc6 4 (by omega)
      have q5 := hc6 5 (by omega)
      rw [add_add] at q0 q1 q2 q3 q4 q5
      refine ⟨⟨K0, K1, ⟨K2, K3, K4⟩, a5, ls, k5⟩, ⟨by simpa using q0, by simpa using q1, by simpa using q2, by simpa using q3, by simpa using q4, by simpa using q5⟩, s5, ⟨⟨wf_i64 w0, wf_i64 w1⟩, ⟨wf_i64 w2, wf_i64 w3, wf_i64 w4⟩, l5, f5⟩, ?_⟩
      have e6 : D i = .agg [y0.1, y1.1, y2.1, y3.1, y4.1, y5.1] := (Prod.mk.inj hxs).1
      intro hq
      refine m5 fun q hq5 => hq q ?_
      rw [e6]
      simp only [DataW.weights, Try.underlying30]
      exact DataW.weights_mem_each (j := 5) (t := 26) (d := y5.1) (by kernel_rfl) rfl q hq5
    obtain ⟨V, hV⟩ := choose_lt each
    refine ⟨some x, (List.range len).map V, m, by simp, by simp; omega, ?_, ?_, ?_⟩
    · by_cases h0 : len = 0
      · exact .inl (by simp [h0])
      · obtain ⟨b, off, spot⟩ := x
        have hc := (hV 0 (by omega)).1.1
        have hspot : spot = none := by simpa [Addr.add] using World.cell?_spot hc
        subst hspot
        refine .inr ⟨b, off, rfl, fun j l hj => ?_⟩
        have hj' : j < len := by
          have := (List.getElem?_eq_some_iff.1 hj).1
          simpa using this
        have e : l = V j := by simp [hj'] at hj; exact hj.symm
        subst e
        obtain ⟨⟨h1, h2, h3, h4, h5, h6⟩, h7, _⟩ := hV j hj'
        rw [addr_add] at h1 h2 h3 h4 h5 h6
        exact ⟨⟨h1, by rw [Nat.add_assoc]; exact h2, by rw [Nat.add_assoc]; exact h3, by rw [Nat.add_assoc]; exact h4, by rw [Nat.add_assoc]; exact h5, by rw [Nat.add_assoc]; exact h6⟩, h7⟩
    · intro l hl
      obtain ⟨i, hi, rfl⟩ := List.mem_map.1 hl
      exact (hV i (by simpa using hi)).2.2.1
    · intro hq o ho
      obtain ⟨i, hi, rfl⟩ := List.mem_map.1 ho
      have e7 : d = .slice ((List.range len).map D) ((List.range (m - len)).map fun j => D (len + j)) := (Prod.mk.inj hx).1
      refine (hV i (by simpa using hi)).2.2.2 fun q hqi => hq q ?_
      rw [e7]
      have h1 : q ∈ DataW.weightsAll Try.prog 30 ((List.range len).map D) := weights_mem (List.mem_map.2 ⟨i, hi, rfl⟩) hqi
      simp only [DataW.weights, Try.underlying22, List.mem_cons, List.mem_append]
      exact .inr (.inl h1)

end Go.Proofs.Ytakidbjkpbgmmaa
