import Derived.Test.YtpccdhoaicabcaaIn3
import Derived.Test.YtpccdhoaicabcaaBb
import Derived.SizedLaws
namespace Go.Proofs.Ytpccdhoaicabcaa
open Go.ChangeShapes Go.WideShapes Go.ChangeAt Go.RowKit Go.Deep
set_option linter.unusedVariables false

theorem cells31 : Try.prog.cellsOf 31 = 7 := by kernel_rfl
theorem cells27' : Try.prog.cellsOf 27 = 1 := by kernel_rfl
theorem cells28' : Try.prog.cellsOf 28 = 1 := by kernel_rfl
theorem cells29' : Try.prog.cellsOf 29 = 1 := by kernel_rfl
theorem weights_mem {H : Type} {P : Program} {e : TypeId} {d : DataW H} {q : Nat} : ∀ {ds : List (DataW H)}, d ∈ ds → q ∈ d.weights P e → q ∈ DataW.weightsAll P e ds
  | [], h, _ => by cases h
  | x :: r, h, hq => by
    simp only [DataW.weightsAll, List.mem_append]
    rcases List.mem_cons.1 h with rfl | h
    · exact .inl hq
    · exact .inr (weights_mem h hq)

set_option maxRecDepth 100000 in
theorem regions_cell {H : Type} {enc : TypeId × Value → H} {W : World} {cs : List Value} {x : DataW H × List MemPlace} {fuel : Nat}
    (h : DataW.trod enc Try.prog W 0 (fun _ => true) true fuel 29 cs = some x) : ∃ a ls c, cs = [.slice a (List.length (α := Rgn) ls) c] ∧ SegR W a ls ∧ (ls.length ≤ c ∧ c ≤ maxLen) ∧ (∀ l ∈ ls, l.Fine) ∧ ((∀ q ∈ DataW.weights Try.prog 29 x.1, q ≤ reachBytes) → ls.length ≤ 4398046511104) := by

  rcases open_slice Try.underlying29 h with ⟨hcs, _⟩ | ⟨ad, len, cap, m, n, D, Pl, hcs, _, hl, hm, hmm, hx, hcell⟩
  · exact ⟨none, [], 0, hcs, .inl rfl, ⟨Nat.zero_le _, Nat.zero_le _⟩, (fun it hit => by cases hit), fun _ => Nat.zero_le _⟩
  · have hmc : m = cap := by simpa using hmm
    subst hmc
    have each : ∀ i, i < len → ∃ r : Rgn, W.cell? (ad.add (i * 4)) = some (.int .i64 r.page) ∧ W.cell? (ad.add (i * 4 + 1)) = some (.int .i64 r.pages) ∧ W.cell? (ad.add (i * 4 + 2)) = some (.int .i64 r.frame) ∧ W.cell? (ad.add (i * 4 + 3)) = some (.int .i64 r.rights) ∧ r.Fine := by
      intro i hi
      obtain ⟨cs', h1, h2⟩ := hcell i (by omega)
      rw [cells54] at h1
      obtain ⟨_, hlen3, hc3⟩ := World.cells?_some h1
      obtain ⟨r, rfl, hF⟩ := rg_cell hlen3 h2
      have q0 := hc3 0 (by omega)
      have q1 := hc3 1 (by omega)
      have q2 := hc3 2 (by omega)
      have q3 := hc3 3 (by omega)
      rw [add_add] at q0 q1 q2 q3
      exact ⟨r, by simpa using q0, by simpa using q1, by simpa using q2, by simpa using q3, hF⟩
    obtain ⟨V, hV⟩ := choose_lt each
    refine ⟨some ad, (List.range len).map V, m, by simp [hcs], ?_, by simp; omega, ?_, ?_⟩
    · by_cases h0 : len = 0
      · exact .inl (by simp [h0])
      · obtain ⟨b, off, spot⟩ := ad
        have hc := (hV 0 (by omega)).1
        have hspot : spot = none := by simpa [Addr.add] using World.cell?_spot hc
        subst hspot
        refine .inr ⟨b, off, rfl, fun j l hj => ?_⟩
        have hj' : j < len := by
          have := (List.getElem?_eq_some_iff.1 hj).1
          simpa using this
        have e : l = V j := by simp [hj'] at hj; exact hj.symm
        subst e
        obtain ⟨h1, h2, h3, h4, _⟩ := hV j hj'
        rw [addr_add] at h1 h2 h3 h4
        exact ⟨h1, by rw [Nat.add_assoc]; exact h2, by rw [Nat.add_assoc]; exact h3, by rw [Nat.add_assoc]; exact h4⟩
    · intro l hl
      obtain ⟨i, hi, rfl⟩ := List.mem_map.1 hl
      exact (hV i (by simpa using hi)).2.2.2.2
    · intro hq
      rw [hx] at hq
      have h1 := hq ((((List.range len).map D).length + ((List.range (m - len)).map fun j => D (len + j)).length) * Try.prog.bytesOf 54) (by simp [DataW.weights, Try.underlying29])
      rw [bytes54] at h1
      have h2 : reachBytes = 140737488351232 := rfl
      rw [h2] at h1
      simp at h1 ⊢
      omega

set_option maxRecDepth 100000 in
theorem tables_cell {H : Type} {enc : TypeId × Value → H} {W : World} {cs : List Value} {x : DataW H × List MemPlace} {fuel : Nat}
    (h : DataW.trod enc Try.prog W 0 (fun _ => true) true fuel 28 cs = some x) : ∃ a ls c, cs = [.slice a (List.length (α := Int) ls) c] ∧ SegI W a ls ∧ (ls.length ≤ c ∧ c ≤ maxLen) ∧ ((∀ q ∈ DataW.weights Try.prog 28 x.1, q ≤ reachBytes) → ls.length ≤ 17592186044416) := by

  rcases open_slice Try.underlying28 h with ⟨hcs, _⟩ | ⟨ad, len, cap, m, n, D, Pl, hcs, _, hl, hm, hmm, hx, hcell⟩
  · exact ⟨none, [], 0, hcs, .inl rfl, ⟨Nat.zero_le _, Nat.zero_le _⟩, fun _ => Nat.zero_le _⟩
  · have hmc : m = cap := by simpa using hmm
    subst hmc
    have each : ∀ i, i < len → ∃ t : Int, W.cell? (ad.add i) = some (.int .i64 t) := by
      intro i hi
      obtain ⟨cs', h1, h2⟩ := hcell i (by omega)
      rw [cells3', Nat.mul_one] at h1
      obtain ⟨_, hlen3, hc3⟩ := World.cells?_some h1
      obtain ⟨K0, e0, _, w0⟩ := DataW.trod_int Try.underlying3 h2
      have q0 := hc3 0 (by omega)
      rw [add_add] at q0
      subst e0
      exact ⟨K0, by simpa using q0⟩
    obtain ⟨V, hV⟩ := choose_lt each
    refine ⟨some ad, (List.range len).map V, m, by simp [hcs], ?_, by simp; omega, ?_⟩
    · by_cases h0 : len = 0
      · exact .inl (by simp [h0])
      · obtain ⟨b, off, spot⟩ := ad
        have hc := hV 0 (by omega)
        have hspot : spot = none := by simpa [Addr.add] using World.cell?_spot hc
        subst hspot
        refine .inr ⟨b, off, rfl, fun j l hj => ?_⟩
        have hj' : j < len := by
          have := (List.getElem?_eq_some_iff.1 hj).1
          simpa using this
        have e : l = V j := by simp [hj'] at hj; exact hj.symm
        subst e
        have h1 := hV j hj'
        rw [addr_add] at h1
        exact h1
    · intro hq
      rw [hx] at hq
      have h1 := hq ((((List.range len).map D).length + ((List.range (m - len)).map fun j => D (len + j)).length) * Try.prog.bytesOf 3) (by simp [DataW.weights, Try.underlying28])
      rw [bytes3] at h1
      have h2 : reachBytes = 140737488351232 := rfl
      rw [h2] at h1
      simp at h1 ⊢
      omega

set_option maxRecDepth 100000 in
/-- A script that came in. -/
theorem script_in {H : Type} {enc : TypeId × Value → H} {W : World} {v : Value} {d : DataW H} {p : List MemPlace} {base : Nat} (hv : Value.okWide Try.prog W .any base 22 v)
    (h : DataW.Trod enc Try.prog W 0 (fun _ => true) true 22 v d p) : ∃ a os c, v = .slice a (List.length (α := Od) os) c ∧ (os.length ≤ c ∧ c ≤ maxLen) ∧ SegOd W a os ∧ (∀ o ∈ os, o.Ok W) ∧ ((∀ q ∈ DataW.weights Try.prog 22 d, q ≤ reachBytes) → ∀ o ∈ os, o.ts.length ≤ 17592186044416 ∧ o.rs.length ≤ 4398046511104) := by
  obtain ⟨a0, len, cap, rfl⟩ := okWide_slice Try.underlying22 hv
  obtain ⟨fuel, hf⟩ := h
  rcases open_slice Try.underlying22 hf with ⟨hcs, _⟩ | ⟨x, l, c, m, n, D, Pl, hcs, _, hl, hm, hmm, hx, hcell⟩
  · simp [Value.cells] at hcs
    obtain ⟨rfl, rfl, rfl⟩ := hcs
    exact ⟨none, [], 0, rfl, ⟨Nat.zero_le _, Nat.zero_le _⟩, .inl rfl, (fun it hit => by cases hit), fun _ it hit => by cases hit⟩
  · simp [Value.cells] at hcs
    obtain ⟨rfl, rfl, rfl⟩ := hcs
    have hmc : m = cap := by simpa using hmm
    subst hmc
    have each : ∀ i, i < len → ∃ d : Od, (∀ q u, d.cells.toList[q]? = some u → W.cell? (x.add (i * 7 + q)) = some u) ∧ d.Ok W ∧ ((∀ q ∈ DataW.weights Try.prog 31 (D i), q ≤ reachBytes) → d.ts.length ≤ 17592186044416 ∧ d.rs.length ≤ 4398046511104) := by
      intro i hi
      obtain ⟨cs', h1, h2⟩ := hcell i (by omega)
      rw [cells31] at h1
      obtain ⟨_, hlen7, hc7⟩ := World.cells?_some h1
      obtain ⟨xs, n', _, hxs, _, hlenx, hfs⟩ := DataW.trod_struct Try.underlying31 h2
      obtain ⟨y0, y1, y2, y3, y4, y5, y6, rfl⟩ : ∃ y0 y1 y2 y3 y4 y5 y6, xs = [y0, y1, y2, y3, y4, y5, y6] := by
        match xs, hlenx with
        | [y0, y1, y2, y3, y4, y5, y6], _ => exact ⟨y0, y1, y2, y3, y4, y5, y6, rfl⟩
      obtain ⟨c0, c1, c2, c3, c4, c5, c6, rfl⟩ : ∃ c0 c1 c2 c3 c4 c5 c6, cs' = [c0, c1, c2, c3, c4, c5, c6] := by
        match cs', hlen7 with
        | [c0, c1, c2, c3, c4, c5, c6], _ => exact ⟨c0, c1, c2, c3, c4, c5, c6, rfl⟩
      have g0 := hfs 0 _ rfl
      have g1 := hfs 1 _ rfl
      have g2 := hfs 2 _ rfl
      have g3 := hfs 3 _ rfl
      have g4 := hfs 4 _ rfl
      have g5 := hfs 5 _ rfl
      have g6 := hfs 6 _ rfl
      simp [cells3', cells27', cells28', cells29'] at g0 g1 g2 g3 g4 g5 g6
      obtain ⟨K0, e0, _, w0⟩ := DataW.trod_int Try.underlying3 g0
      obtain ⟨K1, e1, _, w1⟩ := DataW.trod_int Try.underlying3 g1
      obtain ⟨K2, e2, _, w2⟩ := DataW.trod_int Try.underlying3 g2
      obtain ⟨K3, e3, _, w3⟩ := DataW.trod_int Try.underlying3 g3
      obtain ⟨K4, e4, _, w4⟩ := DataW.trod_int Try.underlying27 g4
      obtain ⟨a5, ts, k5, e5, s5, l5, m5⟩ := tables_cell g5
      obtain ⟨a6, rs, k6, e6, s6, l6, f6, m6⟩ := regions_cell g6
      simp at e0 e1 e2 e3 e4 e5 e6
      subst e0 e1 e2 e3 e4 e5 e6
      have b4 := wf_u32 w4
      have e4' : (((UInt32.ofNat K4.toNat).toNat : Nat) : Int) = K4 := by rw [UInt32.toNat_ofNat']; omega
      refine ⟨⟨K0, K1, K2, K3, UInt32.ofNat K4.toNat, a5, ts, k5, a6, rs, k6⟩, ?_, ⟨wf_i64 w1, wf_i64 w3, l5, s5, l6, s6, f6⟩, ?_⟩
      · intro q u hq
        have hq7 : q < 7 := (List.getElem?_eq_some_iff.1 hq).1
        have h3 := hc7 q hq7
        rw [add_add] at h3
        rw [h3, ← hq]
        simp only [Od.cells, e4']
      · have e7 : D i = .agg [y0.1, y1.1, y2.1, y3.1, y4.1, y5.1, y6.1] := (Prod.mk.inj hxs).1
        intro hq
        refine ⟨m5 fun q hq5 => hq q ?_, m6 fun q hq6 => hq q ?_⟩
        · rw [e7]
          simp only [DataW.weights, Try.underlying31]
          exact DataW.weights_mem_each (j := 5) (t := 28) (d := y5.1) (by kernel_rfl) rfl q hq5
        · rw [e7]
          simp only [DataW.weights, Try.underlying31]
          exact DataW.weights_mem_each (j := 6) (t := 29) (d := y6.1) (by kernel_rfl) rfl q hq6
    obtain ⟨V, hV⟩ := choose_lt each
    refine ⟨some x, (List.range len).map V, m, by simp, by simp; omega, ?_, ?_, ?_⟩
    · by_cases h0 : len = 0
      · exact .inl (by simp [h0])
      · obtain ⟨b, off, spot⟩ := x
        have hc := (hV 0 (by omega)).1 0 _ rfl
        have hspot : spot = none := by simpa [Addr.add] using World.cell?_spot hc
        subst hspot
        refine .inr ⟨b, off, rfl, fun j l hj => ?_⟩
        have hj' : j < len := by
          have := (List.getElem?_eq_some_iff.1 hj).1
          simpa using this
        have e : l = V j := by simp [hj'] at hj; exact hj.symm
        subst e
        intro i v hv
        have h1 := (hV j hj').1 i v hv
        rw [addr_add] at h1
        rw [Nat.add_assoc]; exact h1
    · intro l hl
      obtain ⟨i, hi, rfl⟩ := List.mem_map.1 hl
      exact (hV i (by simpa using hi)).2.1
    · intro hq o ho
      obtain ⟨i, hi, rfl⟩ := List.mem_map.1 ho
      have e7 : d = .slice ((List.range len).map D) ((List.range (m - len)).map fun j => D (len + j)) := (Prod.mk.inj hx).1
      refine (hV i (by simpa using hi)).2.2 fun q hqi => hq q ?_
      rw [e7]
      have h1 : q ∈ DataW.weightsAll Try.prog 31 ((List.range len).map D) := weights_mem (List.mem_map.2 ⟨i, hi, rfl⟩) hqi
      simp only [DataW.weights, Try.underlying22, List.mem_cons, List.mem_append]
      exact .inr (.inl h1)
end Go.Proofs.Ytpccdhoaicabcaa
