import Derived.Test.YtljhdijledclhaaRows
import Derived.Test.YtljhdijledclhaaIn
import Derived.Test.YtljhdijledclhaaG
import Derived.Below
import Derived.SizedLaws
namespace Go.Proofs.Ytljhdijledclhaa.memKept
open Go.ChangeShapes Go.WideShapes Go.ChangeAt Go.RowKit Go.Deep
set_option linter.unusedVariables false

instance : Inhabited ActD := ⟨⟨0, 0, 0, 0, 0, none, [], 0⟩⟩
theorem cells53 : Try.prog.cellsOf 53 = 6 := by kernel_rfl
theorem cells3 : Try.prog.cellsOf 3 = 1 := by kernel_rfl
theorem cells26 : Try.prog.cellsOf 26 = 1 := by kernel_rfl
theorem cells27 : Try.prog.cellsOf 27 = 1 := by kernel_rfl

set_option maxRecDepth 100000 in
/-- A list of acts that came in. -/
theorem acts_in {H : Type} {enc : TypeId × Value → H} {W : World} {v : Value} {d : DataW H} {p : List MemPlace} {base : Nat} (hv : Value.okWide Try.prog W .any base 41 v)
    (h : DataW.Trod enc Try.prog W 0 (fun _ => true) true 41 v d p) : ∃ a ds c, v = .slice a (List.length (α := ActD) ds) c ∧ ds.length ≤ maxLen ∧ ActsAt W a ds ∧ ∀ d ∈ ds, d.Fine := by
  obtain ⟨a0, len, cap, rfl⟩ := okWide_slice Try.underlying41 hv
  obtain ⟨fuel, hf⟩ := h
  rcases open_slice Try.underlying41 hf with ⟨hcs, _⟩ | ⟨x, l, c, m, n, D, Pl, hcs, _, hl, hm, hmm, hx, hcell⟩
  · simp [Value.cells] at hcs
    obtain ⟨rfl, rfl, rfl⟩ := hcs
    exact ⟨none, [], 0, rfl, Nat.zero_le _, .inl rfl, fun it hit => by cases hit⟩
  · simp [Value.cells] at hcs
    obtain ⟨rfl, rfl, rfl⟩ := hcs
    have hmc : m = cap := by simpa using hmm
    subst hmc
    have each : ∀ i, i < len → ∃ d : ActD, W.cell? (x.add (i * 6)) = some (.int .i64 d.k) ∧ W.cell? (x.add (i * 6 + 1)) = some (.int .i64 d.a) ∧ W.cell? (x.add (i * 6 + 2)) = some (.int .i64 d.b) ∧
        W.cell? (x.add (i * 6 + 3)) = some (.int .i64 d.c) ∧ W.cell? (x.add (i * 6 + 4)) = some (.int .u32 (d.x.toNat : Int)) ∧ W.cell? (x.add (i * 6 + 5)) = some (.slice d.ad d.ys.length d.cap) ∧ SegW W d.ad d.ys ∧ d.Fine := by
      intro i hi
      obtain ⟨cs', h1, h2⟩ := hcell i (by omega)
      rw [cells53] at h1
      obtain ⟨_, hlen6, hc6⟩ := World.cells?_some h1
      obtain ⟨xs, n', _, _, _, hlenx, hfs⟩ := DataW.trod_struct Try.underlying53 h2
      obtain ⟨y0, y1, y2, y3, y4, y5, rfl⟩ : ∃ y0 y1 y2 y3 y4 y5, xs = [y0, y1, y2, y3, y4, y5] := by
        match xs, hlenx with
        | [y0, y1, y2, y3, y4, y5], _ => exact ⟨y0, y1, y2, y3, y4, y5, rfl⟩
      obtain ⟨c0, c1, c2, c3, c4, c5, rfl⟩ : ∃ c0 c1 c2 c3 c4 c5, cs' = [c0, c1, c2, c3, c4, c5] := by
        match cs', hlen6 with
        | [c0, c1, c2, c3, c4, c5], _ => exact ⟨c0, c1, c2, c3, c4, c5, rfl⟩
      have g0 := hfs 0 _ rfl
      have g1 := hfs 1 _ rfl
      have g2 := hfs 2 _ rfl
      have g3 := hfs 3 _ rfl
      have g4 := hfs 4 _ rfl
      have g5 := hfs 5 _ rfl
      simp [cells3, cells26, cells27] at g0 g1 g2 g3 g4 g5
      obtain ⟨K0, e0, _, w0⟩ := DataW.trod_int Try.underlying3 g0
      obtain ⟨K1, e1, _, w1⟩ := DataW.trod_int Try.underlying3 g1
      obtain ⟨K2, e2, _, w2⟩ := DataW.trod_int Try.underlying3 g2
      obtain ⟨K3, e3, _, w3⟩ := DataW.trod_int Try.underlying3 g3
      obtain ⟨K4, e4, _, w4⟩ := DataW.trod_int Try.underlying26 g4
      obtain ⟨a5, ws, k5, e5, l5, s5⟩ := words_cell g5
      simp at e0 e1 e2 e3 e4 e5
      subst e0 e1 e2 e3 e4 e5
      have b0 := wf_i64 w0
      have b1 := wf_i64 w1
      have b2 := wf_i64 w2
      have b3 := wf_i64 w3
      have b4 := wf_u32 w4
      have q0 := hc6 0 (by omega)
      have q1 := hc6 1 (by omega)
      have q2 := hc6 2 (by omega)
      have q3 := hc6 3 (by omega)
      have q4 := hc6 4 (by omega)
      have q5 := hc6 5 (by omega)
      rw [add_add] at q0 q1 q2 q3 q4 q5
      have e4' : ((UInt32.ofNat K4.toNat).toNat : Int) = K4 := by rw [UInt32.toNat_ofNat']; omega
      refine ⟨⟨K0, K1, K2, K3, UInt32.ofNat K4.toNat, a5, ws, k5⟩, by simpa using q0, by simpa using q1, by simpa using q2, by simpa using q3, ?_, by simpa using q5, s5, ⟨b0, b1, b2, b3, l5⟩⟩
      show W.cell? (x.add (i * 6 + 4)) = some (.int .u32 ((UInt32.ofNat K4.toNat).toNat : Int))
      rw [e4']
      simpa using q4
    obtain ⟨V, hV⟩ := choose_lt each
    have hlen : ((List.range len).map V).length = len := by simp
    refine ⟨some x, (List.range len).map V, m, by rw [hlen], by rw [hlen]; omega, ?_, ?_⟩
    · by_cases h0 : len = 0
      · exact .inl (List.eq_nil_of_length_eq_zero (by rw [hlen]; exact h0))
      · obtain ⟨b, off, spot⟩ := x
        have hc := (hV 0 (by omega)).1
        have hspot : spot = none := by simpa [Addr.add] using World.cell?_spot hc
        subst hspot
        refine .inr ⟨b, off, rfl, fun j hj => ?_⟩
        rw [hlen] at hj
        obtain ⟨q0, q1, q2, q3, q4, q5, s, _⟩ := hV j hj
        rw [addr_add] at q0 q1 q2 q3 q4 q5
        have e2 : ((List.range len).map V)[j]'(by rw [hlen]; exact hj) = V j := by simp
        rw [e2]
        exact ⟨q0, q1, q2, q3, q4, q5, s⟩
    · intro it hit
      obtain ⟨i, hi, rfl⟩ := List.mem_map.1 hit
      exact (hV i (List.mem_range.1 hi)).2.2.2.2.2.2.2

set_option maxRecDepth 100000 in
theorem lifted (os : Os) (started : os.Started) (H : Type) (enc : TypeId × Value → H) :
    ReturnsInHanded {} Try.checked os 4 .any (Rows.memKeptSpec.pre6 enc Try.prog Try.f4 Rows.memKeptRow.domain false) (Rows.memKeptSpec.post enc Try.prog Try.f4 false true false false) := by
  refine returnsInHanded_of_change (C := Try.checked) own started (by kernel_rfl) Try.func4
    (ChangeSpec.witness6 (enc := enc) (C := Try.checked) false ⟨#[], #[.int .i64 0, .slice none 0 0], []⟩ 8 (by kernel_rfl) (by kernel_rfl) (by kernel_rfl) (by kernel_rfl)) ?_
  intro W base args ds gs before hval0 hW hcnd _
  have hval : ∀ (j : Nat) t v, Try.f4.params[j]? = some t → args[j]? = some v → Value.okWide Try.prog W .any base t v := hval0
  have hW' := hW
  obtain ⟨p, q, hA0, hV, rfl, hfz, hnd⟩ := hW
  have hA : DataW.TrodAll enc Try.prog W 0 (fun _ => true) true Try.f4.params.toList args.toList ds p := hA0
  rw [Try.params4] at hA hval
  obtain ⟨v0, vs0, d0, ds0, p0, q0, hargs, rfl, rfl, h0, r0⟩ := trodAll_cons hA
  obtain ⟨v1, vs1, d1, ds1, p1, q1, rfl, rfl, rfl, h1, r1⟩ := trodAll_cons r0
  obtain ⟨rfl, rfl, rfl⟩ := trodAll_nil r1
  obtain rfl : args = #[v0, v1] := by cases args; simp_all
  obtain ⟨rfl, rfl⟩ := trodVars_none hV
  have k1 := h1
  have lt1 : ∀ x ∈ p1, x.block < W.heap.size := by obtain ⟨m, hm⟩ := k1; exact DataW.trod_lt m _ _ _ hm
  obtain ⟨a, acts, c, rfl, hl, hacts, hfine⟩ := acts_in (hval 1 41 v1 rfl rfl) h1
  obtain ⟨a0, rfl, rfl, rfl, w0⟩ := open_int Try.underlying3 (hval 0 3 v0 rfl rfl) h0
  have b0 := wf_i64 w0
  clear hA0 hval0
  simp only [List.append_nil] at hW'
  refine Calls.mono (kept_main a0 a c acts W hacts hfine hl b0) fun e W' ⟨he, hK⟩ => ?_
  have bel : Below W.heap.size W W' := hK.below (Nat.le_refl _) fun _ h => h.elim
  subst he
  exact ⟨_, rfl, _, _, _, [], _, [], hW', trodAll_mk1 (shut_bool Try.underlying4 _), (trodAll_cons_mk (shut_int Try.underlying3 w0) (trodAll_cons_mk (Below.trod laidOut (by kernel_rfl) (of_decide_eq_true (by kernel_rfl)) k1 bel lt1) trodAll_mk0)), rfl, bel.frame _, fun h => by cases h⟩

theorem over : Rows.memKeptRow.holds Try.pinned (OpenSpec.ofChange Rows.memKeptSpec) :=
  OpenClaim.holds_of_wide 4 Try.f4 rfl rfl rfl rfl rfl rfl rfl ⟨rfl, rfl, rfl, rfl, rfl⟩ rfl rfl rfl rfl rfl (by kernel_rfl) Try.func4 (by kernel_rfl)
    (of_decide_eq_true (by kernel_rfl)) (by unfold Func.isWrapper; first | (rw [if_pos (by decide +kernel)]; kernel_rfl) | (rw [if_neg (by decide +kernel)]; exact ⟨rfl, rfl⟩))
    (fun os started H enc _ => lifted os started H enc)
end Go.Proofs.Ytljhdijledclhaa.memKept
namespace Go.Proofs.Ytljhdijledclhaa
theorem memKept_holds : Rows.MemKeptSaid := memKept.over
end Go.Proofs.Ytljhdijledclhaa
