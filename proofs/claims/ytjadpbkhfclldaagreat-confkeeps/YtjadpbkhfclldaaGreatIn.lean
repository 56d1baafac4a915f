import Derived.Test.YtjadpbkhfclldaaGreatRo
import Derived.ProofKit
import Derived.OpenShut
import Derived.ChangeOld
import Derived.ChangeSlices
import Derived.Deep.Slices
import Derived.Deep.Strs
namespace Go.Proofs.YtjadpbkhfclldaaGreat
open Go.ChangeShapes Go.WideShapes Go.ChangeAt Go.RowKit Go.Deep
set_option linter.unusedVariables false
set_option maxRecDepth 100000

theorem own : ownKnob Tryz.prog.godebug = none := by kernel_rfl
theorem laidOut : laidOutB Tryz.prog = true := by kernel_rfl
theorem wf_i64 {n : Int} (h : (Lit.int .i64 n).wf = true) : I64 n := by
  have : -9223372036854775808 ≤ n ∧ n ≤ 9223372036854775807 := by simpa [Lit.wf, IntKind.min, IntKind.max, IntKind.signed, IntKind.bits] using h
  exact this
theorem cells3 : Tryz.prog.cellsOf 3 = 1 := by kernel_rfl
theorem cells4 : Tryz.prog.cellsOf 4 = 1 := by kernel_rfl
theorem cells9 : Tryz.prog.cellsOf 9 = 1 := by kernel_rfl
theorem cells123 : Tryz.prog.cellsOf 51 = 3 := by kernel_rfl
theorem cells83 : Tryz.prog.cellsOf 53 = 4 := by kernel_rfl
theorem cells99 : Tryz.prog.cellsOf 55 = 2 := by kernel_rfl
theorem cells45 : Tryz.prog.cellsOf 57 = 3 := by kernel_rfl
theorem cells120 : Tryz.prog.cellsOf 43 = 1 := by kernel_rfl
theorem cells81 : Tryz.prog.cellsOf 47 = 8 := by kernel_rfl
theorem cells78 : Tryz.prog.cellsOf 44 = 1 := by kernel_rfl
theorem cells79 : Tryz.prog.cellsOf 45 = 1 := by kernel_rfl
theorem cells22 : Tryz.prog.cellsOf 22 = 1 := by kernel_rfl
theorem cells23 : Tryz.prog.cellsOf 23 = 1 := by kernel_rfl
theorem cells24 : Tryz.prog.cellsOf 24 = 1 := by kernel_rfl

variable {H : Type} {enc : TypeId × Value → H} {W : World}
theorem choose_lt' {α : Type} [Inhabited α] {n : Nat} {Q : Nat → α → Prop} (h : ∀ i, i < n → ∃ a, Q i a) : ∃ f : Nat → α, ∀ i, i < n → Q i (f i) := by
  classical
  refine ⟨fun i => if hi : i < n then (h i hi).choose else default, fun i hi => ?_⟩
  simp only [hi, dif_pos]
  exact (h i hi).choose_spec
/-- A list of such things, by its cell. -/
theorem list_cell {α : Type} [Inhabited α] (E : Elem α) (sty : TypeId) (hu : Tryz.prog.underlying sty = some (.slice E.ety)) (hce : Tryz.prog.cellsOf E.ety = E.k)
    (hel : ∀ (cs : List Value) (x : DataW H × List MemPlace) (fuel : Nat), cs.length = E.k → DataW.trod enc Tryz.prog W 0 (fun _ => true) true fuel E.ety cs = some x → ∃ a : α, cs = E.vs a ∧ E.Ok W a)
    {cs : List Value} {x : DataW H × List MemPlace} {fuel : Nat} (h : DataW.trod enc Tryz.prog W 0 (fun _ => true) true fuel sty cs = some x) :
    ∃ a ls c, cs = [.slice a (List.length (α := α) ls) c] ∧ (ls.length ≤ c ∧ c ≤ maxLen) ∧ SegA E.vs E.k W a ls ∧ ∀ l ∈ ls, E.Ok W l := by
  rcases open_slice hu h with ⟨hcs, _⟩ | ⟨x, len, cap, m, n, D, Pl, hcs, _, hl, hm, hmm, hx, hcell⟩
  · exact ⟨none, [], 0, hcs, ⟨Nat.zero_le _, Nat.zero_le _⟩, .inl rfl, fun l hl => by cases hl⟩
  · have hmc : m = cap := by simpa using hmm
    subst hmc
    have each : ∀ i, i < len → ∃ l : α, (∀ j v, (E.vs l)[j]? = some v → W.cell? (x.add (i * E.k + j)) = some v) ∧ E.Ok W l := by
      intro i hi
      obtain ⟨cs', h1, h2⟩ := hcell i (by omega)
      rw [hce] at h1
      obtain ⟨_, hlen3, hc3⟩ := World.cells?_some h1
      obtain ⟨l, rfl, hF⟩ := hel cs' _ _ hlen3 h2
      refine ⟨l, fun j v hj => ?_, hF⟩
      have hjk : j < E.k := by rw [← E.len l]; exact (List.getElem?_eq_some_iff.1 hj).1
      have q := hc3 j hjk
      rw [add_add] at q
      rw [q]
      exact hj
    obtain ⟨V, hV⟩ := choose_lt' each
    refine ⟨some x, (List.range len).map V, m, by simp [hcs], by simp; omega, ?_, ?_⟩
    · by_cases h0 : len = 0
      · exact .inl (by simp [h0])
      · obtain ⟨b, off, spot⟩ := x
        obtain ⟨v0, hv0⟩ : ∃ v, (E.vs (V 0))[0]? = some v := ⟨_, List.getElem?_eq_getElem (by rw [E.len]; exact E.pos)⟩
        have hc := (hV 0 (by omega)).1 0 v0 hv0
        have hspot : spot = none := by simpa [Addr.add] using World.cell?_spot hc
        subst hspot
        refine .inr ⟨b, off, rfl, fun j l hj i v hv => ?_⟩
        have hj' : j < len := by
          have := (List.getElem?_eq_some_iff.1 hj).1
          simpa using this
        have e : l = V j := by simp [hj'] at hj; exact hj.symm
        subst e
        have h1 := (hV j hj').1 i v hv
        rw [addr_add] at h1
        rw [Nat.add_assoc]; exact h1
    · intro l hl
      obtain ⟨i, hi, rfl⟩ := List.mem_map.1 hl
      exact (hV i (by simpa using hi)).2

instance : Inhabited Win := ⟨⟨0, 0, 0⟩⟩
instance : Inhabited Rgn := ⟨⟨0, 0, 0, 0⟩⟩
instance : Inhabited Prt := ⟨⟨0, false⟩⟩
instance : Inhabited Chn := ⟨⟨0, 0, 0⟩⟩
instance : Inhabited Core := ⟨⟨none, 0, []⟩⟩
instance : Inhabited Par := ⟨⟨⟨#[]⟩, 0, 0, 0, 0, 0, none, 0, [], none, 0, []⟩⟩

theorem win_cell {cs : List Value} {x : DataW H × List MemPlace} {fuel : Nat} (hl : cs.length = 3)
    (h : DataW.trod enc Tryz.prog W 0 (fun _ => true) true fuel 51 cs = some x) : ∃ l : Win, cs = l.vs ∧ l.Fine := by
  obtain ⟨xs, n', _, _, _, hlenx, hfs⟩ := DataW.trod_struct Tryz.underlying51 h
  obtain ⟨y0, y1, y2, rfl⟩ : ∃ y0 y1 y2, xs = [y0, y1, y2] := by
    match xs, hlenx with
    | [y0, y1, y2], _ => exact ⟨y0, y1, y2, rfl⟩
  obtain ⟨c0, c1, c2, rfl⟩ : ∃ c0 c1 c2, cs = [c0, c1, c2] := by
    match cs, hl with
    | [c0, c1, c2], _ => exact ⟨c0, c1, c2, rfl⟩
  have g0 := hfs 0 _ rfl
  have g1 := hfs 1 _ rfl
  have g2 := hfs 2 _ rfl
  simp [cells3] at g0 g1 g2
  obtain ⟨K0, e0, _, w0⟩ := DataW.trod_int Tryz.underlying3 g0
  obtain ⟨K1, e1, _, w1⟩ := DataW.trod_int Tryz.underlying3 g1
  obtain ⟨K2, e2, _, w2⟩ := DataW.trod_int Tryz.underlying3 g2
  simp at e0 e1 e2
  subst e0 e1 e2
  exact ⟨⟨K0, K1, K2⟩, rfl, wf_i64 w0, wf_i64 w1, wf_i64 w2⟩

theorem rgn_cell {cs : List Value} {x : DataW H × List MemPlace} {fuel : Nat} (hl : cs.length = 4)
    (h : DataW.trod enc Tryz.prog W 0 (fun _ => true) true fuel 53 cs = some x) : ∃ l : Rgn, cs = l.vs ∧ l.Fine := by
  obtain ⟨xs, n', _, _, _, hlenx, hfs⟩ := DataW.trod_struct Tryz.underlying53 h
  obtain ⟨y0, y1, y2, y3, rfl⟩ : ∃ y0 y1 y2 y3, xs = [y0, y1, y2, y3] := by
    match xs, hlenx with
    | [y0, y1, y2, y3], _ => exact ⟨y0, y1, y2, y3, rfl⟩
  obtain ⟨c0, c1, c2, c3, rfl⟩ : ∃ c0 c1 c2 c3, cs = [c0, c1, c2, c3] := by
    match cs, hl with
    | [c0, c1, c2, c3], _ => exact ⟨c0, c1, c2, c3, rfl⟩
  have g0 := hfs 0 _ rfl
  have g1 := hfs 1 _ rfl
  have g2 := hfs 2 _ rfl
  have g3 := hfs 3 _ rfl
  simp [cells3] at g0 g1 g2 g3
  obtain ⟨K0, e0, _, w0⟩ := DataW.trod_int Tryz.underlying3 g0
  obtain ⟨K1, e1, _, w1⟩ := DataW.trod_int Tryz.underlying3 g1
  obtain ⟨K2, e2, _, w2⟩ := DataW.trod_int Tryz.underlying3 g2
  obtain ⟨K3, e3, _, w3⟩ := DataW.trod_int Tryz.underlying3 g3
  simp at e0 e1 e2 e3
  subst e0 e1 e2 e3
  exact ⟨⟨K0, K1, K2, K3⟩, rfl, wf_i64 w0, wf_i64 w1, wf_i64 w2, wf_i64 w3⟩

theorem chn_cell {cs : List Value} {x : DataW H × List MemPlace} {fuel : Nat} (hl : cs.length = 3)
    (h : DataW.trod enc Tryz.prog W 0 (fun _ => true) true fuel 57 cs = some x) : ∃ l : Chn, cs = l.vs ∧ l.Fine := by
  obtain ⟨xs, n', _, _, _, hlenx, hfs⟩ := DataW.trod_struct Tryz.underlying57 h
  obtain ⟨y0, y1, y2, rfl⟩ : ∃ y0 y1 y2, xs = [y0, y1, y2] := by
    match xs, hlenx with
    | [y0, y1, y2], _ => exact ⟨y0, y1, y2, rfl⟩
  obtain ⟨c0, c1, c2, rfl⟩ : ∃ c0 c1 c2, cs = [c0, c1, c2] := by
    match cs, hl with
    | [c0, c1, c2], _ => exact ⟨c0, c1, c2, rfl⟩
  have g0 := hfs 0 _ rfl
  have g1 := hfs 1 _ rfl
  have g2 := hfs 2 _ rfl
  simp [cells3] at g0 g1 g2
  obtain ⟨K0, e0, _, w0⟩ := DataW.trod_int Tryz.underlying3 g0
  obtain ⟨K1, e1, _, w1⟩ := DataW.trod_int Tryz.underlying3 g1
  obtain ⟨K2, e2, _, w2⟩ := DataW.trod_int Tryz.underlying3 g2
  simp at e0 e1 e2
  subst e0 e1 e2
  exact ⟨⟨K0, K1, K2⟩, rfl, wf_i64 w0, wf_i64 w1, wf_i64 w2⟩

theorem prt_cell {cs : List Value} {x : DataW H × List MemPlace} {fuel : Nat} (hl : cs.length = 2)
    (h : DataW.trod enc Tryz.prog W 0 (fun _ => true) true fuel 55 cs = some x) : ∃ l : Prt, cs = l.vs ∧ l.Fine := by
  obtain ⟨xs, n', _, _, _, hlenx, hfs⟩ := DataW.trod_struct Tryz.underlying55 h
  obtain ⟨y0, y1, rfl⟩ : ∃ y0 y1, xs = [y0, y1] := by
    match xs, hlenx with
    | [y0, y1], _ => exact ⟨y0, y1, rfl⟩
  obtain ⟨c0, c1, rfl⟩ : ∃ c0 c1, cs = [c0, c1] := by
    match cs, hl with
    | [c0, c1], _ => exact ⟨c0, c1, rfl⟩
  have g0 := hfs 0 _ rfl
  have g1 := hfs 1 _ rfl
  simp [cells3, cells4] at g0 g1
  obtain ⟨K0, e0, _, w0⟩ := DataW.trod_int Tryz.underlying3 g0
  obtain ⟨K1, e1, _⟩ := DataW.trod_bool Tryz.underlying4 g1
  simp at e0 e1
  subst e0 e1
  exact ⟨⟨K0, K1⟩, rfl, wf_i64 w0⟩

theorem core_cell {cs : List Value} {x : DataW H × List MemPlace} {fuel : Nat} (hl : cs.length = 1)
    (h : DataW.trod enc Tryz.prog W 0 (fun _ => true) true fuel 43 cs = some x) : ∃ l : Core, cs = l.vs ∧ l.Ok W := by
  obtain ⟨a, l, m, e, n, s, f⟩ := list_cell eWin 43 Tryz.underlying43 cells123 (fun cs x fuel hl h => win_cell hl h) h
  exact ⟨⟨a, m, l⟩, e, s, n, f⟩

theorem par_cell {cs : List Value} {x : DataW H × List MemPlace} {fuel : Nat} (hl : cs.length = 8)
    (h : DataW.trod enc Tryz.prog W 0 (fun _ => true) true fuel 47 cs = some x) : ∃ l : Par, cs = l.vs ∧ l.Ok W := by
  obtain ⟨xs, n', _, _, _, hlenx, hfs⟩ := DataW.trod_struct Tryz.underlying47 h
  obtain ⟨y0, y1, y2, y3, y4, y5, y6, y7, rfl⟩ : ∃ y0 y1 y2 y3 y4 y5 y6 y7, xs = [y0, y1, y2, y3, y4, y5, y6, y7] := by
    match xs, hlenx with
    | [y0, y1, y2, y3, y4, y5, y6, y7], _ => exact ⟨y0, y1, y2, y3, y4, y5, y6, y7, rfl⟩
  obtain ⟨c0, c1, c2, c3, c4, c5, c6, c7, rfl⟩ : ∃ c0 c1 c2 c3 c4 c5 c6 c7, cs = [c0, c1, c2, c3, c4, c5, c6, c7] := by
    match cs, hl with
    | [c0, c1, c2, c3, c4, c5, c6, c7], _ => exact ⟨c0, c1, c2, c3, c4, c5, c6, c7, rfl⟩
  have g0 := hfs 0 _ rfl
  have g1 := hfs 1 _ rfl
  have g2 := hfs 2 _ rfl
  have g3 := hfs 3 _ rfl
  have g4 := hfs 4 _ rfl
  have g5 := hfs 5 _ rfl
  have g6 := hfs 6 _ rfl
  have g7 := hfs 7 _ rfl
  simp [cells3, cells9, cells78, cells79] at g0 g1 g2 g3 g4 g5 g6 g7
  obtain ⟨K0, e0, _, w0⟩ := DataW.trod_string Tryz.underlying9 g0
  obtain ⟨K1, e1, _, w1⟩ := DataW.trod_int Tryz.underlying3 g1
  obtain ⟨K2, e2, _, w2⟩ := DataW.trod_int Tryz.underlying3 g2
  obtain ⟨K3, e3, _, w3⟩ := DataW.trod_int Tryz.underlying3 g3
  obtain ⟨K4, e4, _, w4⟩ := DataW.trod_int Tryz.underlying3 g4
  obtain ⟨K5, e5, _, w5⟩ := DataW.trod_int Tryz.underlying3 g5
  obtain ⟨a6, l6, m6, e6, n6, s6, f6⟩ := list_cell eRgn 44 Tryz.underlying44 cells83 (fun cs x fuel hl h => rgn_cell hl h) g6
  obtain ⟨a7, l7, m7, e7, n7, s7, f7⟩ := list_cell ePrt 45 Tryz.underlying45 cells99 (fun cs x fuel hl h => prt_cell hl h) g7
  simp at e0 e1 e2 e3 e4 e5 e6 e7
  subst e0 e1 e2 e3 e4 e5 e6 e7
  refine ⟨⟨K0, K1, K2, K3, K4, K5, a6, m6, l6, a7, m7, l7⟩, rfl, s6, n6, f6, s7, n7, f7, ?_, by unfold maxLen at w0; omega⟩
  intro n hn
  simp only [Par.ns, List.mem_cons, List.not_mem_nil, or_false] at hn
  rcases hn with rfl | rfl | rfl | rfl | rfl
  · exact wf_i64 w1
  · exact wf_i64 w2
  · exact wf_i64 w3
  · exact wf_i64 w4
  · exact wf_i64 w5

theorem cfg_cell {cs : List Value} {x : DataW H × List MemPlace} {fuel : Nat} (hl : cs.length = 7)
    (h : DataW.trod enc Tryz.prog W 0 (fun _ => true) true fuel 26 cs = some x) : ∃ l : Cfg, cs = l.vs ∧ l.In W W.heap.size := by
  obtain ⟨xs, n', _, _, _, hlenx, hfs⟩ := DataW.trod_struct Tryz.underlying26 h
  obtain ⟨y0, y1, y2, y3, y4, y5, y6, rfl⟩ : ∃ y0 y1 y2 y3 y4 y5 y6, xs = [y0, y1, y2, y3, y4, y5, y6] := by
    match xs, hlenx with
    | [y0, y1, y2, y3, y4, y5, y6], _ => exact ⟨y0, y1, y2, y3, y4, y5, y6, rfl⟩
  obtain ⟨c0, c1, c2, c3, c4, c5, c6, rfl⟩ : ∃ c0 c1 c2 c3 c4 c5 c6, cs = [c0, c1, c2, c3, c4, c5, c6] := by
    match cs, hl with
    | [c0, c1, c2, c3, c4, c5, c6], _ => exact ⟨c0, c1, c2, c3, c4, c5, c6, rfl⟩
  have g0 := hfs 0 _ rfl
  have g1 := hfs 1 _ rfl
  have g2 := hfs 2 _ rfl
  have g3 := hfs 3 _ rfl
  have g4 := hfs 4 _ rfl
  have g5 := hfs 5 _ rfl
  have g6 := hfs 6 _ rfl
  simp [cells3, cells22, cells23, cells24] at g0 g1 g2 g3 g4 g5 g6
  obtain ⟨K0, e0, _, w0⟩ := DataW.trod_int Tryz.underlying3 g0
  obtain ⟨K1, e1, _, w1⟩ := DataW.trod_int Tryz.underlying3 g1
  obtain ⟨K2, e2, _, w2⟩ := DataW.trod_int Tryz.underlying3 g2
  obtain ⟨K3, e3, _, w3⟩ := DataW.trod_int Tryz.underlying3 g3
  obtain ⟨a4, l4, m4, e4, n4, s4, f4⟩ := list_cell eCore 22 Tryz.underlying22 cells120 (fun cs x fuel hl h => core_cell hl h) g4
  obtain ⟨a5, l5, m5, e5, n5, s5, f5⟩ := list_cell ePar 23 Tryz.underlying23 cells81 (fun cs x fuel hl h => par_cell hl h) g5
  obtain ⟨a6, l6, m6, e6, n6, s6, f6⟩ := list_cell eChn 24 Tryz.underlying24 cells45 (fun cs x fuel hl h => chn_cell hl h) g6
  simp at e0 e1 e2 e3 e4 e5 e6
  subst e0 e1 e2 e3 e4 e5 e6
  refine ⟨⟨K0, K1, K2, K3, a4, m4, l4, a5, m5, l5, a6, m6, l6⟩, rfl, s4, fun hn y hy => segA_lt s4 (fun _ => by simp [eCore]) hn y hy, n4, fun y hy => Core.Ok.in (f4 y hy), s5, fun hn y hy => segA_lt s5 (fun _ => by simp [ePar]) hn y hy, n5, fun y hy => Par.Ok.in (f5 y hy),
    s6, fun hn y hy => segA_lt s6 (fun _ => by simp [eChn]) hn y hy, n6, f6, ?_⟩
  intro n hn
  simp only [Cfg.ns, List.mem_cons, List.not_mem_nil, or_false] at hn
  rcases hn with rfl | rfl | rfl | rfl
  · exact wf_i64 w0
  · exact wf_i64 w1
  · exact wf_i64 w2
  · exact wf_i64 w3

/-- A configuration that came in. -/
theorem cfg_in {v : Value} {d : DataW H} {p : List MemPlace} {base : Nat} (hv : Value.okWide Tryz.prog W .any base 26 v)
    (h : DataW.Trod enc Tryz.prog W 0 (fun _ => true) true 26 v d p) : ∃ x : Cfg, v = x.v ∧ x.In W W.heap.size := by
  obtain ⟨cs, rfl, hsz⟩ := okWide_struct Tryz.underlying26 hv
  obtain ⟨fuel, hf⟩ := h
  have hf' : DataW.trod enc Tryz.prog W 0 (fun _ => true) true fuel 26 cs.toList = some (d, p) := hf
  obtain ⟨l, hl, hF⟩ := cfg_cell (by rw [Array.length_toList, hsz]; kernel_rfl) hf'
  exact ⟨l, by rw [← Array.toArray_toList (xs := cs), hl], hF⟩
end Go.Proofs.YtjadpbkhfclldaaGreat
