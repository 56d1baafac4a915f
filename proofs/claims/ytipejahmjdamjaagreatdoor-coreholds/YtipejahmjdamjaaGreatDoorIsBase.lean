import Derived.Test.YtipejahmjdamjaaGreatDoorRows
import Derived.Test.YtipejahmjdamjaaGreatDoorIsEnc
import Derived.WalkKit
import Derived.ProofKit
import Derived.OpenShut
import Derived.ChangeOld
import Derived.ChangeSame
import Derived.WideShapes
import Derived.Below
import Derived.Deep.DeepHandedRow
import Derived.Deep.DeepLaidRun
import Derived.Lib.LaidTab
import Derived.MakeChecks
namespace Go.Proofs.YtipejahmjdamjaaGreatDoor.Is
open Go.ChangeShapes Go.WideShapes Go.ChangeAt Go.RowKit
set_option linter.unusedVariables false
set_option maxRecDepth 6000

theorem own : ownKnob Tryz.prog.godebug = none := by kernel_rfl

/-! What the laid tables read as, and what lies there then. -/
def opsD (H : Type) : DataW H := .agg ((List.range 31).map fun i => .agg [.lit (.string (nameAt i).data.toList), .lit (.int .i64 (formAt i)), .lit (.int .i64 (costAt i))])
def shapesD (H : Type) : DataW H := .agg ((List.range 8).map fun i : Nat => .agg [.lit (.bool (hasA (i : Int))), .lit (.bool (hasB (i : Int))), .lit (.bool (hasC (i : Int))), .lit (.bool (hasI (i : Int)))])
theorem ops_laid : (Rows.laid_bulkhead_isa_operations : DataW Unit) = opsD Unit := by kernel_rfl
theorem shapes_laid : (Rows.laid_bulkhead_isa_shapes : DataW Unit) = shapesD Unit := by kernel_rfl

theorem take_one {l : List Value} {n : Nat} {v : Value} (h : (l.drop n).take 1 = [v]) : l[n]? = some v := by
  have := congrArg (·[0]?) h
  simpa [List.getElem?_take, List.getElem?_drop] using this

section
variable {enc : TypeId × Value → Unit} {w : World} {base : Nat} {sp : Nat → Bool} {held : Bool}

theorem op_row {fuel : Nat} {sl : List Value} {nm : List UInt8} {f c : Int} {p : List MemPlace}
    (h : DataW.trod enc Tryz.prog w base sp held fuel 209 sl = some (.agg [.lit (.string nm), .lit (.int .i64 f), .lit (.int .i64 c)], p)) :
    sl[0]? = some (.string ⟨nm.toArray⟩) ∧ sl[1]? = some (.int .i64 f) ∧ sl[2]? = some (.int .i64 c) := by
  obtain ⟨xs, n, _, hx, _, hlen, hf⟩ := DataW.trod_struct Tryz.underlying209 h
  have hx1 : xs.map (·.1) = [.lit (.string nm), .lit (.int .i64 f), .lit (.int .i64 c)] := by
    have := congrArg Prod.fst hx
    simpa using this.symm
  match xs, hlen, hx1, hf with
  | [y0, y1, y2], _, hx1, hf =>
    simp only [List.map_cons, List.map_nil, List.cons.injEq, and_true] at hx1
    obtain ⟨e0, e1, e2⟩ := hx1
    have h0 := hf 0 _ rfl
    have h1 := hf 1 _ rfl
    have h2 := hf 2 _ rfl
    obtain ⟨s, hc0, hy0, _⟩ := DataW.trod_string Tryz.underlying9 h0
    obtain ⟨z1, hc1, hy1, _⟩ := DataW.trod_int Tryz.underlying3 h1
    obtain ⟨z2, hc2, hy2, _⟩ := DataW.trod_int Tryz.underlying3 h2
    rw [hy0] at e0
    rw [hy1] at e1
    rw [hy2] at e2
    simp only [DataW.lit.injEq, Lit.string.injEq, Lit.int.injEq, true_and] at e0 e1 e2
    subst e0 e1 e2
    exact ⟨take_one hc0, take_one hc1, take_one hc2⟩

theorem shape_row {fuel : Nat} {sl : List Value} {a b c i : Bool} {p : List MemPlace}
    (h : DataW.trod enc Tryz.prog w base sp held fuel 236 sl = some (.agg [.lit (.bool a), .lit (.bool b), .lit (.bool c), .lit (.bool i)], p)) :
    sl[0]? = some (.bool a) ∧ sl[1]? = some (.bool b) ∧ sl[2]? = some (.bool c) ∧ sl[3]? = some (.bool i) := by
  obtain ⟨xs, n, _, hx, _, hlen, hf⟩ := DataW.trod_struct Tryz.underlying236 h
  have hx1 : xs.map (·.1) = [.lit (.bool a), .lit (.bool b), .lit (.bool c), .lit (.bool i)] := by
    have := congrArg Prod.fst hx
    simpa using this.symm
  match xs, hlen, hx1, hf with
  | [y0, y1, y2, y3], _, hx1, hf =>
    simp only [List.map_cons, List.map_nil, List.cons.injEq, and_true] at hx1
    obtain ⟨e0, e1, e2, e3⟩ := hx1
    have h0 := hf 0 _ rfl
    have h1 := hf 1 _ rfl
    have h2 := hf 2 _ rfl
    have h3 := hf 3 _ rfl
    obtain ⟨z0, hc0, hy0⟩ := DataW.trod_bool Tryz.underlying4 h0
    obtain ⟨z1, hc1, hy1⟩ := DataW.trod_bool Tryz.underlying4 h1
    obtain ⟨z2, hc2, hy2⟩ := DataW.trod_bool Tryz.underlying4 h2
    obtain ⟨z3, hc3, hy3⟩ := DataW.trod_bool Tryz.underlying4 h3
    rw [hy0] at e0
    rw [hy1] at e1
    rw [hy2] at e2
    rw [hy3] at e3
    simp only [DataW.lit.injEq, Lit.bool.injEq] at e0 e1 e2 e3
    subst e0 e1 e2 e3
    exact ⟨take_one hc0, take_one hc1, take_one hc2, take_one hc3⟩

theorem row_at {t e : TypeId} {n c : Nat} {fuel : Nat} {cs : List Value} {rows : List (DataW Unit)} {p : List MemPlace} (ht : Tryz.prog.underlying t = some (.array n e)) (hc : Tryz.prog.cellsOf e = c)
    (h : DataW.trod enc Tryz.prog w base sp held fuel t cs = some (.agg rows, p)) (i : Nat) (hi : i < n) :
    ∃ m d q, rows[i]? = some d ∧ DataW.trod enc Tryz.prog w base sp held m e ((cs.drop (i * c)).take c) = some (d, q) := by
  obtain ⟨xs, m, _, hx, _, hlen, hf⟩ := DataW.trod_array ht h
  rw [hc] at hf
  have h1 : xs.map (·.1) = rows := by
    have := congrArg Prod.fst hx
    simpa using this.symm
  have h2 := hf i hi
  have h3 : xs[i]? = some xs[i] := List.getElem?_eq_getElem (by omega)
  rw [h3] at h2
  exact ⟨m, xs[i].1, xs[i].2, by rw [← h1]; simp [h3], h2⟩

theorem ops_cells {fuel : Nat} {cs : List Value} {p : List MemPlace} (h : DataW.trod enc Tryz.prog w base sp held fuel 210 cs = some (opsD Unit, p)) (i : Nat) (hi : i < 31) (j : Nat) (hj : j < 3) : cs[i * 3 + j]? = (rowAt i)[j]? := by
  obtain ⟨m, d, q, hd, ht⟩ := row_at (c := 3) Tryz.underlying210 (by kernel_rfl) h i hi
  have e : d = .agg [.lit (.string (nameAt i).data.toList), .lit (.int .i64 (formAt i)), .lit (.int .i64 (costAt i))] := by
    simpa [hi] using hd.symm
  rw [e] at ht
  obtain ⟨a0, a1, a2⟩ := op_row ht
  have go : ∀ j, j < 3 → ((cs.drop (i * 3)).take 3)[j]? = cs[i * 3 + j]? := fun j hj => by simp [hj]
  rw [← go j hj]
  match j, hj with
  | 0, _ => rw [a0]; rfl
  | 1, _ => rw [a1]; rfl
  | 2, _ => rw [a2]; rfl

theorem shapes_cells {fuel : Nat} {cs : List Value} {p : List MemPlace} (h : DataW.trod enc Tryz.prog w base sp held fuel 237 cs = some (shapesD Unit, p)) (i : Nat) (hi : i < 8) (j : Nat) (hj : j < 4) : cs[i * 4 + j]? = (shapeAt i)[j]? := by
  obtain ⟨m, d, q, hd, ht⟩ := row_at (c := 4) Tryz.underlying237 (by kernel_rfl) h i hi
  have e : d = .agg [.lit (.bool (hasA i)), .lit (.bool (hasB i)), .lit (.bool (hasC i)), .lit (.bool (hasI i))] := by
    simpa [hi] using hd.symm
  rw [e] at ht
  obtain ⟨a0, a1, a2, a3⟩ := shape_row ht
  have go : ∀ j, j < 4 → ((cs.drop (i * 4)).take 4)[j]? = cs[i * 4 + j]? := fun j hj => by simp [hj]
  rw [← go j hj]
  match j, hj with
  | 0, _ => rw [a0]; rfl
  | 1, _ => rw [a1]; rfl
  | 2, _ => rw [a2]; rfl
  | 3, _ => rw [a3]; rfl
end

theorem block_of_var {W : World} {n : String} {g : Nat} {cs : Array Value} (hg : Tryz.prog.globalNamed n = some g) (h : W.var? Tryz.prog n = some cs) : ∃ t fr, W.heap[g]? = some (.cells cs t fr) := by
  simp only [World.var?, hg, Option.bind_some] at h
  split at h
  · rename_i c t fr hh
    cases h
    exact ⟨t, fr, hh⟩
  · cases h

def laidL : List (String × DataW Unit) := [("bulkhead/isa.operations", Rows.laid_bulkhead_isa_operations), ("bulkhead/isa.shapes", Rows.laid_bulkhead_isa_shapes)]

theorem tabs_of_laid {W : World} (h0 : laidMetH Tryz.prog laidL W) : Tabs W := by
  rw [MakeChecks.laidMetH_plain _ _ _ (by kernel_rfl)] at h0
  obtain ⟨ps, hv, _, hz⟩ := h0
  unfold laidL at hv
  obtain ⟨g, t, cs, fuel, p, q, hg, ht, hvar, hd, ⟨g', t', cs', fuel', p', q', hg', ht', hvar', hd', hq, hps'⟩, hps⟩ := hv
  obtain rfl := Option.some.inj ((show Tryz.prog.globalNamed "bulkhead/isa.operations" = some 0 by kernel_rfl).symm.trans hg)
  obtain rfl := Option.some.inj ((show Tryz.prog.globalNamed "bulkhead/isa.shapes" = some 1 by kernel_rfl).symm.trans hg')
  obtain rfl := Option.some.inj ((show (Tryz.prog.globals[0]?).map (·.type) = some 210 by kernel_rfl).symm.trans ht)
  obtain rfl := Option.some.inj ((show (Tryz.prog.globals[1]?).map (·.type) = some 237 by kernel_rfl).symm.trans ht')
  rw [ops_laid] at hd
  rw [shapes_laid] at hd'
  have c1 := ops_cells hd
  have c2 := shapes_cells hd'
  have n1 : 0 < cs.size := by
    have := c1 0 (by omega) 0 (by omega)
    rcases Nat.eq_zero_or_pos cs.size with h | h
    · rw [List.getElem?_eq_none (by simp [h])] at this
      cases this
    · exact h
  have n2 : 0 < cs'.size := by
    have := c2 0 (by omega) 0 (by omega)
    rcases Nat.eq_zero_or_pos cs'.size with h | h
    · rw [List.getElem?_eq_none (by simp [h])] at this
      cases this
    · exact h
  obtain ⟨ty, fr, hb⟩ := block_of_var hg hvar
  obtain ⟨ty', fr', hb'⟩ := block_of_var hg' hvar'
  have m1 : MemPlace.cell 0 0 ∈ MemPlace.row ⟨0, 0, none⟩ cs.size := by
    simp [MemPlace.row]; omega
  have m2 : MemPlace.cell 1 0 ∈ MemPlace.row ⟨1, 0, none⟩ cs'.size := by
    simp [MemPlace.row]; omega
  obtain ⟨⟨c, tc, e⟩, _⟩ := hz 0 0 (by rw [hps]; simp [m1])
  obtain ⟨⟨c', tc', e'⟩, _⟩ := hz 1 0 (by rw [hps, hps']; simp [m2])
  have hb2 := hb.symm.trans e
  have hb2' := hb'.symm.trans e'
  simp only [Option.some.injEq, Obj.cells.injEq] at hb2 hb2'
  obtain ⟨rfl, rfl, rfl⟩ := hb2
  obtain ⟨rfl, rfl, rfl⟩ := hb2'
  exact ⟨⟨cs, ty, e, fun i hi j hj => by rw [← c1 i hi j hj]; simp⟩, cs', ty', e', fun i hi j hj => by rw [← c2 i hi j hj]; simp⟩

/-! An instruction, opened and shut. -/
end Go.Proofs.YtipejahmjdamjaaGreatDoor.Is
