import Derived.Test.YtohojpacijnnaaaDoorRows
import Derived.Test.YtohojpacijnnaaaDoorTl
import Derived.SizedLaws
import Derived.ProofKit
import Derived.OpenShut
import Derived.ChangeOld
import Derived.ChangeSame
import Derived.ChangeSlices
import Derived.WideShapes
import Derived.Below
import Derived.Deep.DeepHandedRow
import Derived.Deep.DeepLaidRun
import Derived.Deep.Slices
import Derived.Deep.Strs
import Derived.Lib.LaidTab
import Derived.MakeChecks
namespace Go.Proofs.YtohojpacijnnaaaDoor
open Go.ChangeShapes Go.WideShapes Go.ChangeAt Go.RowKit Go.Deep
set_option linter.unusedVariables false
set_option linter.unusedSimpArgs false
set_option maxRecDepth 6000

theorem own : ownKnob Tryd.prog.godebug = none := by kernel_rfl
theorem laidOut : laidOutB Tryd.prog = true := by kernel_rfl
theorem wf_u32 {n : Int} (h : (Lit.int .u32 n).wf = true) : 0 ≤ n ∧ n < 4294967296 := by
  have : 0 ≤ n ∧ n ≤ 4294967295 := by simpa [Lit.wf, IntKind.min, IntKind.max, IntKind.signed, IntKind.bits] using h
  omega
theorem bytes26 : Tryd.prog.bytesOf 26 = 4 := by kernel_rfl
theorem lits_length (k : IntKind) (zs : List Int) {H : Type} : (lits (H := H) k zs).length = zs.length := by simp [lits]

/-- A list of words, by its cell. -/
theorem words_cell {H : Type} {enc : TypeId × Value → H} {W : World} {cs : List Value} {x : DataW H × List MemPlace} {fuel : Nat}
    (h : DataW.trod enc Tryd.prog W 0 (fun _ => true) true fuel 22 cs = some x) : ∃ a ws c, cs = [.slice a (List.length (α := UInt32) ws) c] ∧ (ws.length ≤ c ∧ c ≤ maxLen) ∧ SegW W a ws ∧ ((∀ q ∈ DataW.weights Tryd.prog 22 x.1, q ≤ reachBytes) → ws.length ≤ 35184372087808) := by
  rcases open_ints Tryd.underlying22 Tryd.underlying26 (by kernel_rfl) h with ⟨hcs, _⟩ | ⟨x, len, cap, zs, hcs, _, hl, hm, hz, hx, hcell, hwz⟩
  · exact ⟨none, [], 0, hcs, ⟨Nat.zero_le _, Nat.zero_le _⟩, .inl rfl, fun _ => Nat.zero_le _⟩
  · have hz' : zs.length = cap := by simpa using hz
    have hlen : ((zs.take len).map fun z => UInt32.ofNat z.toNat).length = len := by simp; omega
    refine ⟨some x, (zs.take len).map fun z => UInt32.ofNat z.toNat, cap, by rw [hlen]; exact hcs, by rw [hlen]; omega, ?_, fun hq => ?_⟩
    rotate_left
    · rw [hx] at hq
      have h1 := hq (((lits (H := H) .u32 (zs.take len)).length + (lits (H := H) .u32 (zs.drop len)).length) * Tryd.prog.bytesOf 26) (by simp [DataW.weights, Tryd.underlying22])
      rw [bytes26, lits_length, lits_length] at h1
      have h2 : reachBytes = 140737488351232 := rfl
      rw [h2] at h1
      rw [hlen]
      simp at h1
      omega
    by_cases h0 : len = 0
    · exact .inl (List.eq_nil_of_length_eq_zero (by rw [hlen]; exact h0))
    · obtain ⟨b, off, spot⟩ := x
      have hc := hcell 0 (by omega)
      have hspot : spot = none := by simpa [Addr.add] using World.cell?_spot hc
      subst hspot
      refine .inr ⟨b, off, rfl, fun j hj => ?_⟩
      rw [hlen] at hj
      have h1 := hcell j (by omega)
      rw [addr_add] at h1
      rw [h1]
      have hj' : j < zs.length := by omega
      have h2 := wf_u32 (hwz zs[j] (List.getElem_mem _))
      have e1 : zs.getD j 0 = zs[j] := by simp [List.getD, hj']
      have e2 : ((zs.take len).map fun z => UInt32.ofNat z.toNat)[j]'(by rw [hlen]; exact hj) = UInt32.ofNat zs[j].toNat := by simp
      rw [e1, e2, UInt32.toNat_ofNat']
      congr 2
      omega

set_option maxRecDepth 100000 in
/-- A list of words that came in. -/
theorem words_in {H : Type} {enc : TypeId × Value → H} {W : World} {v : Value} {d : DataW H} {p : List MemPlace} {base : Nat} (hv : Value.okWide Tryd.prog W .any base 22 v)
    (h : DataW.Trod enc Tryd.prog W 0 (fun _ => true) true 22 v d p) (hq : ∀ q ∈ DataW.weights Tryd.prog 22 d, q ≤ reachBytes) : ∃ a ws c, v = .slice a (List.length (α := UInt32) ws) c ∧ SegW W a ws ∧ ws.length ≤ 35184372087808 := by
  obtain ⟨a0, len, cap, rfl⟩ := okWide_slice Tryd.underlying22 hv
  obtain ⟨fuel, hf⟩ := h
  obtain ⟨a, ws, c, hcs, hl, hs, hz⟩ := words_cell hf
  simp [Value.cells] at hcs
  obtain ⟨rfl, rfl, rfl⟩ := hcs
  exact ⟨_, ws, _, rfl, hs, hz hq⟩

/-! What the laid tables read as, and what lies there then. -/
def opsD (H : Type) : DataW H := .agg ((List.range 31).map fun i => .agg [.lit (.string (Is.nameAt i).data.toList), .lit (.int .i64 (Is.formAt i)), .lit (.int .i64 (Is.costAt i))])
def shapesD (H : Type) : DataW H := .agg ((List.range 8).map fun i : Nat => .agg [.lit (.bool (Is.hasA (i : Int))), .lit (.bool (Is.hasB (i : Int))), .lit (.bool (Is.hasC (i : Int))), .lit (.bool (Is.hasI (i : Int)))])
theorem ops_laid : (Rows.laid_bulkhead_isa_operations : DataW Unit) = opsD Unit := by kernel_rfl
theorem shapes_laid : (Rows.laid_bulkhead_isa_shapes : DataW Unit) = shapesD Unit := by kernel_rfl

theorem take_one {l : List Value} {n : Nat} {v : Value} (h : (l.drop n).take 1 = [v]) : l[n]? = some v := by
  have := congrArg (·[0]?) h
  simpa [List.getElem?_take, List.getElem?_drop] using this

section
variable {enc : TypeId × Value → Unit} {w : World} {base : Nat} {sp : Nat → Bool} {held : Bool}

theorem op_row {fuel : Nat} {sl : List Value} {nm : List UInt8} {f c : Int} {p : List MemPlace}
    (h : DataW.trod enc Tryd.prog w base sp held fuel 70 sl = some (.agg [.lit (.string nm), .lit (.int .i64 f), .lit (.int .i64 c)], p)) :
    sl[0]? = some (.string ⟨nm.toArray⟩) ∧ sl[1]? = some (.int .i64 f) ∧ sl[2]? = some (.int .i64 c) := by
  obtain ⟨xs, n, _, hx, _, hlen, hf⟩ := DataW.trod_struct Tryd.underlying70 h
  have hx1 : xs.map (·.1) = [.lit (.string nm), .lit (.int .i64 f), .lit (.int .i64 c)] := by
    have := congrArg Prod.fst hx
    simpa using this.symm
  match xs, hlen, hx1, hf with
  | [y0, y1, y2], _, hx1, hf =>
    simp only [List.map_cons, List.map_nil, List.cons.injEq, and_true] at hx1
    obtain ⟨e0, e1, e2⟩ := hx1
    have h0 := hf 0 _ rfl
    have h1 := hf 1 _ rfl
    have h2 := hf 2 _ rfl
    obtain ⟨s, hc0, hy0, _⟩ := DataW.trod_string Tryd.underlying9 h0
    obtain ⟨z1, hc1, hy1, _⟩ := DataW.trod_int Tryd.underlying3 h1
    obtain ⟨z2, hc2, hy2, _⟩ := DataW.trod_int Tryd.underlying3 h2
    rw [hy0] at e0
    rw [hy1] at e1
    rw [hy2] at e2
    simp only [DataW.lit.injEq, Lit.string.injEq, Lit.int.injEq, true_and] at e0 e1 e2
    subst e0 e1 e2
    exact ⟨take_one hc0, take_one hc1, take_one hc2⟩

theorem shape_row {fuel : Nat} {sl : List Value} {a b c i : Bool} {p : List MemPlace}
    (h : DataW.trod enc Tryd.prog w base sp held fuel 83 sl = some (.agg [.lit (.bool a), .lit (.bool b), .lit (.bool c), .lit (.bool i)], p)) :
    sl[0]? = some (.bool a) ∧ sl[1]? = some (.bool b) ∧ sl[2]? = some (.bool c) ∧ sl[3]? = some (.bool i) := by
  obtain ⟨xs, n, _, hx, _, hlen, hf⟩ := DataW.trod_struct Tryd.underlying83 h
  have hx1 : xs.map (·.1) = [.lit (.bool a), .lit (.bool b), .lit (.bool c), .lit (.bool i)] := by
    have := congrArg Prod.fst hx
    simpa using this.symm
  match xs, hlen, hx1, hf with
  | [y0, y1, y2, y3], _, hx1, hf =>
    simp only [List.map_cons, List.map_nil, List.cons.injEq, and_true] at hx1
    obtain ⟨e0, e1, e2, e3⟩ := hx1
    have h0 := hf 0 _ rfl
    have h1 := hf 1 _ rfl
    have h2 := hf 2 _ rfl
    have h3 := hf 3 _ rfl
    obtain ⟨z0, hc0, hy0⟩ := DataW.trod_bool Tryd.underlying4 h0
    obtain ⟨z1, hc1, hy1⟩ := DataW.trod_bool Tryd.underlying4 h1
    obtain ⟨z2, hc2, hy2⟩ := DataW.trod_bool Tryd.underlying4 h2
    obtain ⟨z3, hc3, hy3⟩ := DataW.trod_bool Tryd.underlying4 h3
    rw [hy0] at e0
    rw [hy1] at e1
    rw [hy2] at e2
    rw [hy3] at e3
    simp only [DataW.lit.injEq, Lit.bool.injEq] at e0 e1 e2 e3
    subst e0 e1 e2 e3
    exact ⟨take_one hc0, take_one hc1, take_one hc2, take_one hc3⟩

theorem row_at {t e : TypeId} {n c : Nat} {fuel : Nat} {cs : List Value} {rows : List (DataW Unit)} {p : List MemPlace} (ht : Tryd.prog.underlying t = some (.array n e)) (hc : Tryd.prog.cellsOf e = c)
    (h : DataW.trod enc Tryd.prog w base sp held fuel t cs = some (.agg rows, p)) (i : Nat) (hi : i < n) :
    ∃ m d q, rows[i]? = some d ∧ DataW.trod enc Tryd.prog w base sp held m e ((cs.drop (i * c)).take c) = some (d, q) := by
  obtain ⟨xs, m, _, hx, _, hlen, hf⟩ := DataW.trod_array ht h
  rw [hc] at hf
  have h1 : xs.map (·.1) = rows := by
    have := congrArg Prod.fst hx
    simpa using this.symm
  have h2 := hf i hi
  have h3 : xs[i]? = some xs[i] := List.getElem?_eq_getElem (by omega)
  rw [h3] at h2
  exact ⟨m, xs[i].1, xs[i].2, by rw [← h1]; simp [h3], h2⟩

theorem ops_cells {fuel : Nat} {cs : List Value} {p : List MemPlace} (h : DataW.trod enc Tryd.prog w base sp held fuel 71 cs = some (opsD Unit, p)) (i : Nat) (hi : i < 31) (j : Nat) (hj : j < 3) : cs[i * 3 + j]? = (Is.rowAt i)[j]? := by
  obtain ⟨m, d, q, hd, ht⟩ := row_at (c := 3) Tryd.underlying71 (by kernel_rfl) h i hi
  have e : d = .agg [.lit (.string (Is.nameAt i).data.toList), .lit (.int .i64 (Is.formAt i)), .lit (.int .i64 (Is.costAt i))] := by
    simpa [hi] using hd.symm
  rw [e] at ht
  obtain ⟨a0, a1, a2⟩ := op_row ht
  have go : ∀ j, j < 3 → ((cs.drop (i * 3)).take 3)[j]? = cs[i * 3 + j]? := fun j hj => by simp [hj]
  rw [← go j hj]
  match j, hj with
  | 0, _ => rw [a0]; rfl
  | 1, _ => rw [a1]; rfl
  | 2, _ => rw [a2]; rfl

theorem shapes_cells {fuel : Nat} {cs : List Value} {p : List MemPlace} (h : DataW.trod enc Tryd.prog w base sp held fuel 84 cs = some (shapesD Unit, p)) (i : Nat) (hi : i < 8) (j : Nat) (hj : j < 4) : cs[i * 4 + j]? = (Is.shapeAt i)[j]? := by
  obtain ⟨m, d, q, hd, ht⟩ := row_at (c := 4) Tryd.underlying84 (by kernel_rfl) h i hi
  have e : d = .agg [.lit (.bool (Is.hasA i)), .lit (.bool (Is.hasB i)), .lit (.bool (Is.hasC i)), .lit (.bool (Is.hasI i))] := by
    simpa [hi] using hd.symm
  rw [e] at ht
  obtain ⟨a0, a1, a2, a3⟩ := shape_row ht
  have go : ∀ j, j < 4 → ((cs.drop (i * 4)).take 4)[j]? = cs[i * 4 + j]? := fun j hj => by simp [hj]
  rw [← go j hj]
  match j, hj with
  | 0, _ => rw [a0]; rfl
  | 1, _ => rw [a1]; rfl
  | 2, _ => rw [a2]; rfl
  | 3, _ => rw [a3]; rfl
end

theorem block_of_var {W : World} {n : String} {g : Nat} {cs : Array Value} (hg : Tryd.prog.globalNamed n = some g) (h : W.var? Tryd.prog n = some cs) : ∃ t fr, W.heap[g]? = some (.cells cs t fr) := by
  simp only [World.var?, hg, Option.bind_some] at h
  split at h
  · rename_i c t fr hh
    cases h
    exact ⟨t, fr, hh⟩
  · cases h

/-! ### The letters -/
def letsD (H : Type) : DataW H := .agg ((List.range 8).map fun i : Nat => .lit (.string (letW (i : Int))))
theorem lets_laid : (Rows.laid_bulkhead_asm_letters : DataW Unit) = letsD Unit := by kernel_rfl
theorem lets_cells {enc : TypeId × Value → Unit} {w : World} {base : Nat} {sp : Nat → Bool} {held : Bool} {fuel : Nat} {cs : List Value} {p : List MemPlace} (h : DataW.trod enc Tryd.prog w base sp held fuel 50 cs = some (letsD Unit, p)) (i : Nat) (hi : i < 8) : cs[i]? = some (.string (bst (letW (i : Int)))) := by
  obtain ⟨m, d, q, hd, ht⟩ := row_at (c := 1) Tryd.underlying50 (by kernel_rfl) h i hi
  have e : d = .lit (.string (letW (i : Int))) := by
    simpa [hi] using hd.symm
  rw [e] at ht
  obtain ⟨s, hc0, hy0, _⟩ := DataW.trod_string Tryd.underlying9 ht
  have hs : letW (i : Int) = s.data.toList := by
    have := congrArg Prod.fst hy0
    simpa only [DataW.lit.injEq, Lit.string.injEq] using this
  have := take_one hc0
  rw [Nat.mul_one] at this
  rw [this, hs, bst_list]

def laidL : List (String × DataW Unit) := [("math/bits.deBruijn32tab", Rows.laid_math_bits_deBruijn32tab), ("math/bits.deBruijn64tab", Rows.laid_math_bits_deBruijn64tab), ("internal/strconv.uint64pow10", Rows.laid_internal_strconv_uint64pow10), ("bulkhead/isa.operations", Rows.laid_bulkhead_isa_operations), ("bulkhead/isa.shapes", Rows.laid_bulkhead_isa_shapes), ("bulkhead/asm.letters", Rows.laid_bulkhead_asm_letters)]
theorem pow_laid : (Rows.laid_internal_strconv_uint64pow10 : DataW Unit) = Lib.tabData .u64 Lib.pow10Tab := by kernel_rfl
theorem pos_of {α : Type} {cs : Array α} {v : α} (h : cs.toList[0]? = some v) : 0 < cs.size := by
  have := (List.getElem?_eq_some_iff.1 h).1
  simpa using this
theorem tabs_of_laid {W : World} (h0 : laidMetH Tryd.prog laidL W) : Tabs W := by
  rw [MakeChecks.laidMetH_plain _ _ _ (by kernel_rfl)] at h0
  obtain ⟨ps, hv, _, hz⟩ := h0
  unfold laidL at hv
  obtain ⟨g1, t1, cs1, f1, p1, q1, _, _, _, _, ⟨g2, t2, cs2, f2, p2, q2, _, _, _, _, ⟨g3, t3, cs3, f3, p3, q3, hg3, ht3, hvar3, hd3, ⟨g, t, cs, fuel, p, q, hg, ht, hvar, hd, ⟨g', t', cs', fuel', p', q', hg', ht', hvar', hd', ⟨gl, tl, csl, fl, pl, ql, hgl, htl, hvarl, hdl, hql, hpsl⟩, hps'⟩, hps⟩, hps3⟩, hps2⟩, hps1⟩ := hv
  obtain rfl := Option.some.inj (pow_at.symm.trans hg3)
  obtain rfl := Option.some.inj ((show (Tryd.prog.globals[3]?).map (·.type) = some 91 by kernel_rfl).symm.trans ht3)
  obtain rfl := Option.some.inj ((show Tryd.prog.globalNamed "bulkhead/isa.operations" = some 1 by kernel_rfl).symm.trans hg)
  obtain rfl := Option.some.inj ((show Tryd.prog.globalNamed "bulkhead/isa.shapes" = some 2 by kernel_rfl).symm.trans hg')
  obtain rfl := Option.some.inj ((show Tryd.prog.globalNamed "bulkhead/asm.letters" = some 0 by kernel_rfl).symm.trans hgl)
  obtain rfl := Option.some.inj ((show (Tryd.prog.globals[1]?).map (·.type) = some 71 by kernel_rfl).symm.trans ht)
  obtain rfl := Option.some.inj ((show (Tryd.prog.globals[2]?).map (·.type) = some 84 by kernel_rfl).symm.trans ht')
  obtain rfl := Option.some.inj ((show (Tryd.prog.globals[0]?).map (·.type) = some 50 by kernel_rfl).symm.trans htl)
  rw [pow_laid] at hd3
  rw [ops_laid] at hd
  rw [shapes_laid] at hd'
  rw [lets_laid] at hdl
  have c1 := ops_cells hd
  have c2 := shapes_cells hd'
  have c3 := lets_cells hdl
  have n1 : 0 < cs.size := pos_of ((c1 0 (by omega) 0 (by omega)).trans rfl)
  have n2 : 0 < cs'.size := pos_of ((c2 0 (by omega) 0 (by omega)).trans rfl)
  have n3 : 0 < csl.size := pos_of (c3 0 (by omega))
  obtain ⟨ty, fr, hb⟩ := block_of_var hg hvar
  obtain ⟨ty', fr', hb'⟩ := block_of_var hg' hvar'
  obtain ⟨tyl, frl, hbl⟩ := block_of_var hgl hvarl
  have m1 : MemPlace.cell 1 0 ∈ MemPlace.row ⟨1, 0, none⟩ cs.size := by
    simp [MemPlace.row]; omega
  have m2 : MemPlace.cell 2 0 ∈ MemPlace.row ⟨2, 0, none⟩ cs'.size := by
    simp [MemPlace.row]; omega
  have m3 : MemPlace.cell 0 0 ∈ MemPlace.row ⟨0, 0, none⟩ csl.size := by
    simp [MemPlace.row]; omega
  obtain ⟨⟨c, tc, e⟩, _⟩ := hz 1 0 (by rw [hps1, hps2, hps3, hps]; simp [m1])
  obtain ⟨⟨c', tc', e'⟩, _⟩ := hz 2 0 (by rw [hps1, hps2, hps3, hps, hps']; simp [m2])
  obtain ⟨⟨cl, tcl, el⟩, _⟩ := hz 0 0 (by rw [hps1, hps2, hps3, hps, hps', hpsl]; simp [m3])
  have hb2 := hb.symm.trans e
  have hb2' := hb'.symm.trans e'
  have hb2l := hbl.symm.trans el
  simp only [Option.some.injEq, Obj.cells.injEq] at hb2 hb2' hb2l
  obtain ⟨rfl, rfl, rfl⟩ := hb2
  obtain ⟨rfl, rfl, rfl⟩ := hb2'
  obtain ⟨rfl, rfl, rfl⟩ := hb2l
  refine ⟨⟨⟨cs, ty, e, fun i hi j hj => by rw [← c1 i hi j hj]; simp⟩, cs', ty', e', fun i hi j hj => by rw [← c2 i hi j hj]; simp⟩, ⟨csl, tyl, el, fun k hk => by rw [← c3 k hk]; simp⟩, ?_⟩
  unfold Lib.TabIs
  rw [hvar3, ← Lib.cells_of_tab Tryd.underlying91 Tryd.underlying45 (by kernel_rfl) (by kernel_rfl) hd3]
end Go.Proofs.YtohojpacijnnaaaDoor
