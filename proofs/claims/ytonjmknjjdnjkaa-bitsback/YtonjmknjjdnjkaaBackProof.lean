import Derived.Test.YtonjmknjjdnjkaaRows
import Derived.Test.YtonjmknjjdnjkaaBack
import Derived.WalkKit
import Derived.ProofKit
import Derived.OpenShut
import Derived.ChangeOld
import Derived.Below
import Derived.SizedLaws
import Derived.Deep.Slices
import Derived.Deep.Strs
namespace Go.Proofs.Ytonjmknjjdnjkaa.bitsBack
open Go.ChangeShapes Go.WideShapes Go.ChangeAt Go.RowKit Go.Deep
set_option linter.unusedVariables false

theorem own : ownKnob Try.prog.godebug = none := by kernel_rfl
theorem laidOut : laidOutB Try.prog = true := by kernel_rfl
theorem cells63 : Try.prog.cellsOf 63 = 3 := by kernel_rfl
theorem cells3 : Try.prog.cellsOf 3 = 1 := by kernel_rfl
theorem cells37 : Try.prog.cellsOf 37 = 1 := by kernel_rfl
theorem cells9 : Try.prog.cellsOf 9 = 1 := by kernel_rfl

theorem wf_u32 {n : Int} (h : (Lit.int .u32 n).wf = true) : 0 ≤ n ∧ n < 4294967296 := by
  have : 0 ≤ n ∧ n ≤ 4294967295 := by simpa [Lit.wf, IntKind.min, IntKind.max, IntKind.signed, IntKind.bits] using h
  omega
theorem wf_u64 {n : Int} (h : (Lit.int .u64 n).wf = true) : 0 ≤ n ∧ n < 18446744073709551616 := by
  have : 0 ≤ n ∧ n ≤ 18446744073709551615 := by simpa [Lit.wf, IntKind.min, IntKind.max, IntKind.signed, IntKind.bits] using h
  omega
theorem wf_i64 {n : Int} (h : (Lit.int .i64 n).wf = true) : -9223372036854775808 ≤ n ∧ n ≤ 9223372036854775807 := by
  simpa [Lit.wf, IntKind.min, IntKind.max, IntKind.signed, IntKind.bits] using h

theorem all_mem {H : Type} {P : Program} {e : TypeId} : ∀ {l : List (DataW H)} {d : DataW H}, d ∈ l → ∀ n ∈ d.weights P e, n ∈ DataW.weightsAll P e l := by
  intro l
  induction l with
  | nil => intro d hd; cases hd
  | cons x r ih =>
    intro d hd n hn
    simp only [DataW.weightsAll, List.mem_append]
    rcases List.mem_cons.1 hd with h | h
    · left; rw [← h]; exact hn
    · right; exact ih h n hn

set_option maxRecDepth 100000 in
/-- A list of words that came in. -/
theorem words_in {H : Type} {enc : TypeId × Value → H} {W : World} {v : Value} {d : DataW H} {p : List MemPlace} {base : Nat} (hv : Value.okWide Try.prog W .any base 39 v)
    (h : DataW.Trod enc Try.prog W 0 (fun _ => true) true 39 v d p) : ∃ a ws c, v = .slice a (List.length (α := UInt32) ws) c ∧ ws.length ≤ maxLen ∧ SegW W a ws := by
  obtain ⟨a0, len, cap, rfl⟩ := okWide_slice Try.underlying39 hv
  obtain ⟨fuel, hf⟩ := h
  rcases open_ints Try.underlying39 Try.underlying36 (by kernel_rfl) hf with ⟨hcs, _⟩ | ⟨x, l, c, zs, hcs, _, hl, hm, hz, _, hcell, hwz⟩
  · simp [Value.cells] at hcs
    obtain ⟨rfl, rfl, rfl⟩ := hcs
    exact ⟨none, [], 0, rfl, Nat.zero_le _, .inl rfl⟩
  · simp [Value.cells] at hcs
    obtain ⟨rfl, rfl, rfl⟩ := hcs
    have hz' : zs.length = cap := by simpa using hz
    have hlen : ((zs.take len).map fun z => UInt32.ofNat z.toNat).length = len := by simp; omega
    refine ⟨some x, (zs.take len).map fun z => UInt32.ofNat z.toNat, cap, by rw [hlen], by rw [hlen]; omega, ?_⟩
    by_cases h0 : len = 0
    · exact .inl (List.eq_nil_of_length_eq_zero (by rw [hlen]; exact h0))
    · obtain ⟨b, off, spot⟩ := x
      have hc := hcell 0 (by omega)
      have hspot : spot = none := by simpa [Addr.add] using World.cell?_spot hc
      subst hspot
      refine .inr ⟨b, off, rfl, fun j hj => ?_⟩
      rw [hlen] at hj
      have h1 := hcell j (by omega)
      rw [addr_add] at h1
      rw [h1]
      have hj' : j < zs.length := by omega
      have h2 := wf_u32 (hwz zs[j] (List.getElem_mem _))
      have e1 : zs.getD j 0 = zs[j] := by simp [List.getD, hj']
      have e2 : ((zs.take len).map fun z => UInt32.ofNat z.toNat)[j]'(by rw [hlen]; exact hj) = UInt32.ofNat zs[j].toNat := by simp
      rw [e1, e2, UInt32.toNat_ofNat']
      congr 2
      omega

set_option maxRecDepth 100000 in
/-- A list of items that came in. -/
theorem items_in {H : Type} {enc : TypeId × Value → H} {W : World} {v : Value} {d : DataW H} {p : List MemPlace} {base : Nat} (hv : Value.okWide Try.prog W .any base 56 v)
    (h : DataW.Trod enc Try.prog W 0 (fun _ => true) true 56 v d p) (hw : ∀ n ∈ d.weights Try.prog 56, n ≤ reachBytes) :
    ∃ a its c, v = .slice a (List.length (α := Int × Nat × ByteArray) its) c ∧ its.length ≤ maxLen ∧ ItemsAt W a its ∧ ∀ it ∈ its, Fine it := by
  obtain ⟨a0, len, cap, rfl⟩ := okWide_slice Try.underlying56 hv
  obtain ⟨fuel, hf⟩ := h
  rcases open_slice Try.underlying56 hf with ⟨hcs, _⟩ | ⟨x, l, c, m, n, D, Pl, hcs, _, hl, hm, hmm, hx, hcell⟩
  · simp [Value.cells] at hcs
    obtain ⟨rfl, rfl, rfl⟩ := hcs
    exact ⟨none, [], 0, rfl, Nat.zero_le _, .inl rfl, fun it hit => by cases hit⟩
  · simp [Value.cells] at hcs
    obtain ⟨rfl, rfl, rfl⟩ := hcs
    have hmc : m = cap := by simpa using hmm
    subst hmc
    have hd : d = .slice ((List.range len).map D) ((List.range (m - len)).map fun j => D (len + j)) := by
      have := congrArg Prod.fst hx
      exact this
    have each : ∀ i, i < len → ∃ it : Int × Nat × ByteArray, W.cell? (x.add (i * 3)) = some (.int .i64 it.1) ∧ W.cell? (x.add (i * 3 + 1)) = some (.int .u64 (it.2.1 : Int)) ∧ W.cell? (x.add (i * 3 + 2)) = some (.string it.2.2) ∧ Fine it := by
      intro i hi
      obtain ⟨cs', h1, h2⟩ := hcell i (by omega)
      rw [cells63] at h1
      obtain ⟨_, hlen3, hc3⟩ := World.cells?_some h1
      obtain ⟨y0, y1, y2, k, hxy, _, g0, g1, g2⟩ := trod_struct3 Try.underlying63 h2
      obtain ⟨c0, c1, c2, rfl⟩ : ∃ c0 c1 c2, cs' = [c0, c1, c2] := by
        match cs', hlen3 with
        | [c0, c1, c2], _ => exact ⟨c0, c1, c2, rfl⟩
      obtain ⟨K, e0, _, wK⟩ := DataW.trod_int Try.underlying3 g0
      obtain ⟨N, e1, _, wN⟩ := DataW.trod_int Try.underlying37 g1
      obtain ⟨s, e2, f2, _⟩ := DataW.trod_string Try.underlying9 g2
      simp [cells3, cells37, cells9] at e0 e1 e2
      subst e0 e1 e2
      have bK := wf_i64 wK
      have bN := wf_u64 wN
      obtain ⟨M, rfl⟩ : ∃ M : Nat, N = (M : Int) := ⟨N.toNat, by omega⟩
      have q0 := hc3 0 (by omega)
      have q1 := hc3 1 (by omega)
      have q2 := hc3 2 (by omega)
      rw [add_add] at q0 q1 q2
      have hDi : D i = .agg [y0.1, y1.1, y2.1] := congrArg Prod.fst hxy
      have hsz : s.size ≤ reachBytes := by
        refine hw s.size ?_
        rw [hd]
        have hmem : D i ∈ (List.range len).map D := List.mem_map.2 ⟨i, List.mem_range.2 hi, rfl⟩
        have hin : s.size ∈ (D i).weights Try.prog 63 := by
          rw [hDi, f2]
          simp only [DataW.weights, Try.underlying63]
          have h9 : ([3, 37, 9] : List TypeId)[2]? = some 9 := rfl
          exact DataW.weights_mem_each (ts := [3, 37, 9]) (j := 2) h9 rfl _ (by simp [DataW.weights])
        have := all_mem hmem _ hin
        simp only [DataW.weights, Try.underlying56, List.mem_cons, List.mem_append]
        exact .inr (.inl this)
      have bM : M < 18446744073709551616 := by omega
      exact ⟨(K, M, s), by simpa using q0, by simpa using q1, by simpa using q2, bK.1, bK.2, bM, Nat.le_trans hsz (by decide)⟩
    obtain ⟨V, hV⟩ := choose_lt each
    have hlen : ((List.range len).map V).length = len := by simp
    refine ⟨some x, (List.range len).map V, m, by rw [hlen], by rw [hlen]; omega, ?_, ?_⟩
    · by_cases h0 : len = 0
      · exact .inl (List.eq_nil_of_length_eq_zero (by rw [hlen]; exact h0))
      · obtain ⟨b, off, spot⟩ := x
        have hc := (hV 0 (by omega)).1
        have hspot : spot = none := by simpa [Addr.add] using World.cell?_spot hc
        subst hspot
        refine .inr ⟨b, off, rfl, fun j hj => ?_⟩
        rw [hlen] at hj
        obtain ⟨q0, q1, q2, _⟩ := hV j hj
        rw [addr_add] at q0 q1 q2
        have e2 : ((List.range len).map V)[j]'(by rw [hlen]; exact hj) = V j := by simp
        rw [e2]
        exact ⟨q0, q1, q2⟩
    · intro it hit
      obtain ⟨i, hi, rfl⟩ := List.mem_map.1 hit
      exact (hV i (List.mem_range.1 hi)).2.2.2

set_option maxRecDepth 100000 in
theorem lifted (os : Os) (started : os.Started) (H : Type) (enc : TypeId × Value → H) :
    ReturnsInHanded {} Try.checked os 6 .any (Rows.bitsBackSpec.pre6 enc Try.prog Try.f6 Rows.bitsBackRow.domain false) (Rows.bitsBackSpec.post enc Try.prog Try.f6 false true false false) := by
  refine returnsInHanded_of_change_sized (C := Try.checked) own started (by kernel_rfl) Try.func6
    (ChangeSpec.witness6 (enc := enc) (C := Try.checked) false ⟨#[], #[.slice none 0 0, .int .i64 0, .slice none 0 0], []⟩ 8 (by kernel_rfl) (by kernel_rfl) (by kernel_rfl) (by kernel_rfl)) ?_
  intro W base args ds gs before hval0 hW hcnd hsz0 _
  have hval : ∀ (j : Nat) t v, Try.f6.params[j]? = some t → args[j]? = some v → Value.okWide Try.prog W .any base t v := hval0
  have hsz : (DataW.weightsEach Try.prog (Try.f6.params.toList ++ Rows.bitsBackSpec.plain.varTypes Try.prog) (ds ++ gs)).all (· ≤ reachBytes) = true := hsz0
  have hW' := hW
  obtain ⟨p, q, hA0, hV, rfl, hfz, hnd⟩ := hW
  have hA : DataW.TrodAll enc Try.prog W 0 (fun _ => true) true Try.f6.params.toList args.toList ds p := hA0
  rw [Try.params6] at hA hval hsz
  obtain ⟨v0, vs0, d0, ds0, p0, q0, hargs, rfl, rfl, h0, r0⟩ := trodAll_cons hA
  obtain ⟨v1, vs1, d1, ds1, p1, q1, rfl, rfl, rfl, h1, r1⟩ := trodAll_cons r0
  obtain ⟨v2, vs2, d2, ds2, p2, q2, rfl, rfl, rfl, h2, r2⟩ := trodAll_cons r1
  obtain ⟨rfl, rfl, rfl⟩ := trodAll_nil r2
  obtain rfl : args = #[v0, v1, v2] := by cases args; simp_all
  obtain ⟨rfl, rfl⟩ := trodVars_none hV
  have k0 := h0
  have lt0 : ∀ x ∈ p0, x.block < W.heap.size := by obtain ⟨m, hm⟩ := k0; exact DataW.trod_lt m _ _ _ hm
  have k2 := h2
  have lt2 : ∀ x ∈ p2, x.block < W.heap.size := by obtain ⟨m, hm⟩ := k2; exact DataW.trod_lt m _ _ _ hm
  have hw0 : ∀ n ∈ d0.weights Try.prog 56, n ≤ reachBytes := fun n hn => by
    have := List.all_eq_true.1 hsz _ (DataW.weights_mem_each (j := 0) rfl rfl n hn)
    simpa using this
  obtain ⟨a, its, c, rfl, hl, hits, hfine⟩ := items_in (hval 0 56 v0 rfl rfl) h0 hw0
  obtain ⟨a2, ws, c2, rfl, hwl, hws⟩ := words_in (hval 2 39 v2 rfl rfl) h2
  obtain ⟨a1, rfl, rfl, rfl, w1⟩ := open_int Try.underlying3 (hval 1 3 v1 rfl rfl) h1
  have b1 := wf_i64 w1
  clear hA0 hval0 hsz0 hsz
  refine Calls.mono (back_main a a2 c c2 its ws a1 W hits hfine hl hws hwl b1.1 b1.2) fun e W' ⟨he, hK⟩ => ?_
  have bel : Below W.heap.size W W' := hK.below (Nat.le_refl _) fun _ h => h.elim
  subst he
  exact ⟨_, rfl, _, _, _, [], _, [], hW', trodAll_mk1 (shut_bool Try.underlying4 _), (trodAll_cons_mk (Below.trod laidOut (by kernel_rfl) (of_decide_eq_true (by kernel_rfl)) k0 bel lt0) (trodAll_cons_mk (shut_int Try.underlying3 w1) (trodAll_cons_mk (Below.trod laidOut (by kernel_rfl) (of_decide_eq_true (by kernel_rfl)) k2 bel lt2) trodAll_mk0))), rfl, bel.frame _, fun h => by cases h⟩

theorem over : Rows.bitsBackRow.holds Try.pinned (OpenSpec.ofChange Rows.bitsBackSpec) :=
  OpenClaim.holds_of_wide 6 Try.f6 rfl rfl rfl rfl rfl rfl rfl ⟨rfl, rfl, rfl, rfl, rfl⟩ rfl rfl rfl rfl rfl (by kernel_rfl) Try.func6 (by kernel_rfl)
    (of_decide_eq_true (by kernel_rfl)) (by unfold Func.isWrapper; first | (rw [if_pos (by decide +kernel)]; kernel_rfl) | (rw [if_neg (by decide +kernel)]; exact ⟨rfl, rfl⟩))
    (fun os started H enc _ => lifted os started H enc)
end Go.Proofs.Ytonjmknjjdnjkaa.bitsBack
namespace Go.Proofs.Ytonjmknjjdnjkaa
theorem bitsBack_holds : Rows.BitsBackSaid := bitsBack.over
end Go.Proofs.Ytonjmknjjdnjkaa
