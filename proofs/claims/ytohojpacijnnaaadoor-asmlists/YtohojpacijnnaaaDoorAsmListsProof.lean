import Derived.Test.YtohojpacijnnaaaDoorCards
import Derived.Test.YtohojpacijnnaaaDoorTie
import Derived.Test.YtohojpacijnnaaaDoorIn
import Derived.SizedLaws
import Derived.ProofKit
import Derived.OpenShut
import Derived.ChangeOld
import Derived.ChangeSame
import Derived.WideShapes
import Derived.Below
import Derived.Deep.DeepHandedRow
import Derived.Deep.DeepLaidRun
import Derived.Lib.LaidTab
import Derived.MakeChecks
namespace Go.Proofs.YtohojpacijnnaaaDoor.asmLists
open Go.ChangeShapes Go.WideShapes Go.ChangeAt Go.RowKit Go.Deep
set_option linter.unusedVariables false
set_option maxRecDepth 6000

set_option maxRecDepth 100000 in
theorem contract (H : Type) (enc : TypeId × Value → H) (W : World) (base : Nat) (args : Array Value) (ds gs : List (DataW H)) (before : List MemPlace) (hT : Tabs W)
    (hval0 : ∀ (j : Nat) t v, Tryd.f3.params[j]? = some t → args[j]? = some v → Value.okWide Tryd.prog W .any base t v)
    (hW : DataW.Whole enc Tryd.prog Tryd.f3.params.toList Rows.asmListsSpec.vars false W args.toList ds gs before)
    (hsz : (DataW.weightsEach Tryd.prog (Tryd.f3.params.toList ++ (OpenSpec.ofChange Rows.asmListsSpec).bare.plain.varTypes Tryd.prog) (ds ++ gs)).all (· ≤ reachBytes) = true) :
    Calls Tryd.prog 3 args W fun e W' => ∃ v, e = .returned v ∧ Rows.asmListsSpec.post enc Tryd.prog Tryd.f3 false true false false W args v W' := by
  have hval : ∀ (j : Nat) t v, Tryd.f3.params[j]? = some t → args[j]? = some v → Value.okWide Tryd.prog W .any base t v := hval0
  have hW' := hW
  obtain ⟨p, q, hA0, hV, rfl, hfz, hnd⟩ := hW
  have hA : DataW.TrodAll enc Tryd.prog W 0 (fun _ => true) true Tryd.f3.params.toList args.toList ds p := hA0
  rw [Tryd.params3] at hA hval hsz
  obtain ⟨v0, vs0, d0, ds0, p0, q0, hargs, rfl, rfl, h0, r0⟩ := trodAll_cons hA
  obtain ⟨v1, vs1, d1, ds1, p1, q1, rfl, rfl, rfl, h1, r1⟩ := trodAll_cons r0
  obtain ⟨rfl, rfl, rfl⟩ := trodAll_nil r1
  obtain rfl : args = #[v0, v1] := by cases args; simp_all
  obtain ⟨rfl, rfl⟩ := trodVars_none hV
  have k0 := h0
  have lt0 : ∀ x ∈ p0, x.block < W.heap.size := by obtain ⟨m, hm⟩ := k0; exact DataW.trod_lt m _ _ _ hm
  have k1 := h1
  have lt1 : ∀ x ∈ p1, x.block < W.heap.size := by obtain ⟨m, hm⟩ := k1; exact DataW.trod_lt m _ _ _ hm
  have z0 : ∀ q ∈ DataW.weights Tryd.prog 22 d0, q ≤ reachBytes := fun q hq => by
    have := List.all_eq_true.1 hsz q (DataW.weights_mem_each (j := 0) (t := 22) (d := d0) rfl rfl q hq)
    simpa using this
  have z1 : ∀ q ∈ DataW.weights Tryd.prog 22 d1, q ≤ reachBytes := fun q hq => by
    have := List.all_eq_true.1 hsz q (DataW.weights_mem_each (j := 1) (t := 22) (d := d1) rfl rfl q hq)
    simpa using this
  obtain ⟨a0, x0, c0, rfl, s0, l0⟩ := words_in (hval 0 22 v0 rfl rfl) h0 z0
  obtain ⟨a1, x1, c1, rfl, s1, l1⟩ := words_in (hval 1 22 v1 rfl rfl) h1 z1
  clear hA0 hval0
  simp only [List.append_nil] at hW'
  refine Calls.mono (law_any a0 c0 x0 _ rfl a1 c1 x1 _ rfl W hT s0 s1 l0 (by omega)) fun e W' ⟨he, hK⟩ => ?_
  have bel : Below W.heap.size W W' := hK.below (Nat.le_refl _) fun _ h => h.elim
  subst he
  exact ⟨_, rfl, _, _, _, [], _, [], hW', trodAll_mk1 (shut_bool Tryd.underlying4 _), (trodAll_cons_mk (Below.trod laidOut (by kernel_rfl) (of_decide_eq_true (by kernel_rfl)) k0 bel lt0) (trodAll_cons_mk (Below.trod laidOut (by kernel_rfl) (of_decide_eq_true (by kernel_rfl)) k1 bel lt1) trodAll_mk0)), rfl, bel.frame _, fun h => by cases h⟩

def valOf : DataW Unit → Value
  | .lit (.int k z) => .int k z
  | _ => .bool false
def tabOf : DataW Unit → Array Value
  | .agg l => (l.map valOf).toArray
  | _ => #[]
def put (c : Array Value) : Obj → Obj
  | .cells _ t frozen => .cells c t frozen
  | o => o
def tabO : Array Value := ((List.range 31).flatMap Is.rowAt).toArray
def tabS : Array Value := ((List.range 8).flatMap Is.shapeAt).toArray
def tabL : Array Value := ((List.range 8).map fun i : Nat => Value.string (bst (letW (i : Int)))).toArray
def lay (w : World) : World := { w with heap := (((((w.heap.modify 3 (put (tabOf Rows.laid_internal_strconv_uint64pow10))).modify 4 (put (tabOf Rows.laid_math_bits_deBruijn32tab))).modify 5 (put (tabOf Rows.laid_math_bits_deBruijn64tab))).modify 1 (put tabO)).modify 2 (put tabS)).modify 0 (put tabL) }
theorem laid_met (os : Os) : laidMet Tryd.prog Rows.asmListsRow.laid ((lay (World.holding Tryd.prog os ⟨#[], #[.slice none 0 0, .slice none 0 0], []⟩)).forCall (fun _ _ => 0) ⟨#[], #[.slice none 0 0, .slice none 0 0], []⟩).memory :=
  laidMet_of_run' 8 (by kernel_rfl) (by kernel_rfl)
theorem reads (os : Os) {H : Type} (enc : TypeId × Value → H) : ∃ ds places, DataW.whole enc Tryd.prog ((lay (World.holding Tryd.prog os ⟨#[], #[.slice none 0 0, .slice none 0 0], []⟩)).forCall (fun _ _ => 0) ⟨#[], #[.slice none 0 0, .slice none 0 0], []⟩).memory Tryd.f3.params.toList Rows.asmListsSpec.vars false (#[.slice none 0 0, .slice none 0 0] : Array Value).toList 8 = some (ds, [], places) := by
  have h2 : (DataW.whole enc Tryd.prog ((lay (World.holding Tryd.prog os ⟨#[], #[.slice none 0 0, .slice none 0 0], []⟩)).forCall (fun _ _ => 0) ⟨#[], #[.slice none 0 0, .slice none 0 0], []⟩).memory Tryd.f3.params.toList Rows.asmListsSpec.vars false (#[.slice none 0 0, .slice none 0 0] : Array Value).toList 8).map (fun x => x.2.1) = some [] := by kernel_rfl
  obtain ⟨⟨ds, gs, places⟩, hx, hg⟩ := Option.map_eq_some_iff.1 h2
  obtain rfl : gs = [] := hg
  exact ⟨ds, places, hx⟩

set_option maxRecDepth 100000 in
theorem lifted (os : Os) (started : os.Started) (H : Type) (enc : TypeId × Value → H) (F : Stop.Interp) :
    ReturnsInHanded {} Tryd.checked os 3 .any ((OpenSpec.ofChange Rows.asmListsSpec).preRow enc Tryd.prog Tryd.f3 Rows.asmListsRow.domain false Rows.asmListsRow.laid) (((OpenSpec.ofChange Rows.asmListsSpec).at F).post enc Tryd.prog Tryd.f3 false true false false) := by
  obtain ⟨ds, places, hx⟩ := reads os enc
  refine returnsInHanded_of_row (C := Tryd.checked) (s := OpenSpec.ofChange Rows.asmListsSpec) own started (by kernel_rfl) Tryd.func3
    (witness_row_at (enc := enc) (C := Tryd.checked) false (lay (World.holding Tryd.prog os ⟨#[], #[.slice none 0 0, .slice none 0 0], []⟩)) #[.slice none 0 0, .slice none 0 0] rfl (by kernel_rfl) (by kernel_rfl) (by kernel_rfl)
      (OpenSpec.preRow_of_cond 8 hx (by kernel_rfl) (fun k hk => by cases hk) (by kernel_rfl) (laid_met os))) ?_
  intro W base args ds gs before hval hW _ _ hsz hL _ _
  exact contract H enc W base args ds gs before (tabs_of_laid hL) hval hW hsz

theorem said : Rows.AsmListsSaid :=
  OpenClaim.holds_of_cond 3 Tryd.f3 rfl rfl rfl rfl rfl rfl rfl ⟨rfl, rfl, rfl, rfl, rfl⟩ rfl rfl rfl rfl rfl (by kernel_rfl) Tryd.func3 (by kernel_rfl)
    (of_decide_eq_true (by kernel_rfl)) (by unfold Func.isWrapper; first | (rw [if_pos (by decide +kernel)]; kernel_rfl) | (rw [if_neg (by decide +kernel)]; exact ⟨rfl, rfl⟩))
    (fun os started H enc _ F => by rw [OpenClaim.pre_eq_preRow]; exact lifted os started H enc F)

set_option maxRecDepth 100000 in
theorem plain (f : FuncId) (fn : Func) (hf : Tryd.pinned.checked.prog.funcNamed Rows.asmListsRow.func = some f) (hfn : Tryd.pinned.checked.prog.funcs[f]? = some fn) :
    false = Tryd.pinned.checked.prog.looks [] ∧ ∀ (j : Nat) t, fn.params[j]? = some t → Tryd.pinned.checked.prog.wantsStandIn t = false := by
  obtain rfl : f = 3 := Option.some.inj ((show Tryd.prog.funcNamed Rows.asmListsRow.func = some 3 by kernel_rfl).symm.trans hf) |>.symm
  obtain rfl : fn = Tryd.f3 := (Option.some.inj (Tryd.func3.symm.trans hfn)).symm
  refine ⟨by kernel_rfl, fun j t ht => ?_⟩
  rw [Tryd.params3] at ht
  match j, ht with
  | 0, ht =>
    have e : t = 22 := (Option.some.inj ht).symm
    rw [e]
    exact (by kernel_rfl : Tryd.pinned.checked.prog.wantsStandIn 22 = false)
  | 1, ht =>
    have e : t = 22 := (Option.some.inj ht).symm
    rw [e]
    exact (by kernel_rfl : Tryd.pinned.checked.prog.wantsStandIn 22 = false)
  | j + 2, ht => simp at ht
end Go.Proofs.YtohojpacijnnaaaDoor.asmLists
namespace Go.Proofs.YtohojpacijnnaaaDoor
theorem asmLists_holds : Rows.AsmListsCardSaid :=
  Claim7.holds_tied_plain_at .later [] _ _ _ _ asmLists.said (fun _ h => by cases h) (by kernel_rfl) (fun _ h => by cases h) asmLists_row_tie rfl ⟨rfl, rfl⟩ (by kernel_rfl) rfl asmLists.plain (by kernel_rfl)
end Go.Proofs.YtohojpacijnnaaaDoor
