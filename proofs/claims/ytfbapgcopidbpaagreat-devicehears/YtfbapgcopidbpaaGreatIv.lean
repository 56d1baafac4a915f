import Derived.Test.YtfbapgcopidbpaaGreatIn
namespace Go.Proofs.YtfbapgcopidbpaaGreat
open Go.ChangeShapes Go.WideShapes Go.ChangeAt Go.RowKit Go.Deep
set_option linter.unusedVariables false
set_option maxRecDepth 100000

def eI : Elem Int := ⟨fun n => [.int .i64 n], 1, 3, fun _ => rfl, by decide, fun _ n => I64 n, fun _ => [], fun h _ _ => h⟩
/-- A list of ints that came in. -/
theorem ints_in {H : Type} {enc : TypeId × Value → H} {W : World} {v : Value} {d : DataW H} {p : List MemPlace} {base : Nat} (hv : Value.okWide Tryz.prog W .any base 48 v)
    (h : DataW.Trod enc Tryz.prog W 0 (fun _ => true) true 48 v d p) : ∃ a l c, v = .slice a (List.length (α := Int) l) c ∧ (l.length ≤ c ∧ c ≤ maxLen) ∧ SegA (fun n : Int => [.int .i64 n]) 1 W a l ∧ ∀ n ∈ l, I64 n := by
  obtain ⟨a0, len, cap, rfl⟩ := okWide_slice Tryz.underlying48 hv
  obtain ⟨fuel, hf⟩ := h
  obtain ⟨a, ls, c, hcs, hl, hs, hF⟩ := list_cell eI 48 Tryz.underlying48 cells3 (fun cs x fuel hlen ht => by
    obtain ⟨K, e, _, w⟩ := DataW.trod_int Tryz.underlying3 ht
    exact ⟨K, e, wf_i64 w⟩) hf
  simp [Value.cells] at hcs
  obtain ⟨rfl, rfl, rfl⟩ := hcs
  exact ⟨_, ls, _, rfl, hl, hs, hF⟩
end Go.Proofs.YtfbapgcopidbpaaGreat
