import Derived.Test.YtjpilhnkhhhdeaaRows
import Derived.Test.YtjpilhnkhhhdeaaLawA
import Derived.WalkKit
import Derived.ProofKit
import Derived.OpenShut
import Derived.ChangeOld
import Derived.ChangeSame
import Derived.WideShapes
import Derived.Below
namespace Go.Proofs.Ytjpilhnkhhhdeaa
open Go.ChangeShapes Go.WideShapes Go.ChangeAt Go.RowKit
set_option linter.unusedVariables false

theorem own : ownKnob Try.prog.godebug = none := by kernel_rfl
theorem wf_u32 {n : Int} (h : (Lit.int .u32 n).wf = true) : ∃ k : Nat, n = (k : Int) ∧ k < 4294967296 := by
  have h : 0 ≤ n ∧ n ≤ 4294967295 := by simpa [Lit.wf, IntKind.min, IntKind.max, IntKind.signed, IntKind.bits] using h
  exact ⟨n.toNat, by omega, by omega⟩
theorem wf_u8 {n : Int} (h : (Lit.int .u8 n).wf = true) : ∃ k : Nat, n = (k : Int) ∧ k < 256 := by
  have h : 0 ≤ n ∧ n ≤ 255 := by simpa [Lit.wf, IntKind.min, IntKind.max, IntKind.signed, IntKind.bits] using h
  exact ⟨n.toNat, by omega, by omega⟩
theorem take_one {l : List Value} {n : Nat} {v : Value} (h : (l.drop n).take 1 = [v]) : l[n]? = some v := by
  have := congrArg (·[0]?) h
  simpa [List.getElem?_take, List.getElem?_drop] using this

/-! A question, opened and shut. -/
section
variable {H : Type} {enc : TypeId × Value → H} {W : World} {base b0 : Nat} {sp : Nat → Bool} {held : Bool}
def askD (H : Type) (op : Int) (x y : Nat) : DataW H := .agg [.lit (.int .i64 op), .lit (.int .u32 x), .lit (.int .u32 y)]
def Wf3 (op : Int) (x y : Nat) : Prop := (Lit.int .i64 op).wf = true ∧ (Lit.int .u32 x).wf = true ∧ (Lit.int .u32 y).wf = true ∧ x < 4294967296 ∧ y < 4294967296
theorem array3 {α : Type} {cs : Array α} (h : cs.size = 3) : ∃ c0 c1 c2, cs = #[c0, c1, c2] := by
  obtain ⟨l⟩ := cs
  match l, h with
  | [c0, c1, c2], _ => exact ⟨c0, c1, c2, rfl⟩

theorem ask_open {r : Reach} {v : Value} {d : DataW H} {p : List MemPlace} (hv : Value.okWide Try.prog W r b0 24 v) (h : DataW.Trod enc Try.prog W base sp held 24 v d p) :
    ∃ (op : Int) (x y : Nat), v = askV op x y ∧ d = askD H op x y ∧ p = [] ∧ Wf3 op x y := by
  obtain ⟨cs, rfl, hsz⟩ := okWide_struct Try.underlying24 hv
  obtain ⟨c0, c1, c2, rfl⟩ := array3 (hsz.trans (by kernel_rfl))
  obtain ⟨fuel, hf⟩ := h
  obtain ⟨xs, n, _, hx, _, hlen, hg⟩ := DataW.trod_struct Try.underlying24 hf
  match xs, hlen, hx, hg with
  | [y0, y1, y2], _, hx, hg =>
    have h0 := hg 0 _ rfl
    have h1 := hg 1 _ rfl
    have h2 := hg 2 _ rfl
    obtain ⟨z0, hc0, hy0, w0⟩ := DataW.trod_int Try.underlying3 h0
    obtain ⟨z1, hc1, hy1, w1⟩ := DataW.trod_int Try.underlying22 h1
    obtain ⟨z2, hc2, hy2, w2⟩ := DataW.trod_int Try.underlying22 h2
    have k0 : c0 = .int .i64 z0 := Option.some.inj (show ([c0, c1, c2] : List Value)[0]? = _ from take_one hc0)
    have k1 : c1 = .int .u32 z1 := Option.some.inj (show ([c0, c1, c2] : List Value)[1]? = _ from take_one hc1)
    have k2 : c2 = .int .u32 z2 := Option.some.inj (show ([c0, c1, c2] : List Value)[2]? = _ from take_one hc2)
    obtain ⟨x, rfl, hx'⟩ := wf_u32 w1
    obtain ⟨y, rfl, hy'⟩ := wf_u32 w2
    clear hc0 hc1 hc2 h0 h1 h2 hg hf hv hsz
    subst k0 k1 k2
    subst hy0 hy1 hy2
    simp only [Prod.mk.injEq, List.map_cons, List.map_nil, List.flatMap_cons, List.flatMap_nil, List.append_nil] at hx
    exact ⟨z0, x, y, rfl, hx.1, hx.2, w0, w1, w2, hx', hy'⟩

theorem ask_shut {op : Int} {x y : Nat} (h : Wf3 op x y) : DataW.Trod enc Try.prog W base sp held 24 (askV op x y) (askD H op x y) [] := by
  obtain ⟨h0, h1, h2, _, _⟩ := h
  refine ⟨2, ?_⟩
  have := trod_struct_mk (enc := enc) (w := W) (base := base) (spare := sp) (held := held) (n := 1) (cs := [.int .i64 op, .int .u32 (x : Int), .int .u32 (y : Int)])
    (xs := [(.lit (.int .i64 op), []), (.lit (.int .u32 (x : Int)), []), (.lit (.int .u32 (y : Int)), [])]) Try.underlying24 (by kernel_rfl)
    (by
      have hc : Try.prog.cellsOf 3 = 1 := by kernel_rfl
      have hc' : Try.prog.cellsOf 22 = 1 := by kernel_rfl
      simp [DataW.trod, Try.underlying3, Try.underlying22, hc, hc', h0, h1, h2])
  exact this
end
end Go.Proofs.Ytjpilhnkhhhdeaa
