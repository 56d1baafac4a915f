import Derived.Test.YtfbapgcopidbpaaGreatA
namespace Go.Proofs.YtfbapgcopidbpaaGreat
open Go.RowKit
set_option linter.unusedVariables false
set_option maxRecDepth 6000

theorem Hid.mk' {p : Prop} (h : p) : Hid p := h
def Chn.stgO (h : Chn) : Int := if h.sized then h.stg else 0
def Chn.prtO (h : Chn) : Int := if h.sized then h.prt else 0
/-- How many words a port's messages take, by the document. -/
def Chn.bod (h : Chn) : Int := if h.sized then (if h.kind = 2 then h.plc else h.words) else 0
theorem Chn.stgO_no {h : Chn} (hs : h.sized = false) : h.stgO = 0 := by unfold Chn.stgO; rw [hs]; rfl
theorem Chn.stgO_yes {h : Chn} (hs : h.sized = true) : h.stgO = h.stg := by unfold Chn.stgO; rw [hs]; rfl
theorem Chn.prtO_no {h : Chn} (hs : h.sized = false) : h.prtO = 0 := by unfold Chn.prtO; rw [hs]; rfl
theorem Chn.prtO_yes {h : Chn} (hs : h.sized = true) : h.prtO = h.prt := by unfold Chn.prtO; rw [hs]; rfl

theorem call_enter {P : Program} {F : FuncId} {fn : Func} (hf : P.funcs[F]? = some fn) (hn : (fn.name == "runtime.NumGoroutine") = false) (hb : fn.body.isNone = false) (args : Array Value) (w : World) :
    (callFunc F args).run P w = .ok (.enter F args) w := by
  have hn' : ¬ fn.name = "runtime.NumGoroutine" := by simpa using hn
  have hb' : ¬ fn.body = none := fun e => by rw [e] at hb; cases hb
  simp [callFunc, go_sem, hf, hn', hb']

theorem Chn.bod_eq {k n d : Int} {v : Int} (h : Chn.bod ⟨k, n, d⟩ = v) : Hid (Chn.bod ⟨k, n, d⟩ = v) := h
set_option maxHeartbeats 1000000 in
theorem Chn.bod_pos {h : Chn} (hs : h.sized = true) : 1 ≤ h.bod ∧ h.bod ≤ 136 := by
  have h1 := Chn.plc_bd hs
  have h2 := Chn.sized_iff.1 hs
  unfold Chn.bod
  rw [hs]
  simp only [if_true]
  split <;> omega
theorem Chn.bod_no {h : Chn} (hs : h.sized = false) : h.bod = 0 := by unfold Chn.bod; rw [hs]; rfl

end Go.Proofs.YtfbapgcopidbpaaGreat
