import Derived.Test.YtfbapgcopidbpaaGreatSr
namespace Go.Proofs.YtfbapgcopidbpaaGreat
open Go.RowKit
set_option linter.unusedVariables false
set_option linter.unusedSimpArgs false
set_option maxRecDepth 6000

/-- Whose a word of a configuration that can be laid out is. -/
def ownO (x : Cfg) (t : Int) : Ow :=
  if (lastGo t (16 * x.kernel) ⟨0, 0, 0⟩ (layH x (16 * x.kernel))).kind = 0 then regO (t / 16) x.ps else lastGo t (16 * x.kernel) ⟨0, 0, 0⟩ (layH x (16 * x.kernel))
/-- What Owner answers. -/
def ownA (x : Cfg) (t : Int) : Ow × Int :=
  if x.mayB = false then (⟨0, 0, 0⟩, 150) else if isW x.frames t = false then (⟨0, 0, 0⟩, 151) else (ownO x t, 0)

structure OwI (w : World) (x : Cfg) (C N : Nat) (w' : World) : Prop where
  one : One w x C N w'
  res : Blk w' (C + 1) [.int .i64 0, .int .i64 0, .int .i64 0] 86
  cw : C = w.heap.size
theorem OwI.kept {w : World} {x : Cfg} {C N : Nat} {w' w'' : World} (h : OwI w x C N w') (hK : Keeps (fun _ => False) w' w'') : OwI w x C N w'' :=
  ⟨h.one.kept hK, h.res.kept hK fun h => h, h.cw⟩

end Go.Proofs.YtfbapgcopidbpaaGreat
