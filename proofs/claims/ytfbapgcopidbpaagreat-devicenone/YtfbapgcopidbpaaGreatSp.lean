import Derived.Test.YtfbapgcopidbpaaGreatSo
namespace Go.Proofs.YtfbapgcopidbpaaGreat
open Go.RowKit
set_option linter.unusedVariables false
set_option maxRecDepth 6000

/-- Whose the frame is, as the regions say: the first partition's that has it. -/
def regO (fr : Int) (ps : List Par) : Ow := match ps.findIdx? (fun P => P.rs.any (Rgn.hasF fr)) with | some i => ⟨1, i, 0⟩ | none => ⟨0, 0, 0⟩
theorem regO_hit {fr : Int} {ps : List Par} {k : Nat} {P : Par} {r : Rgn} (hno : (ps.take k).any (fun P => P.rs.any (Rgn.hasF fr)) = false) (hP : ps[k]? = some P) (hr : r ∈ P.rs) (hh : r.hasF fr = true) : regO fr ps = ⟨1, k, 0⟩ := by
  have hk : k < ps.length := (List.getElem?_eq_some_iff.1 hP).1
  have : ps.findIdx? (fun P => P.rs.any (Rgn.hasF fr)) = some k := by
    rw [List.findIdx?_eq_some_iff_getElem]
    refine ⟨hk, ?_, ?_⟩
    · have : ps[k] = P := (List.getElem?_eq_some_iff.1 hP).2
      rw [this]; exact List.any_eq_true.2 ⟨r, hr, hh⟩
    · intro j hj
      rw [List.any_eq_false] at hno
      refine hno _ ?_
      rw [List.mem_take_iff_getElem]
      exact ⟨j, by omega, rfl⟩
  unfold regO; rw [this]
theorem regO_none {fr : Int} {ps : List Par} (hno : ps.any (fun P => P.rs.any (Rgn.hasF fr)) = false) : regO fr ps = ⟨0, 0, 0⟩ := by
  have : ps.findIdx? (fun P => P.rs.any (Rgn.hasF fr)) = none := by
    rw [List.findIdx?_eq_none_iff]
    intro P hP
    rw [List.any_eq_false] at hno
    exact Bool.eq_false_iff.2 (hno P hP)
  unfold regO; rw [this]

theorem set3 {w : World} {C : Nat} {a0 a1 a2 : Value} {t : TypeId} (hB : Blk w C [a0, a1, a2] t) (v0 v1 v2 : Value) :
    Blk (((w.setCell ⟨C, 0, none⟩ v0).setCell ⟨C, 1, none⟩ v1).setCell ⟨C, 2, none⟩ v2) C [v0, v1, v2] t ∧
    Keeps (fun k => k = C) w (((w.setCell ⟨C, 0, none⟩ v0).setCell ⟨C, 1, none⟩ v1).setCell ⟨C, 2, none⟩ v2) :=
  ⟨((hB.setCell 0 v0).setCell 1 v1).setCell 2 v2, (((Keeps.refl (fun k => k = C) w).setCell ⟨C, 0, none⟩ v0 fun _ => rfl).setCell ⟨C, 1, none⟩ v1 fun _ => rfl).setCell ⟨C, 2, none⟩ v2 fun _ => rfl⟩

/-- While the regions are asked: the configuration in C, the answer in E, nobody's yet. -/
structure RoI (w : World) (x : Cfg) (C E N : Nat) (w' : World) : Prop where
  one : One w x C N w'
  ans : Blk w' E [.int .i64 0, .int .i64 0, .int .i64 0] 86
  lo : w.heap.size ≤ E
theorem RoI.kept {w : World} {x : Cfg} {C E N : Nat} {w' w'' : World} (h : RoI w x C E N w') (hK : Keeps (fun _ => False) w' w'') : RoI w x C E N w'' :=
  ⟨h.one.kept hK, h.ans.kept hK fun h => h, h.lo⟩

end Go.Proofs.YtfbapgcopidbpaaGreat
