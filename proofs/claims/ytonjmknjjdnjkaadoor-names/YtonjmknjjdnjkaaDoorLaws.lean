import Derived.Test.YtonjmknjjdnjkaaDoorProg
import Derived.WalkKit
import Derived.WalkSpells
import Derived.WalkLawsBesides
import Derived.Laws.CopyRow
import Derived.Laws.Rows
namespace Go.Proofs.YtonjmknjjdnjkaaDoor
open Go.RowKit
set_option linter.unusedVariables false

/-- Block g holds these cells. -/
def Blk (w : World) (g : Nat) (l : List Value) (t : TypeId) : Prop := w.heap[g]? = some (.cells l.toArray t (0, 0))
theorem Blk.lt {w : World} {g : Nat} {l : List Value} {t : TypeId} (h : Blk w g l t) : g < w.heap.size := (Array.getElem?_eq_some_iff.1 h).1
theorem Blk.cell {w : World} {g : Nat} {l : List Value} {t : TypeId} (h : Blk w g l t) {i : Nat} {v : Value} (hv : l[i]? = some v) : w.cell? ⟨g, i, none⟩ = some v := by
  unfold Blk at h
  simp [World.cell?, h, hv]
/-- It lies in w' as in w, if it is no new one. -/
theorem Blk.below {w w' : World} {g : Nat} {l : List Value} {t : TypeId} (h : Blk w g l t) (hb : Below w.heap.size w w') : Blk w' g l t := by
  unfold Blk at *
  rw [hb.block g (Blk.lt h)]; exact h

section
variable {P : Program} {w : World}

/-- var a [n]T: a new block. -/
theorem wpList_alloc_row {ops : Array Oper} {rest : List Oper} {o : Oper} {a : Act} {Q : Exit → Act → World → Prop} (hgd : o.guard = none) (ty : TypeId) (ho : o.op = .alloc ty) (n : Nat)
    (hi : ((P.info? ty).bind (·.zero)).map (·.cells.size) = some n)
    (h : ∀ W' zs, zs.length = n → Blk W' w.heap.size zs ty → Below w.heap.size w W' → wpList P ops Q rest (a.put o.dst (.pointer (some ⟨w.heap.size, 0, none⟩))) W') : wpList P ops Q (o :: rest) a w :=
  wpList_plain hgd fun _ hK => by
    cases hq : P.info? ty with
    | none => simp [hq] at hi
    | some i =>
      cases hz : i.zero with
      | none => simp [hq, hz] at hi
      | some z =>
        have hn : z.cells.size = n := by simpa [hq, hz] using hi
        have hr : (Instr.alloc ty true (.tuple #[])).run P w = .ok (.pointer (some ⟨w.heap.size, 0, none⟩)) (w.alloc (.cells z.cells ty)) := by
          simp [Instr.alloc, zeroValue, typeInfo, hq, hz, newVar, newRow]
        unfold Oper.wp execOp
        simp only [ho, Sem.run_bind, hr, Result.andThen_ok, Sem.run_pure]
        refine hK _ _ (h _ z.cells.toList (by simpa using hn) ?_ ?_)
        · unfold Blk
          rw [Array.toArray_toList]
          exact heap_alloc_new w _
        · exact (Below.refl _ w).alloc (Nat.le_refl _) _

/-- a = [n]T..: the block holds what is stored. -/
theorem wpList_store_row {ops : Array Oper} {rest : List Oper} {o : Oper} {a : Act} {Q : Exit → Act → World → Prop} (hgd : o.guard = none) (hdst : o.dst = none) (ty : TypeId) (x y : Operand) (ho : o.op = .store ty x y)
    (g : Nat) (hx : a.eval x = .pointer (some ⟨g, 0, none⟩)) (cs : Array Value) (hy : a.eval y = .agg cs) (zs : List Value) (t : TypeId) (hg : Blk w g zs t)
    (hs : (P.info? ty).map (·.size) = some cs.size) (hz : zs.length = cs.size) (h1 : cs.toList.all (fun v => v.oneCell') = true) (B : Nat) (hB : B ≤ g)
    (h : ∀ W', Blk W' g cs.toList t → Below B w W' → W'.heap.size = w.heap.size → wpList P ops Q rest a W') : wpList P ops Q (o :: rest) a w :=
  wpList_plain hgd fun _ hK => by
    have hst := run_storeCells_at P g 0 t cs.toList 0 zs.toArray w hg (by simp [hz]) (fun v hv => List.all_eq_true.1 h1 v hv)
    have e : zs.toArray.toList.take (0 + 0) ++ cs.toList ++ zs.toArray.toList.drop (0 + 0 + cs.toList.length) = cs.toList := by
      simp; omega
    rw [e] at hst
    cases hq : P.info? ty with
    | none => simp [hq] at hs
    | some i =>
      have hsz : i.size = cs.size := by simpa [hq] using hs
      have hr : (Instr.storeAt ty (.pointer (some ⟨g, 0, none⟩)) (.agg cs)).run P w = .ok () (w.setRow g cs.toList.toArray) := by
        simp [Instr.storeAt, Instr.sureAddr, storeVar, sizeOf, typeInfo, hq, hsz, Value.cells]
        simpa using hst
      unfold Oper.wp execOp
      simp only [ho, hx, hy, Sem.run_bind, hr, Result.andThen_ok, Sem.run_pure]
      have hfin := hK a (w.setRow g cs.toList.toArray) (h _ (setRow_heap w g _ _ t _ hg) ⟨rfl, rfl, rfl, by simp, fun k hk => ?_⟩ (by simp))
      · have hp : a.put o.dst undef = a := by rw [hdst]; rfl
        unfold Oper.upon
        simp only [hp]
        exact hfin
      · have hne : g ≠ k := by omega
        simp [World.setRow, Array.getElem?_modify, hne]

/-- Is an array unlike one of the same numbers? No. -/
theorem wpList_neq_row {ops : Array Oper} {rest : List Oper} {o : Oper} {a : Act} {Q : Exit → Act → World → Prop} (hgd : o.guard = none) (op : BinOp) (ty ty' : TypeId) (x y : Operand) (ho : o.op = .binOp op ty x y ty')
    (cs ds : Array Value) (hx : a.eval x = .agg cs) (hy : a.eval y = .agg ds) (r : Bool)
    (hr : ∀ w, (do eqGuard op ty x y (.agg cs) (.agg ds); binOp op ty (.agg cs) (.agg ds)).run P w = .ok (.bool r) w)
    (h : wpList P ops Q rest (a.put o.dst (.bool r)) w) : wpList P ops Q (o :: rest) a w :=
  wpList_plain hgd fun _ hK => by
    unfold Oper.wp execOp
    simp only [ho, hx, hy]
    have := hr w
    simp only [Sem.run_bind] at this ⊢
    rw [this]
    simp only [Result.andThen_ok, Sem.run_pure]
    exact hK _ _ h
end
end Go.Proofs.YtonjmknjjdnjkaaDoor
