import Derived.Test.YtohojpacijnnaaaDoorEncAll
namespace Go.Proofs.YtohojpacijnnaaaDoor.Is
open Go.RowKit
set_option linter.unusedVariables false

/-- Block g holds these cells. -/
def Blk (w : World) (g : Nat) (l : List Value) (t : TypeId) : Prop := w.heap[g]? = some (.cells l.toArray t (0, 0))
theorem Blk.lt {w : World} {g : Nat} {l : List Value} {t : TypeId} (h : Blk w g l t) : g < w.heap.size := (Array.getElem?_eq_some_iff.1 h).1
theorem Blk.cell {w : World} {g : Nat} {l : List Value} {t : TypeId} (h : Blk w g l t) (i : Nat) {v : Value} (hv : l[i]? = some v) : w.cell? ⟨g, i, none⟩ = some v := by
  unfold Blk at h
  simp [World.cell?, h, hv]
theorem Blk.frozen {w : World} {g : Nat} {l : List Value} {t : TypeId} (h : Blk w g l t) (i : Nat) : w.frozen? ⟨g, i, none⟩ = false := frozen_of_row w g i _ t h
theorem Blk.below {w w' : World} {g : Nat} {l : List Value} {t : TypeId} (h : Blk w g l t) (hb : Below w.heap.size w w') : Blk w' g l t := by
  unfold Blk at *
  rw [hb.block g (Blk.lt h)]; exact h
theorem Blk.new (w : World) (l : List Value) (t : TypeId) : Blk (w.alloc (.cells l.toArray t)) w.heap.size l t := heap_alloc_new w _
theorem Blk.setCell {w : World} {g : Nat} {l : List Value} {t : TypeId} (h : Blk w g l t) (i : Nat) (v : Value) : Blk (w.setCell ⟨g, i, none⟩ v) g (l.set i v) t := by
  have := heap_setCell_same w g i _ t v h
  unfold Blk
  rw [this]
  simp
theorem Blk.setCell_ne {w : World} {g : Nat} {l : List Value} {t : TypeId} (h : Blk w g l t) {a : Addr} (hk : g ≠ a.block) (v : Value) : Blk (w.setCell a v) g l t := by
  unfold Blk at *
  rw [heap_setCell_other w a g v hk]; exact h

section
variable {P : Program} {w : World}
/-- a = T..: the block holds what is stored. -/
theorem wpList_store_row {ops : Array Oper} {rest : List Oper} {o : Oper} {a : Act} {Q : Exit → Act → World → Prop} (hgd : o.guard = none) (hdst : o.dst = none) (ty : TypeId) (x y : Operand) (ho : o.op = .store ty x y)
    (g : Nat) (hx : a.eval x = .pointer (some ⟨g, 0, none⟩)) (cs : Array Value) (hy : a.eval y = .agg cs) (zs : List Value) (t : TypeId) (hg : Blk w g zs t)
    (hs : (P.info? ty).map (·.size) = some cs.size) (hz : zs.length = cs.size) (h1 : cs.toList.all (fun v => v.oneCell') = true) (B : Nat) (hB : B ≤ g)
    (h : ∀ W', Blk W' g cs.toList t → Below B w W' → W'.heap.size = w.heap.size → wpList P ops Q rest a W') : wpList P ops Q (o :: rest) a w :=
  wpList_plain hgd fun _ hK => by
    have hst := run_storeCells_at P g 0 t cs.toList 0 zs.toArray w hg (by simp [hz]) (fun v hv => List.all_eq_true.1 h1 v hv)
    have e : zs.toArray.toList.take (0 + 0) ++ cs.toList ++ zs.toArray.toList.drop (0 + 0 + cs.toList.length) = cs.toList := by
      simp; omega
    rw [e] at hst
    cases hq : P.info? ty with
    | none => simp [hq] at hs
    | some i =>
      have hsz : i.size = cs.size := by simpa [hq] using hs
      have hr : (Instr.storeAt ty (.pointer (some ⟨g, 0, none⟩)) (.agg cs)).run P w = .ok () (w.setRow g cs.toList.toArray) := by
        simp [Instr.storeAt, Instr.sureAddr, storeVar, sizeOf, typeInfo, hq, hsz, Value.cells]
        simpa using hst
      unfold Oper.wp execOp
      simp only [ho, hx, hy, Sem.run_bind, hr, Result.andThen_ok, Sem.run_pure]
      have hfin := hK a (w.setRow g cs.toList.toArray) (h _ (setRow_heap w g _ _ t _ hg) ⟨rfl, rfl, rfl, by simp, fun k hk => ?_⟩ (by simp))
      · have hp : a.put o.dst undef = a := by rw [hdst]; rfl
        unfold Oper.upon
        simp only [hp]
        exact hfin
      · have hne : g ≠ k := by omega
        simp [World.setRow, Array.getElem?_modify, hne]
end

theorem boxed2 {w w' : World} {cs ds : List Value} {t t' : TypeId} (h : Tabs w) (hw : w' = (w.alloc (.cells cs.toArray t (0, 0))).alloc (.cells ds.toArray t' (0, 0))) :
    Tabs w' ∧ Below w.heap.size w w' ∧ ∃ b, b = w.heap.size ∧ Blk w' b cs t ∧ Blk w' (b + 1) ds t' := by
  subst hw
  have hb := below_all (below_new w (.cells cs.toArray t (0, 0))) (below_new (w.alloc (.cells cs.toArray t (0, 0))) (.cells ds.toArray t' (0, 0)))
  exact ⟨h.keep hb, hb, _, rfl, heap_alloc2_old w _ _, heap_alloc2_new w _ _⟩

/-- While read is under way: the result's block, the instruction's, the shape's. -/
structure RdS (w w' : World) (g0 g1 g2 : Nat) (l s : List Value) : Prop where
  r : Blk w' g0 [.int .i64 0, .int .i64 0, .int .i64 0, .int .i64 0, .int .i64 0] 40
  i : Blk w' g1 l 40
  h : Blk w' g2 s 83
  d01 : g0 ≠ g1
  d12 : g1 ≠ g2
  d02 : g0 ≠ g2
  bel : Below w.heap.size w w'
  lo0 : w.heap.size ≤ g0
  lo1 : w.heap.size ≤ g1
theorem below_setCell {B : Nat} {w w' : World} (h : Below B w w') (a : Addr) (ha : B ≤ a.block) (v : Value) : Below B w (w'.setCell a v) := by
  refine h.trans ⟨rfl, rfl, rfl, by simp, fun k hk => heap_setCell_other w' a k v (by omega)⟩
theorem RdS.store {w w' : World} {g0 g1 g2 : Nat} {l s : List Value} (h : RdS w w' g0 g1 g2 l s) (i : Nat) (v : Value) : RdS w (w'.setCell ⟨g1, i, none⟩ v) g0 g1 g2 (l.set i v) s :=
  ⟨h.r.setCell_ne h.d01 v, h.i.setCell i v, h.h.setCell_ne h.d12.symm v, h.d01, h.d12, h.d02, below_setCell h.bel _ h.lo1 v, h.lo0, h.lo1⟩
theorem RdS.begin {w w' w2 : World} {ds ss : List Value} (h : Tabs w) (hw : w' = (w.alloc (.cells [.int .i64 0, .int .i64 0, .int .i64 0, .int .i64 0, .int .i64 0].toArray 40 (0, 0))).alloc (.cells ds.toArray 40 (0, 0))) (h2 : w2 = w'.alloc (.cells ss.toArray 83)) :
    RdS w w2 w.heap.size (w.heap.size + 1) w'.heap.size ds ss := by
  obtain ⟨ht, hb, b, rfl, h3, h4⟩ := boxed2 h hw
  subst h2
  have hn := below_new w' (.cells ss.toArray 83)
  exact ⟨h3.below hn, h4.below hn, Blk.new w' ss 83, by omega, by have := h4.lt; omega, by have := h3.lt; omega, below_all hb hn, Nat.le_refl _, by omega⟩
end Go.Proofs.YtohojpacijnnaaaDoor.Is
