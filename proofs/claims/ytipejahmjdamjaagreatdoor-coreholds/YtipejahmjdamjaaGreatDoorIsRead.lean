import Derived.Test.YtipejahmjdamjaaGreatDoorIsEncAll
namespace Go.Proofs.YtipejahmjdamjaaGreatDoor.Is
open Go.RowKit
set_option linter.unusedVariables false

/-- Block g holds these cells. -/
def Blk (w : World) (g : Nat) (l : List Value) (t : TypeId) : Prop := w.heap[g]? = some (.cells l.toArray t (0, 0))
theorem Blk.lt {w : World} {g : Nat} {l : List Value} {t : TypeId} (h : Blk w g l t) : g < w.heap.size := (Array.getElem?_eq_some_iff.1 h).1
theorem Blk.cell {w : World} {g : Nat} {l : List Value} {t : TypeId} (h : Blk w g l t) (i : Nat) {v : Value} (hv : l[i]? = some v) : w.cell? ⟨g, i, none⟩ = some v := by
  unfold Blk at h
  simp [World.cell?, h, hv]
theorem Blk.frozen {w : World} {g : Nat} {l : List Value} {t : TypeId} (h : Blk w g l t) (i : Nat) : w.frozen? ⟨g, i, none⟩ = false := frozen_of_row w g i _ t h
theorem Blk.below {w w' : World} {g : Nat} {l : List Value} {t : TypeId} (h : Blk w g l t) (hb : Below w.heap.size w w') : Blk w' g l t := by
  unfold Blk at *
  rw [hb.block g (Blk.lt h)]; exact h
theorem Blk.new (w : World) (l : List Value) (t : TypeId) : Blk (w.alloc (.cells l.toArray t)) w.heap.size l t := heap_alloc_new w _
theorem Blk.setCell {w : World} {g : Nat} {l : List Value} {t : TypeId} (h : Blk w g l t) (i : Nat) (v : Value) : Blk (w.setCell ⟨g, i, none⟩ v) g (l.set i v) t := by
  have := heap_setCell_same w g i _ t v h
  unfold Blk
  rw [this]
  simp
theorem Blk.setCell_ne {w : World} {g : Nat} {l : List Value} {t : TypeId} (h : Blk w g l t) {a : Addr} (hk : g ≠ a.block) (v : Value) : Blk (w.setCell a v) g l t := by
  unfold Blk at *
  rw [heap_setCell_other w a g v hk]; exact h

section
variable {P : Program} {w : World}
/-- a = T..: the block holds what is stored. -/
theorem wpList_store_row {ops : Array Oper} {rest : List Oper} {o : Oper} {a : Act} {Q : Exit → Act → World → Prop} (hgd : o.guard = none) (hdst : o.dst = none) (ty : TypeId) (x y : Operand) (ho : o.op = .store ty x y)
    (g : Nat) (hx : a.eval x = .pointer (some ⟨g, 0, none⟩)) (cs : Array Value) (hy : a.eval y = .agg cs) (zs : List Value) (t : TypeId) (hg : Blk w g zs t)
    (hs : (P.info? ty).map (·.size) = some cs.size) (hz : zs.length = cs.size) (h1 : cs.toList.all (fun v => v.oneCell') = true) (B : Nat) (hB : B ≤ g)
    (h : ∀ W', Blk W' g cs.toList t → Below B w W' → W'.heap.size = w.heap.size → wpList P ops Q rest a W') : wpList P ops Q (o :: rest) a w :=
  wpList_plain hgd fun _ hK => by
    have hst := run_storeCells_at P g 0 t cs.toList 0 zs.toArray w hg (by simp [hz]) (fun v hv => List.all_eq_true.1 h1 v hv)
    have e : zs.toArray.toList.take (0 + 0) ++ cs.toList ++ zs.toArray.toList.drop (0 + 0 + cs.toList.length) = cs.toList := by
      simp; omega
    rw [e] at hst
    cases hq : P.info? ty with
    | none => simp [hq] at hs
    | some i =>
      have hsz : i.size = cs.size := by simpa [hq] using hs
      have hr : (Instr.storeAt ty (.pointer (some ⟨g, 0, none⟩)) (.agg cs)).run P w = .ok () (w.setRow g cs.toList.toArray) := by
        simp [Instr.storeAt, Instr.sureAddr, storeVar, sizeOf, typeInfo, hq, hsz, Value.cells]
        simpa using hst
      unfold Oper.wp execOp
      simp only [ho, hx, hy, Sem.run_bind, hr, Result.andThen_ok, Sem.run_pure]
      have hfin := hK a (w.setRow g cs.toList.toArray) (h _ (setRow_heap w g _ _ t _ hg) ⟨rfl, rfl, rfl, by simp, fun k hk => ?_⟩ (by simp))
      · have hp : a.put o.dst undef = a := by rw [hdst]; rfl
        unfold Oper.upon
        simp only [hp]
        exact hfin
      · have hne : g ≠ k := by omega
        simp [World.setRow, Array.getElem?_modify, hne]
end

theorem boxed2 {w w' : World} {cs ds : List Value} {t t' : TypeId} (h : Tabs w) (hw : w' = (w.alloc (.cells cs.toArray t (0, 0))).alloc (.cells ds.toArray t' (0, 0))) :
    Tabs w' ∧ Below w.heap.size w w' ∧ ∃ b, b = w.heap.size ∧ Blk w' b cs t ∧ Blk w' (b + 1) ds t' := by
  subst hw
  have hb := below_all (below_new w (.cells cs.toArray t (0, 0))) (below_new (w.alloc (.cells cs.toArray t (0, 0))) (.cells ds.toArray t' (0, 0)))
  exact ⟨h.keep hb, hb, _, rfl, heap_alloc2_old w _ _, heap_alloc2_new w _ _⟩

/-- While read is under way: the result's block, the instruction's, the shape's. -/
structure RdS (w w' : World) (g0 g1 g2 : Nat) (l s : List Value) : Prop where
  r : Blk w' g0 [.int .i64 0, .int .i64 0, .int .i64 0, .int .i64 0, .int .i64 0] 111
  i : Blk w' g1 l 111
  h : Blk w' g2 s 236
  d01 : g0 ≠ g1
  d12 : g1 ≠ g2
  d02 : g0 ≠ g2
  bel : Below w.heap.size w w'
  lo0 : w.heap.size ≤ g0
  lo1 : w.heap.size ≤ g1
theorem below_setCell {B : Nat} {w w' : World} (h : Below B w w') (a : Addr) (ha : B ≤ a.block) (v : Value) : Below B w (w'.setCell a v) := by
  refine h.trans ⟨rfl, rfl, rfl, by simp, fun k hk => heap_setCell_other w' a k v (by omega)⟩
theorem RdS.store {w w' : World} {g0 g1 g2 : Nat} {l s : List Value} (h : RdS w w' g0 g1 g2 l s) (i : Nat) (v : Value) : RdS w (w'.setCell ⟨g1, i, none⟩ v) g0 g1 g2 (l.set i v) s :=
  ⟨h.r.setCell_ne h.d01 v, h.i.setCell i v, h.h.setCell_ne h.d12.symm v, h.d01, h.d12, h.d02, below_setCell h.bel _ h.lo1 v, h.lo0, h.lo1⟩
theorem RdS.begin {w w' w2 : World} {ds ss : List Value} (h : Tabs w) (hw : w' = (w.alloc (.cells [.int .i64 0, .int .i64 0, .int .i64 0, .int .i64 0, .int .i64 0].toArray 111 (0, 0))).alloc (.cells ds.toArray 111 (0, 0))) (h2 : w2 = w'.alloc (.cells ss.toArray 236)) :
    RdS w w2 w.heap.size (w.heap.size + 1) w'.heap.size ds ss := by
  obtain ⟨ht, hb, b, rfl, h3, h4⟩ := boxed2 h hw
  subst h2
  have hn := below_new w' (.cells ss.toArray 236)
  exact ⟨h3.below hn, h4.below hn, Blk.new w' ss 236, by omega, by have := h4.lt; omega, by have := h3.lt; omega, below_all hb hn, Nat.le_refl _, by omega⟩
end Go.Proofs.YtipejahmjdamjaaGreatDoor.Is
namespace Go.Proofs.YtipejahmjdamjaaGreatDoor.Is
open Go.RowKit
set_option linter.unusedVariables false

set_option maxHeartbeats 1000000 in
theorem read_none (x : Nat) (hx : x < 4294967296) (w : World) (h : Tabs w) (k : Nat) (hk : formOf ((x : Int) / 67108864) = (k : Int)) (hk8 : k < 8) (HA : hasA k = false) (HB : hasB k = false) (HC : hasC k = false) (HI : hasI k = false) :
    Calls Tryz.prog 128 #[.int .u32 x] w fun e w' => e = .returned (insV ((x : Int) / 67108864) 0 0 0 0) ∧ Below w.heap.size w w' := by
  unfold insV
  go_enter Tryz.func128, Tryz.ntmps128
  go_wp2_with fail
  refine (form_any _ _ (boxed2 (cs := [_, _, _, _, _]) (ds := [_, _, _, _, _]) h rfl).1).mono ?_
  rintro e w1 ⟨rfl, hw⟩
  rw [hk]
  have ht := (boxed2 (cs := [_, _, _, _, _]) (ds := [_, _, _, _, _]) h hw).1
  have s0 := ht.shape k 0 hk8 (by omega)
  have s1 := ht.shape k 1 hk8 (by omega)
  have s2 := ht.shape k 2 hk8 (by omega)
  have s3 := ht.shape k 3 hk8 (by omega)
  simp only [shapeAt, HA, HB, HC, HI, List.getElem?_cons_zero, List.getElem?_cons_succ, Nat.add_zero] at s0 s1 s2 s3
  have HR0 := RdS.begin (ss := [.bool false, .bool false, .bool false, .bool false]) h hw rfl
  obtain ⟨g1, hg1⟩ : ∃ g1, g1 = w.heap.size + 1 := ⟨_, rfl⟩
  obtain ⟨g0, hg0⟩ : ∃ g0, g0 = w.heap.size := ⟨_, rfl⟩
  rw [← hg1, ← hg0] at HR0
  rw [← hg1, ← hg0]
  have HR : Hid (RdS _ _ _ _ _ _ _) := HR0
  have HK := hx
  clear hw ht h hk HA HB HC HI HR0 hg1 hg0
  go_wp2_with (refine wpList_load_row rfl 111 (.tmp 3) rfl g1 rfl 111 _ (0, 0) _ HR.out.i Tryz.underlying111 rfl (by kernel_rfl) ?_; refine Hid.out ?_)
  unfold Hid
  have HQ := HR.out
  refine wpList_store_row rfl rfl 111 (.tmp 2) (.tmp 38) rfl g0 rfl _ rfl _ 111 HQ.r (by kernel_rfl) rfl rfl w.heap.size HQ.lo0 ?_
  intro W3 hB hK hs
  have HF : Hid (Below w.heap.size w W3) := HQ.bel.trans hK
  have HB : Hid (Blk _ _ _ _) := hB
  clear HQ hB hK hs HR
  go_wp2
  refine bodyPost_ret (results_cell_row rfl _ _ g0 111 _ (0, 0) _ rfl HB.out Tryz.underlying111 rfl (by kernel_rfl)) rfl ?_
  exact ⟨rfl, HF.out⟩

set_option maxHeartbeats 1000000 in
theorem read_a (x : Nat) (hx : x < 4294967296) (w : World) (h : Tabs w) (k : Nat) (hk : formOf ((x : Int) / 67108864) = (k : Int)) (hk8 : k < 8) (HA : hasA k = true) (HB : hasB k = false) (HC : hasC k = false) (HI : hasI k = false) :
    Calls Tryz.prog 128 #[.int .u32 x] w fun e w' => e = .returned (insV ((x : Int) / 67108864) ((x : Int) / 4194304 % 16) 0 0 0) ∧ Below w.heap.size w w' := by
  unfold insV
  go_enter Tryz.func128, Tryz.ntmps128
  go_wp2_with fail
  refine (form_any _ _ (boxed2 (cs := [_, _, _, _, _]) (ds := [_, _, _, _, _]) h rfl).1).mono ?_
  rintro e w1 ⟨rfl, hw⟩
  rw [hk]
  have ht := (boxed2 (cs := [_, _, _, _, _]) (ds := [_, _, _, _, _]) h hw).1
  have s0 := ht.shape k 0 hk8 (by omega)
  have s1 := ht.shape k 1 hk8 (by omega)
  have s2 := ht.shape k 2 hk8 (by omega)
  have s3 := ht.shape k 3 hk8 (by omega)
  simp only [shapeAt, HA, HB, HC, HI, List.getElem?_cons_zero, List.getElem?_cons_succ, Nat.add_zero] at s0 s1 s2 s3
  have HR0 := RdS.begin (ss := [.bool true, .bool false, .bool false, .bool false]) h hw rfl
  obtain ⟨g1, hg1⟩ : ∃ g1, g1 = w.heap.size + 1 := ⟨_, rfl⟩
  obtain ⟨g0, hg0⟩ : ∃ g0, g0 = w.heap.size := ⟨_, rfl⟩
  rw [← hg1, ← hg0] at HR0
  rw [← hg1, ← hg0]
  have HR : Hid (RdS _ _ _ _ _ _ _) := HR0
  have HK := hx
  clear hw ht h hk HA HB HC HI HR0 hg1 hg0
  go_wp2_with fail
  refine (reg22 x _ hx).mono ?_
  rintro e w2 ⟨rfl, hw2⟩
  rw [← hw2] at HR
  obtain ⟨g2, hg2⟩ : ∃ g2, g2 = w1.heap.size := ⟨_, rfl⟩
  rw [← hg2] at HR
  rw [← hg2]
  clear s0 s1 s2 s3 hg2 hw2
  have HQ := HR.out
  clear HR
  have HR : Hid (RdS _ _ _ _ _ _ _) := HQ
  have c0 := HQ.i.cell 0 rfl
  have c1 := HQ.i.cell 1 rfl
  have c2 := HQ.i.cell 2 rfl
  have c3 := HQ.i.cell 3 rfl
  have c4 := HQ.i.cell 4 rfl
  have s0 := HQ.h.cell 0 rfl
  have s1 := HQ.h.cell 1 rfl
  have s2 := HQ.h.cell 2 rfl
  have s3 := HQ.h.cell 3 rfl
  have f1 := HQ.i.frozen 1
  have f2 := HQ.i.frozen 2
  have f3 := HQ.i.frozen 3
  have f4 := HQ.i.frozen 4
  have n1 := HQ.d12
  have n2 := HQ.d12.symm
  clear HQ
  go_wp2_with (refine wpList_load_row rfl 111 (.tmp 3) rfl g1 rfl 111 _ (0, 0) _ (HR.out.store 1 (.int .i64 ((x : Int) / 4194304 % 16))).i Tryz.underlying111 rfl (by kernel_rfl) ?_; refine Hid.out ?_)
  unfold Hid
  have HQ := HR.out.store 1 (.int .i64 ((x : Int) / 4194304 % 16))
  refine wpList_store_row rfl rfl 111 (.tmp 2) (.tmp 38) rfl g0 rfl _ rfl _ 111 HQ.r (by kernel_rfl) rfl rfl w.heap.size HQ.lo0 ?_
  intro W3 hB hK hs
  have HF : Hid (Below w.heap.size w W3) := HQ.bel.trans hK
  have HB : Hid (Blk _ _ _ _) := hB
  clear HQ hB hK hs HR
  go_wp2
  refine bodyPost_ret (results_cell_row rfl _ _ g0 111 _ (0, 0) _ rfl HB.out Tryz.underlying111 rfl (by kernel_rfl)) rfl ?_
  exact ⟨rfl, HF.out⟩

set_option maxHeartbeats 1000000 in
theorem read_ab (x : Nat) (hx : x < 4294967296) (w : World) (h : Tabs w) (k : Nat) (hk : formOf ((x : Int) / 67108864) = (k : Int)) (hk8 : k < 8) (HA : hasA k = true) (HB : hasB k = true) (HC : hasC k = false) (HI : hasI k = false) :
    Calls Tryz.prog 128 #[.int .u32 x] w fun e w' => e = .returned (insV ((x : Int) / 67108864) ((x : Int) / 4194304 % 16) ((x : Int) / 262144 % 16) 0 0) ∧ Below w.heap.size w w' := by
  unfold insV
  go_enter Tryz.func128, Tryz.ntmps128
  go_wp2_with fail
  refine (form_any _ _ (boxed2 (cs := [_, _, _, _, _]) (ds := [_, _, _, _, _]) h rfl).1).mono ?_
  rintro e w1 ⟨rfl, hw⟩
  rw [hk]
  have ht := (boxed2 (cs := [_, _, _, _, _]) (ds := [_, _, _, _, _]) h hw).1
  have s0 := ht.shape k 0 hk8 (by omega)
  have s1 := ht.shape k 1 hk8 (by omega)
  have s2 := ht.shape k 2 hk8 (by omega)
  have s3 := ht.shape k 3 hk8 (by omega)
  simp only [shapeAt, HA, HB, HC, HI, List.getElem?_cons_zero, List.getElem?_cons_succ, Nat.add_zero] at s0 s1 s2 s3
  have HR0 := RdS.begin (ss := [.bool true, .bool true, .bool false, .bool false]) h hw rfl
  obtain ⟨g1, hg1⟩ : ∃ g1, g1 = w.heap.size + 1 := ⟨_, rfl⟩
  obtain ⟨g0, hg0⟩ : ∃ g0, g0 = w.heap.size := ⟨_, rfl⟩
  rw [← hg1, ← hg0] at HR0
  rw [← hg1, ← hg0]
  have HR : Hid (RdS _ _ _ _ _ _ _) := HR0
  have HK := hx
  clear hw ht h hk HA HB HC HI HR0 hg1 hg0
  go_wp2_with fail
  refine (reg22 x _ hx).mono ?_
  rintro e w2 ⟨rfl, hw2⟩
  rw [← hw2] at HR
  obtain ⟨g2, hg2⟩ : ∃ g2, g2 = w1.heap.size := ⟨_, rfl⟩
  rw [← hg2] at HR
  rw [← hg2]
  clear s0 s1 s2 s3 hg2 hw2
  have HQ := HR.out
  clear HR
  have HR : Hid (RdS _ _ _ _ _ _ _) := HQ
  have c0 := HQ.i.cell 0 rfl
  have c1 := HQ.i.cell 1 rfl
  have c2 := HQ.i.cell 2 rfl
  have c3 := HQ.i.cell 3 rfl
  have c4 := HQ.i.cell 4 rfl
  have s0 := HQ.h.cell 0 rfl
  have s1 := HQ.h.cell 1 rfl
  have s2 := HQ.h.cell 2 rfl
  have s3 := HQ.h.cell 3 rfl
  have f1 := HQ.i.frozen 1
  have f2 := HQ.i.frozen 2
  have f3 := HQ.i.frozen 3
  have f4 := HQ.i.frozen 4
  have n1 := HQ.d12
  have n2 := HQ.d12.symm
  clear HQ
  go_wp2_with fail
  refine (reg18 x _ hx).mono ?_
  rintro e w2 ⟨rfl, hw2⟩
  have HQ := HR.out.store 1 (.int .i64 ((x : Int) / 4194304 % 16))
  rw [← hw2] at HQ
  clear hw2 c0 c1 c2 c3 c4 s0 s1 s2 s3 f1 f2 f3 f4 n1 n2 HR
  simp only [List.set_cons_zero, List.set_cons_succ] at HQ
  have HR : Hid (RdS _ _ _ _ _ _ _) := HQ
  have c0 := HQ.i.cell 0 rfl
  have c1 := HQ.i.cell 1 rfl
  have c2 := HQ.i.cell 2 rfl
  have c3 := HQ.i.cell 3 rfl
  have c4 := HQ.i.cell 4 rfl
  have s0 := HQ.h.cell 0 rfl
  have s1 := HQ.h.cell 1 rfl
  have s2 := HQ.h.cell 2 rfl
  have s3 := HQ.h.cell 3 rfl
  have f1 := HQ.i.frozen 1
  have f2 := HQ.i.frozen 2
  have f3 := HQ.i.frozen 3
  have f4 := HQ.i.frozen 4
  have n1 := HQ.d12
  have n2 := HQ.d12.symm
  clear HQ
  go_wp2_with (refine wpList_load_row rfl 111 (.tmp 3) rfl g1 rfl 111 _ (0, 0) _ (HR.out.store 2 (.int .i64 ((x : Int) / 262144 % 16))).i Tryz.underlying111 rfl (by kernel_rfl) ?_; refine Hid.out ?_)
  unfold Hid
  have HQ := HR.out.store 2 (.int .i64 ((x : Int) / 262144 % 16))
  refine wpList_store_row rfl rfl 111 (.tmp 2) (.tmp 38) rfl g0 rfl _ rfl _ 111 HQ.r (by kernel_rfl) rfl rfl w.heap.size HQ.lo0 ?_
  intro W3 hB hK hs
  have HF : Hid (Below w.heap.size w W3) := HQ.bel.trans hK
  have HB : Hid (Blk _ _ _ _) := hB
  clear HQ hB hK hs HR
  go_wp2
  refine bodyPost_ret (results_cell_row rfl _ _ g0 111 _ (0, 0) _ rfl HB.out Tryz.underlying111 rfl (by kernel_rfl)) rfl ?_
  exact ⟨rfl, HF.out⟩

set_option maxHeartbeats 1000000 in
theorem read_abc (x : Nat) (hx : x < 4294967296) (w : World) (h : Tabs w) (k : Nat) (hk : formOf ((x : Int) / 67108864) = (k : Int)) (hk8 : k < 8) (HA : hasA k = true) (HB : hasB k = true) (HC : hasC k = true) (HI : hasI k = false) :
    Calls Tryz.prog 128 #[.int .u32 x] w fun e w' => e = .returned (insV ((x : Int) / 67108864) ((x : Int) / 4194304 % 16) ((x : Int) / 262144 % 16) ((x : Int) / 16384 % 16) 0) ∧ Below w.heap.size w w' := by
  unfold insV
  go_enter Tryz.func128, Tryz.ntmps128
  go_wp2_with fail
  refine (form_any _ _ (boxed2 (cs := [_, _, _, _, _]) (ds := [_, _, _, _, _]) h rfl).1).mono ?_
  rintro e w1 ⟨rfl, hw⟩
  rw [hk]
  have ht := (boxed2 (cs := [_, _, _, _, _]) (ds := [_, _, _, _, _]) h hw).1
  have s0 := ht.shape k 0 hk8 (by omega)
  have s1 := ht.shape k 1 hk8 (by omega)
  have s2 := ht.shape k 2 hk8 (by omega)
  have s3 := ht.shape k 3 hk8 (by omega)
  simp only [shapeAt, HA, HB, HC, HI, List.getElem?_cons_zero, List.getElem?_cons_succ, Nat.add_zero] at s0 s1 s2 s3
  have HR0 := RdS.begin (ss := [.bool true, .bool true, .bool true, .bool false]) h hw rfl
  obtain ⟨g1, hg1⟩ : ∃ g1, g1 = w.heap.size + 1 := ⟨_, rfl⟩
  obtain ⟨g0, hg0⟩ : ∃ g0, g0 = w.heap.size := ⟨_, rfl⟩
  rw [← hg1, ← hg0] at HR0
  rw [← hg1, ← hg0]
  have HR : Hid (RdS _ _ _ _ _ _ _) := HR0
  have HK := hx
  clear hw ht h hk HA HB HC HI HR0 hg1 hg0
  go_wp2_with fail
  refine (reg22 x _ hx).mono ?_
  rintro e w2 ⟨rfl, hw2⟩
  rw [← hw2] at HR
  obtain ⟨g2, hg2⟩ : ∃ g2, g2 = w1.heap.size := ⟨_, rfl⟩
  rw [← hg2] at HR
  rw [← hg2]
  clear s0 s1 s2 s3 hg2 hw2
  have HQ := HR.out
  clear HR
  have HR : Hid (RdS _ _ _ _ _ _ _) := HQ
  have c0 := HQ.i.cell 0 rfl
  have c1 := HQ.i.cell 1 rfl
  have c2 := HQ.i.cell 2 rfl
  have c3 := HQ.i.cell 3 rfl
  have c4 := HQ.i.cell 4 rfl
  have s0 := HQ.h.cell 0 rfl
  have s1 := HQ.h.cell 1 rfl
  have s2 := HQ.h.cell 2 rfl
  have s3 := HQ.h.cell 3 rfl
  have f1 := HQ.i.frozen 1
  have f2 := HQ.i.frozen 2
  have f3 := HQ.i.frozen 3
  have f4 := HQ.i.frozen 4
  have n1 := HQ.d12
  have n2 := HQ.d12.symm
  clear HQ
  go_wp2_with fail
  refine (reg18 x _ hx).mono ?_
  rintro e w2 ⟨rfl, hw2⟩
  have HQ := HR.out.store 1 (.int .i64 ((x : Int) / 4194304 % 16))
  rw [← hw2] at HQ
  clear hw2 c0 c1 c2 c3 c4 s0 s1 s2 s3 f1 f2 f3 f4 n1 n2 HR
  simp only [List.set_cons_zero, List.set_cons_succ] at HQ
  have HR : Hid (RdS _ _ _ _ _ _ _) := HQ
  have c0 := HQ.i.cell 0 rfl
  have c1 := HQ.i.cell 1 rfl
  have c2 := HQ.i.cell 2 rfl
  have c3 := HQ.i.cell 3 rfl
  have c4 := HQ.i.cell 4 rfl
  have s0 := HQ.h.cell 0 rfl
  have s1 := HQ.h.cell 1 rfl
  have s2 := HQ.h.cell 2 rfl
  have s3 := HQ.h.cell 3 rfl
  have f1 := HQ.i.frozen 1
  have f2 := HQ.i.frozen 2
  have f3 := HQ.i.frozen 3
  have f4 := HQ.i.frozen 4
  have n1 := HQ.d12
  have n2 := HQ.d12.symm
  clear HQ
  go_wp2_with fail
  refine (reg14 x _ hx).mono ?_
  rintro e w2 ⟨rfl, hw2⟩
  have HQ := HR.out.store 2 (.int .i64 ((x : Int) / 262144 % 16))
  rw [← hw2] at HQ
  clear hw2 c0 c1 c2 c3 c4 s0 s1 s2 s3 f1 f2 f3 f4 n1 n2 HR
  simp only [List.set_cons_zero, List.set_cons_succ] at HQ
  have HR : Hid (RdS _ _ _ _ _ _ _) := HQ
  have c0 := HQ.i.cell 0 rfl
  have c1 := HQ.i.cell 1 rfl
  have c2 := HQ.i.cell 2 rfl
  have c3 := HQ.i.cell 3 rfl
  have c4 := HQ.i.cell 4 rfl
  have s0 := HQ.h.cell 0 rfl
  have s1 := HQ.h.cell 1 rfl
  have s2 := HQ.h.cell 2 rfl
  have s3 := HQ.h.cell 3 rfl
  have f1 := HQ.i.frozen 1
  have f2 := HQ.i.frozen 2
  have f3 := HQ.i.frozen 3
  have f4 := HQ.i.frozen 4
  have n1 := HQ.d12
  have n2 := HQ.d12.symm
  clear HQ
  go_wp2_with (refine wpList_load_row rfl 111 (.tmp 3) rfl g1 rfl 111 _ (0, 0) _ (HR.out.store 3 (.int .i64 ((x : Int) / 16384 % 16))).i Tryz.underlying111 rfl (by kernel_rfl) ?_; refine Hid.out ?_)
  unfold Hid
  have HQ := HR.out.store 3 (.int .i64 ((x : Int) / 16384 % 16))
  refine wpList_store_row rfl rfl 111 (.tmp 2) (.tmp 38) rfl g0 rfl _ rfl _ 111 HQ.r (by kernel_rfl) rfl rfl w.heap.size HQ.lo0 ?_
  intro W3 hB hK hs
  have HF : Hid (Below w.heap.size w W3) := HQ.bel.trans hK
  have HB : Hid (Blk _ _ _ _) := hB
  clear HQ hB hK hs HR
  go_wp2
  refine bodyPost_ret (results_cell_row rfl _ _ g0 111 _ (0, 0) _ rfl HB.out Tryz.underlying111 rfl (by kernel_rfl)) rfl ?_
  exact ⟨rfl, HF.out⟩

set_option maxHeartbeats 1000000 in
theorem read_ai (x : Nat) (hx : x < 4294967296) (w : World) (h : Tabs w) (k : Nat) (hk : formOf ((x : Int) / 67108864) = (k : Int)) (hk8 : k < 8) (HA : hasA k = true) (HB : hasB k = false) (HC : hasC k = false) (HI : hasI k = true) :
    Calls Tryz.prog 128 #[.int .u32 x] w fun e w' => e = .returned (insV ((x : Int) / 67108864) ((x : Int) / 4194304 % 16) 0 0 (sgn18 ((x : Int) % 262144))) ∧ Below w.heap.size w w' := by
  unfold insV
  go_enter Tryz.func128, Tryz.ntmps128
  go_wp2_with fail
  refine (form_any _ _ (boxed2 (cs := [_, _, _, _, _]) (ds := [_, _, _, _, _]) h rfl).1).mono ?_
  rintro e w1 ⟨rfl, hw⟩
  rw [hk]
  have ht := (boxed2 (cs := [_, _, _, _, _]) (ds := [_, _, _, _, _]) h hw).1
  have s0 := ht.shape k 0 hk8 (by omega)
  have s1 := ht.shape k 1 hk8 (by omega)
  have s2 := ht.shape k 2 hk8 (by omega)
  have s3 := ht.shape k 3 hk8 (by omega)
  simp only [shapeAt, HA, HB, HC, HI, List.getElem?_cons_zero, List.getElem?_cons_succ, Nat.add_zero] at s0 s1 s2 s3
  have HR0 := RdS.begin (ss := [.bool true, .bool false, .bool false, .bool true]) h hw rfl
  obtain ⟨g1, hg1⟩ : ∃ g1, g1 = w.heap.size + 1 := ⟨_, rfl⟩
  obtain ⟨g0, hg0⟩ : ∃ g0, g0 = w.heap.size := ⟨_, rfl⟩
  rw [← hg1, ← hg0] at HR0
  rw [← hg1, ← hg0]
  have HR : Hid (RdS _ _ _ _ _ _ _) := HR0
  have HK := hx
  clear hw ht h hk HA HB HC HI HR0 hg1 hg0
  go_wp2_with fail
  refine (reg22 x _ hx).mono ?_
  rintro e w2 ⟨rfl, hw2⟩
  rw [← hw2] at HR
  obtain ⟨g2, hg2⟩ : ∃ g2, g2 = w1.heap.size := ⟨_, rfl⟩
  rw [← hg2] at HR
  rw [← hg2]
  clear s0 s1 s2 s3 hg2 hw2
  have HQ := HR.out
  clear HR
  have HR : Hid (RdS _ _ _ _ _ _ _) := HQ
  have c0 := HQ.i.cell 0 rfl
  have c1 := HQ.i.cell 1 rfl
  have c2 := HQ.i.cell 2 rfl
  have c3 := HQ.i.cell 3 rfl
  have c4 := HQ.i.cell 4 rfl
  have s0 := HQ.h.cell 0 rfl
  have s1 := HQ.h.cell 1 rfl
  have s2 := HQ.h.cell 2 rfl
  have s3 := HQ.h.cell 3 rfl
  have f1 := HQ.i.frozen 1
  have f2 := HQ.i.frozen 2
  have f3 := HQ.i.frozen 3
  have f4 := HQ.i.frozen 4
  have n1 := HQ.d12
  have n2 := HQ.d12.symm
  clear HQ
  go_wp2_with fail
  have e4 : bits .and .u32 (x : Int) 262143 = ((x % 262144 : Nat) : Int) := by
    have := mask18 (x : Int)
    rw [show (x : Int) % 4294967296 = (x : Int) by omega] at this
    rw [this]; omega
  rw [e4]
  clear e4
  refine (sgn_any (x % 262144) _ (by omega)).mono ?_
  rintro e w2 ⟨rfl, hw2⟩
  have HQ := HR.out.store 1 (.int .i64 ((x : Int) / 4194304 % 16))
  rw [← hw2] at HQ
  clear hw2 c0 c1 c2 c3 c4 s0 s1 s2 s3 f1 f2 f3 f4 n1 n2 HR
  simp only [List.set_cons_zero, List.set_cons_succ] at HQ
  have HR : Hid (RdS _ _ _ _ _ _ _) := HQ
  have c0 := HQ.i.cell 0 rfl
  have c1 := HQ.i.cell 1 rfl
  have c2 := HQ.i.cell 2 rfl
  have c3 := HQ.i.cell 3 rfl
  have c4 := HQ.i.cell 4 rfl
  have s0 := HQ.h.cell 0 rfl
  have s1 := HQ.h.cell 1 rfl
  have s2 := HQ.h.cell 2 rfl
  have s3 := HQ.h.cell 3 rfl
  have f1 := HQ.i.frozen 1
  have f2 := HQ.i.frozen 2
  have f3 := HQ.i.frozen 3
  have f4 := HQ.i.frozen 4
  have n1 := HQ.d12
  have n2 := HQ.d12.symm
  clear HQ
  go_wp2_with (refine wpList_load_row rfl 111 (.tmp 3) rfl g1 rfl 111 _ (0, 0) _ (HR.out.store 4 (.int .i64 (sgn18 ((x : Int) % 262144)))).i Tryz.underlying111 rfl (by kernel_rfl) ?_; refine Hid.out ?_)
  unfold Hid
  have HQ := HR.out.store 4 (.int .i64 (sgn18 ((x : Int) % 262144)))
  refine wpList_store_row rfl rfl 111 (.tmp 2) (.tmp 38) rfl g0 rfl _ rfl _ 111 HQ.r (by kernel_rfl) rfl rfl w.heap.size HQ.lo0 ?_
  intro W3 hB hK hs
  have HF : Hid (Below w.heap.size w W3) := HQ.bel.trans hK
  have HB : Hid (Blk _ _ _ _) := hB
  clear HQ hB hK hs HR
  go_wp2
  refine bodyPost_ret (results_cell_row rfl _ _ g0 111 _ (0, 0) _ rfl HB.out Tryz.underlying111 rfl (by kernel_rfl)) rfl ?_
  exact ⟨rfl, HF.out⟩

set_option maxHeartbeats 1000000 in
theorem read_abi (x : Nat) (hx : x < 4294967296) (w : World) (h : Tabs w) (k : Nat) (hk : formOf ((x : Int) / 67108864) = (k : Int)) (hk8 : k < 8) (HA : hasA k = true) (HB : hasB k = true) (HC : hasC k = false) (HI : hasI k = true) :
    Calls Tryz.prog 128 #[.int .u32 x] w fun e w' => e = .returned (insV ((x : Int) / 67108864) ((x : Int) / 4194304 % 16) ((x : Int) / 262144 % 16) 0 (sgn18 ((x : Int) % 262144))) ∧ Below w.heap.size w w' := by
  unfold insV
  go_enter Tryz.func128, Tryz.ntmps128
  go_wp2_with fail
  refine (form_any _ _ (boxed2 (cs := [_, _, _, _, _]) (ds := [_, _, _, _, _]) h rfl).1).mono ?_
  rintro e w1 ⟨rfl, hw⟩
  rw [hk]
  have ht := (boxed2 (cs := [_, _, _, _, _]) (ds := [_, _, _, _, _]) h hw).1
  have s0 := ht.shape k 0 hk8 (by omega)
  have s1 := ht.shape k 1 hk8 (by omega)
  have s2 := ht.shape k 2 hk8 (by omega)
  have s3 := ht.shape k 3 hk8 (by omega)
  simp only [shapeAt, HA, HB, HC, HI, List.getElem?_cons_zero, List.getElem?_cons_succ, Nat.add_zero] at s0 s1 s2 s3
  have HR0 := RdS.begin (ss := [.bool true, .bool true, .bool false, .bool true]) h hw rfl
  obtain ⟨g1, hg1⟩ : ∃ g1, g1 = w.heap.size + 1 := ⟨_, rfl⟩
  obtain ⟨g0, hg0⟩ : ∃ g0, g0 = w.heap.size := ⟨_, rfl⟩
  rw [← hg1, ← hg0] at HR0
  rw [← hg1, ← hg0]
  have HR : Hid (RdS _ _ _ _ _ _ _) := HR0
  have HK := hx
  clear hw ht h hk HA HB HC HI HR0 hg1 hg0
  go_wp2_with fail
  refine (reg22 x _ hx).mono ?_
  rintro e w2 ⟨rfl, hw2⟩
  rw [← hw2] at HR
  obtain ⟨g2, hg2⟩ : ∃ g2, g2 = w1.heap.size := ⟨_, rfl⟩
  rw [← hg2] at HR
  rw [← hg2]
  clear s0 s1 s2 s3 hg2 hw2
  have HQ := HR.out
  clear HR
  have HR : Hid (RdS _ _ _ _ _ _ _) := HQ
  have c0 := HQ.i.cell 0 rfl
  have c1 := HQ.i.cell 1 rfl
  have c2 := HQ.i.cell 2 rfl
  have c3 := HQ.i.cell 3 rfl
  have c4 := HQ.i.cell 4 rfl
  have s0 := HQ.h.cell 0 rfl
  have s1 := HQ.h.cell 1 rfl
  have s2 := HQ.h.cell 2 rfl
  have s3 := HQ.h.cell 3 rfl
  have f1 := HQ.i.frozen 1
  have f2 := HQ.i.frozen 2
  have f3 := HQ.i.frozen 3
  have f4 := HQ.i.frozen 4
  have n1 := HQ.d12
  have n2 := HQ.d12.symm
  clear HQ
  go_wp2_with fail
  refine (reg18 x _ hx).mono ?_
  rintro e w2 ⟨rfl, hw2⟩
  have HQ := HR.out.store 1 (.int .i64 ((x : Int) / 4194304 % 16))
  rw [← hw2] at HQ
  clear hw2 c0 c1 c2 c3 c4 s0 s1 s2 s3 f1 f2 f3 f4 n1 n2 HR
  simp only [List.set_cons_zero, List.set_cons_succ] at HQ
  have HR : Hid (RdS _ _ _ _ _ _ _) := HQ
  have c0 := HQ.i.cell 0 rfl
  have c1 := HQ.i.cell 1 rfl
  have c2 := HQ.i.cell 2 rfl
  have c3 := HQ.i.cell 3 rfl
  have c4 := HQ.i.cell 4 rfl
  have s0 := HQ.h.cell 0 rfl
  have s1 := HQ.h.cell 1 rfl
  have s2 := HQ.h.cell 2 rfl
  have s3 := HQ.h.cell 3 rfl
  have f1 := HQ.i.frozen 1
  have f2 := HQ.i.frozen 2
  have f3 := HQ.i.frozen 3
  have f4 := HQ.i.frozen 4
  have n1 := HQ.d12
  have n2 := HQ.d12.symm
  clear HQ
  go_wp2_with fail
  have e4 : bits .and .u32 (x : Int) 262143 = ((x % 262144 : Nat) : Int) := by
    have := mask18 (x : Int)
    rw [show (x : Int) % 4294967296 = (x : Int) by omega] at this
    rw [this]; omega
  rw [e4]
  clear e4
  refine (sgn_any (x % 262144) _ (by omega)).mono ?_
  rintro e w2 ⟨rfl, hw2⟩
  have HQ := HR.out.store 2 (.int .i64 ((x : Int) / 262144 % 16))
  rw [← hw2] at HQ
  clear hw2 c0 c1 c2 c3 c4 s0 s1 s2 s3 f1 f2 f3 f4 n1 n2 HR
  simp only [List.set_cons_zero, List.set_cons_succ] at HQ
  have HR : Hid (RdS _ _ _ _ _ _ _) := HQ
  have c0 := HQ.i.cell 0 rfl
  have c1 := HQ.i.cell 1 rfl
  have c2 := HQ.i.cell 2 rfl
  have c3 := HQ.i.cell 3 rfl
  have c4 := HQ.i.cell 4 rfl
  have s0 := HQ.h.cell 0 rfl
  have s1 := HQ.h.cell 1 rfl
  have s2 := HQ.h.cell 2 rfl
  have s3 := HQ.h.cell 3 rfl
  have f1 := HQ.i.frozen 1
  have f2 := HQ.i.frozen 2
  have f3 := HQ.i.frozen 3
  have f4 := HQ.i.frozen 4
  have n1 := HQ.d12
  have n2 := HQ.d12.symm
  clear HQ
  go_wp2_with (refine wpList_load_row rfl 111 (.tmp 3) rfl g1 rfl 111 _ (0, 0) _ (HR.out.store 4 (.int .i64 (sgn18 ((x : Int) % 262144)))).i Tryz.underlying111 rfl (by kernel_rfl) ?_; refine Hid.out ?_)
  unfold Hid
  have HQ := HR.out.store 4 (.int .i64 (sgn18 ((x : Int) % 262144)))
  refine wpList_store_row rfl rfl 111 (.tmp 2) (.tmp 38) rfl g0 rfl _ rfl _ 111 HQ.r (by kernel_rfl) rfl rfl w.heap.size HQ.lo0 ?_
  intro W3 hB hK hs
  have HF : Hid (Below w.heap.size w W3) := HQ.bel.trans hK
  have HB : Hid (Blk _ _ _ _) := hB
  clear HQ hB hK hs HR
  go_wp2
  refine bodyPost_ret (results_cell_row rfl _ _ g0 111 _ (0, 0) _ rfl HB.out Tryz.underlying111 rfl (by kernel_rfl)) rfl ?_
  exact ⟨rfl, HF.out⟩

set_option maxHeartbeats 1000000 in
theorem read_i (x : Nat) (hx : x < 4294967296) (w : World) (h : Tabs w) (k : Nat) (hk : formOf ((x : Int) / 67108864) = (k : Int)) (hk8 : k < 8) (HA : hasA k = false) (HB : hasB k = false) (HC : hasC k = false) (HI : hasI k = true) :
    Calls Tryz.prog 128 #[.int .u32 x] w fun e w' => e = .returned (insV ((x : Int) / 67108864) 0 0 0 (sgn18 ((x : Int) % 262144))) ∧ Below w.heap.size w w' := by
  unfold insV
  go_enter Tryz.func128, Tryz.ntmps128
  go_wp2_with fail
  refine (form_any _ _ (boxed2 (cs := [_, _, _, _, _]) (ds := [_, _, _, _, _]) h rfl).1).mono ?_
  rintro e w1 ⟨rfl, hw⟩
  rw [hk]
  have ht := (boxed2 (cs := [_, _, _, _, _]) (ds := [_, _, _, _, _]) h hw).1
  have s0 := ht.shape k 0 hk8 (by omega)
  have s1 := ht.shape k 1 hk8 (by omega)
  have s2 := ht.shape k 2 hk8 (by omega)
  have s3 := ht.shape k 3 hk8 (by omega)
  simp only [shapeAt, HA, HB, HC, HI, List.getElem?_cons_zero, List.getElem?_cons_succ, Nat.add_zero] at s0 s1 s2 s3
  have HR0 := RdS.begin (ss := [.bool false, .bool false, .bool false, .bool true]) h hw rfl
  obtain ⟨g1, hg1⟩ : ∃ g1, g1 = w.heap.size + 1 := ⟨_, rfl⟩
  obtain ⟨g0, hg0⟩ : ∃ g0, g0 = w.heap.size := ⟨_, rfl⟩
  rw [← hg1, ← hg0] at HR0
  rw [← hg1, ← hg0]
  have HR : Hid (RdS _ _ _ _ _ _ _) := HR0
  have HK := hx
  clear hw ht h hk HA HB HC HI HR0 hg1 hg0
  go_wp2_with fail
  have e4 : bits .and .u32 (x : Int) 262143 = ((x % 262144 : Nat) : Int) := by
    have := mask18 (x : Int)
    rw [show (x : Int) % 4294967296 = (x : Int) by omega] at this
    rw [this]; omega
  rw [e4]
  clear e4
  refine (sgn_any (x % 262144) _ (by omega)).mono ?_
  rintro e w2 ⟨rfl, hw2⟩
  rw [← hw2] at HR
  obtain ⟨g2, hg2⟩ : ∃ g2, g2 = w1.heap.size := ⟨_, rfl⟩
  rw [← hg2] at HR
  rw [← hg2]
  clear s0 s1 s2 s3 hg2 hw2
  have HQ := HR.out
  clear HR
  have HR : Hid (RdS _ _ _ _ _ _ _) := HQ
  have c0 := HQ.i.cell 0 rfl
  have c1 := HQ.i.cell 1 rfl
  have c2 := HQ.i.cell 2 rfl
  have c3 := HQ.i.cell 3 rfl
  have c4 := HQ.i.cell 4 rfl
  have s0 := HQ.h.cell 0 rfl
  have s1 := HQ.h.cell 1 rfl
  have s2 := HQ.h.cell 2 rfl
  have s3 := HQ.h.cell 3 rfl
  have f1 := HQ.i.frozen 1
  have f2 := HQ.i.frozen 2
  have f3 := HQ.i.frozen 3
  have f4 := HQ.i.frozen 4
  have n1 := HQ.d12
  have n2 := HQ.d12.symm
  clear HQ
  go_wp2_with (refine wpList_load_row rfl 111 (.tmp 3) rfl g1 rfl 111 _ (0, 0) _ (HR.out.store 4 (.int .i64 (sgn18 ((x : Int) % 262144)))).i Tryz.underlying111 rfl (by kernel_rfl) ?_; refine Hid.out ?_)
  unfold Hid
  have HQ := HR.out.store 4 (.int .i64 (sgn18 ((x : Int) % 262144)))
  refine wpList_store_row rfl rfl 111 (.tmp 2) (.tmp 38) rfl g0 rfl _ rfl _ 111 HQ.r (by kernel_rfl) rfl rfl w.heap.size HQ.lo0 ?_
  intro W3 hB hK hs
  have HF : Hid (Below w.heap.size w W3) := HQ.bel.trans hK
  have HB : Hid (Blk _ _ _ _) := hB
  clear HQ hB hK hs HR
  go_wp2
  refine bodyPost_ret (results_cell_row rfl _ _ g0 111 _ (0, 0) _ rfl HB.out Tryz.underlying111 rfl (by kernel_rfl)) rfl ?_
  exact ⟨rfl, HF.out⟩

end Go.Proofs.YtipejahmjdamjaaGreatDoor.Is
