import Derived.Test.YtofjbkoojimmhaaGreatHd
import Derived.Test.YtofjbkoojimmhaaGreatRo
import Derived.StillTailTactics
namespace Go.Proofs.YtofjbkoojimmhaaGreat
open Go.RowKit Go.Shelf
open Mq
set_option linter.unusedVariables false
set_option maxRecDepth 6000
set_option linter.unusedSimpArgs false
theorem Tryz.mixh : Tryz.prog.follows Departure.mixedOrders = true := by kernel_rfl
theorem fits_any (fr : Int) (sl : Value) (d b g : Nat) (xs : List UInt32) (w : World) (hd : Blk w d [.int .i64 fr, sl] 120) (hm : Mm w b g xs) (hx : ((xs.length / 16 : Nat) : Int) = fr) :
  Calls Tryz.prog 23 #[.pointer (some ⟨d, 0, none⟩), .pointer (some ⟨b, 0, none⟩)] w fun e w' => e = .returned (.int .i64 0) ∧ Keeps (fun _ => False) w w' := by
 have d0 := hd.cell (i := 0) rfl
 have HC : Hid (Calls Tryz.prog 40 #[.pointer (some ⟨b, 0, none⟩)] w.drew fun e w' => e = .returned (.int .i64 fr) ∧ w' = w.drew) := by
  rw [← hx]
  exact frames_any b g xs w.drew (hm.kept (Keeps.refl (fun _ => False) w).drew (fun h => h) fun h => h)
 clear hm hd hx
 go_enter Tryz.func23, Tryz.ntmps23
 go_upto_region 3 with fail
 refine wp_region_held_drew (S := (fun w' => w'.cell? ⟨d, 0, none⟩ = some (.int .i64 fr))) Tryz.mixh d0 (fun hHeld => ?_)
 simp only [t1, t2, List.length_nil, Nat.reduceAdd, t4, Array.replicate_zero, t6, List.nil_append, t8]
 refine tk 0 (.pointer (some ⟨b, 0, none⟩)) hHeld ?_
 refine tk 2 (.pointer (some ⟨d, 0, none⟩)) hHeld ?_
 refine tk 3 (.pointer (some ⟨d, 0, none⟩)) hHeld ?_
 refine tk 4 (.pointer (some ⟨d, 0, none⟩)) hHeld ?_
 refine tk 5 (.int .i64 fr) hHeld ?_
 simp only [Act.put, s1, s2, s3]
 refine rd 1 fun Kq hK => ?_
 go_simp
 refine HC.out.mono ?_
 rintro e w1 ⟨rfl, rfl⟩
 refine hK _ _ d0 (fun hHeld => ?_)
 simp only [Act.put, s1, s2, s3]
 refine tk 6 (.bool false) hHeld ?_
 simp only [Act.put, s1, s2, s3]
 refine wpAnyH_done (by kernel_rfl) ?_ _
 clear hHeld
 go_wp2
 go_ret
 exact ⟨rfl, (Keeps.refl _ _).drew⟩
structure Wds (w : World) (W E : Nat) (fr : Int) (n p : Nat) (d : Wrd) : Prop where
 top : Blk w W [.int .i64 fr, .slice (some ⟨E, 0, none⟩) n n] 120
 row : ∃ l, Blk w E l 82 ∧ l.length = n * 7 ∧ (l.drop (p * 7)).take 7 = d.vs
 pn : p < n
theorem Wds.kept {S : Nat → Prop} {w w' : World} {W E : Nat} {fr : Int} {n p : Nat} {d : Wrd} (h : Wds w W E fr n p d) (k : Keeps S w w') (h1 : ¬ S W) (h2 : ¬ S E) : Wds w' W E fr n p d :=
 ⟨h.top.kept k h1, h.row.elim fun l hl => ⟨l, hl.1.kept k h2, hl.2⟩, h.pn⟩
theorem Wds.cells {w : World} {W E : Nat} {fr : Int} {n p : Nat} {d : Wrd} (h : Wds w W E fr n p d) : w.cell? ⟨E, p * 7, none⟩ = some (.int .i64 (d.sv : Int)) ∧ w.cell? ⟨E, p * 7 + 1, none⟩ = some (.int .i64 (d.st : Int)) ∧ w.cell? ⟨E, p * 7 + 2, none⟩ = some (.int .u32 (d.en.toNat : Int)) ∧ w.cell? ⟨E, p * 7 + 3, none⟩ = some (.int .u32 d.rs) ∧ w.cell? ⟨E, p * 7 + 4, none⟩ = some (.int .u32 d.ou) ∧ w.cell? ⟨E, p * 7 + 5, none⟩ = some d.fh ∧ w.cell? ⟨E, p * 7 + 6, none⟩ = some d.fa := by
 obtain ⟨l, hb, hl, hv⟩ := h.row
 have hq : ∀ i v, d.vs[i]? = some v → w.cell? ⟨E, p * 7 + i, none⟩ = some v := by
  intro i v hi
  refine hb.cell ?_
  rw [← hv, List.getElem?_take] at hi
  split at hi
  ·
   rw [List.getElem?_drop] at hi; exact hi
  ·
   cases hi
 exact ⟨hq 0 _ rfl, hq 1 _ rfl, hq 2 _ rfl, hq 3 _ rfl, hq 4 _ rfl, hq 5 _ rfl, hq 6 _ rfl⟩
theorem z7_one : (#[.int .i64 0, .int .i64 0, .int .u32 0, .int .u32 0, .int .u32 0, .nilFunc, .nilFunc] : Array Value).all (·.oneCell') = true := by kernel_rfl
theorem find_no (fr : Int) (E n W b g : Nat) (p : Int) (xs : List UInt32) (w : World) (hd : Blk w W [.int .i64 fr, .slice (some ⟨E, 0, none⟩) n n] 120) (hm : Mm w b g xs) (hx : ((xs.length / 16 : Nat) : Int) = fr) (hp : p < 0 ∨ (n : Int) ≤ p) :
  Calls Tryz.prog 27 #[.pointer (some ⟨W, 0, none⟩), .pointer (some ⟨b, 0, none⟩), .int .i64 p] w fun e w' => e = .returned (.tuple #[.agg #[.int .i64 0, .int .i64 0, .int .u32 0, .int .u32 0, .int .u32 0, .nilFunc, .nilFunc], .int .i64 230]) ∧ Keeps (fun _ => False) w w' := by
 obtain ⟨W0, hW0⟩ : ∃ W0, W0 = w.alloc (.cells #[.int .i64 0, .int .i64 0, .int .u32 0, .int .u32 0, .int .u32 0, .nilFunc, .nilFunc] 82) := ⟨_, rfl⟩
 obtain ⟨D, hD⟩ : ∃ D, D = w.heap.size := ⟨_, rfl⟩
 have hK0 : Keeps (fun _ => False) w W0 := by rw [hW0]; exact (Keeps.refl _ w).alloc _
 have hZ : Blk W0 D [.int .i64 0, .int .i64 0, .int .u32 0, .int .u32 0, .int .u32 0, .nilFunc, .nilFunc] 82 := by rw [hW0, hD]; exact Blk.new w _ 82
 have HC : Hid (Calls _ _ _ W0 _) := fits_any fr _ W b g xs W0 (hd.kept hK0 fun h => h) (hm.kept hK0 (fun h => h) fun h => h) hx
 have HA : Hid (Keeps (fun _ => False) w W0 ∧ Blk W0 W [.int .i64 fr, .slice (some ⟨E, 0, none⟩) n n] 120 ∧ Blk W0 D [.int .i64 0, .int .i64 0, .int .u32 0, .int .u32 0, .int .u32 0, .nilFunc, .nilFunc] 82 ∧ w.heap.size = D) := ⟨hK0, hd.kept hK0 fun h => h, hZ, hD.symm⟩
 clear hK0 hZ hd hm hx
 go_enter Tryz.func27, Tryz.ntmps27
 go_upto_region 1 with fail
 rw [← hW0, ← hD]
 clear hW0 hD
 go_wp2_with fail
 refine HC.out.mono ?_
 rintro e w1 ⟨rfl, hK1⟩
 have HK : Hid (Keeps (fun _ => False) w w1) := HA.out.1.trans hK1 fun _ _ h => h
 have c1 := (HA.out.2.1.kept hK1 fun h => h).cell (i := 1) rfl
 have HZ : Hid (Blk w1 D [.int .i64 0, .int .i64 0, .int .u32 0, .int .u32 0, .int .u32 0, .nilFunc, .nilFunc] 82) := HA.out.2.2.1.kept hK1 fun h => h
 have HR : Hid (Blk (w1.setRow D #[.int .i64 0, .int .i64 0, .int .u32 0, .int .u32 0, .int .u32 0, .nilFunc, .nilFunc]) D [.int .i64 0, .int .i64 0, .int .u32 0, .int .u32 0, .int .u32 0, .nilFunc, .nilFunc] 82 ∧ Keeps (fun _ => False) w (w1.setRow D #[.int .i64 0, .int .i64 0, .int .u32 0, .int .u32 0, .int .u32 0, .nilFunc, .nilFunc])) := ⟨Blk.setRow HZ.out _, HK.out.setRow _ _ fun h => by have := HA.out.2.2.2; omega⟩
 clear hK1 HC
 by_cases h0 : p < 0
 ·
  clear hp
  go_wp2_with (refine wpList_store_row rfl 82 (.tmp 6) (.tmp 27) rfl D #[.int .i64 0, .int .i64 0, .int .u32 0, .int .u32 0, .int .u32 0, .nilFunc, .nilFunc] rfl rfl 82 #[.int .i64 0, .int .i64 0, .int .u32 0, .int .u32 0, .int .u32 0, .nilFunc, .nilFunc] HZ.out Tryz.size82 rfl z7_one ?_; refine Hid.out ?_)
  unfold Hid
  go_wp2
  refine bodyPost_ret (results_row_tmp rfl _ _ D 82 #[.int .i64 0, .int .i64 0, .int .u32 0, .int .u32 0, .int .u32 0, .nilFunc, .nilFunc] (0, 0) _ rfl HR.out.1 Tryz.underlying82 rfl Tryz.size82) rfl ?_
  exact ⟨rfl, HR.out.2⟩
 ·
  have h1 : (n : Int) ≤ p := by omega
  clear hp
  go_wp2_with (refine wpList_store_row rfl 82 (.tmp 6) (.tmp 27) rfl D #[.int .i64 0, .int .i64 0, .int .u32 0, .int .u32 0, .int .u32 0, .nilFunc, .nilFunc] rfl rfl 82 #[.int .i64 0, .int .i64 0, .int .u32 0, .int .u32 0, .int .u32 0, .nilFunc, .nilFunc] HZ.out Tryz.size82 rfl z7_one ?_; refine Hid.out ?_)
  unfold Hid
  go_wp2
  refine bodyPost_ret (results_row_tmp rfl _ _ D 82 #[.int .i64 0, .int .i64 0, .int .u32 0, .int .u32 0, .int .u32 0, .nilFunc, .nilFunc] (0, 0) _ rfl HR.out.1 Tryz.underlying82 rfl Tryz.size82) rfl ?_
  exact ⟨rfl, HR.out.2⟩
theorem find_any (fr : Int) (E n W b g p : Nat) (d : Wrd) (xs : List UInt32) (w : World) (hw : Wds w W E fr n p d) (hm : Mm w b g xs) (hx : ((xs.length / 16 : Nat) : Int) = fr) (h1 : d.fh.oneCell' = true) (h2 : d.fa.oneCell' = true) :
  Calls Tryz.prog 27 #[.pointer (some ⟨W, 0, none⟩), .pointer (some ⟨b, 0, none⟩), .int .i64 p] w fun e w' => e = .returned (.tuple #[d.v, .int .i64 0]) ∧ Keeps (fun _ => False) w w' := by
 obtain ⟨W0, hW0⟩ : ∃ W0, W0 = w.alloc (.cells #[.int .i64 0, .int .i64 0, .int .u32 0, .int .u32 0, .int .u32 0, .nilFunc, .nilFunc] 82) := ⟨_, rfl⟩
 obtain ⟨D, hD⟩ : ∃ D, D = w.heap.size := ⟨_, rfl⟩
 have hK0 : Keeps (fun _ => False) w W0 := by rw [hW0]; exact (Keeps.refl _ w).alloc _
 have hZ : Blk W0 D [.int .i64 0, .int .i64 0, .int .u32 0, .int .u32 0, .int .u32 0, .nilFunc, .nilFunc] 82 := by rw [hW0, hD]; exact Blk.new w _ 82
 have hw0 : Wds W0 W E fr n p d := hw.kept hK0 (fun h => h) fun h => h
 have HC : Hid (Calls _ _ _ W0 _) := fits_any fr _ W b g xs W0 hw0.top (hm.kept hK0 (fun h => h) fun h => h) hx
 have HA : Hid (Keeps (fun _ => False) w W0 ∧ Wds W0 W E fr n p d ∧ Blk W0 D [.int .i64 0, .int .i64 0, .int .u32 0, .int .u32 0, .int .u32 0, .nilFunc, .nilFunc] 82 ∧ w.heap.size = D) := ⟨hK0, hw0, hZ, hD.symm⟩
 have hpn := hw.pn
 have H1 : Hid (d.fh.oneCell' = true ∧ d.fa.oneCell' = true) := ⟨h1, h2⟩
 clear hK0 hZ hw hw0 hm hx h1 h2
 go_enter Tryz.func27, Tryz.ntmps27
 go_upto_region 1 with fail
 rw [← hW0, ← hD]
 clear hW0 hD
 go_wp2_with fail
 refine HC.out.mono ?_
 rintro e w1 ⟨rfl, hK1⟩
 have HK : Hid (Keeps (fun _ => False) w w1) := HA.out.1.trans hK1 fun _ _ h => h
 have hw1 : Wds w1 W E fr n p d := HA.out.2.1.kept hK1 (fun h => h) fun h => h
 have c1 := hw1.top.cell (i := 1) rfl
 obtain ⟨e0, e1, e2, e3, e4, e5, e6⟩ := hw1.cells
 have HZ : Hid (Blk w1 D [.int .i64 0, .int .i64 0, .int .u32 0, .int .u32 0, .int .u32 0, .nilFunc, .nilFunc] 82) := HA.out.2.2.1.kept hK1 fun h => h
 have HR : Hid (Blk (w1.setRow D d.vs.toArray) D d.vs 82 ∧ Keeps (fun _ => False) w (w1.setRow D d.vs.toArray)) := ⟨Blk.setRow HZ.out _, HK.out.setRow _ _ fun h => by have := HA.out.2.2.2; omega⟩
 have p0 : ¬ (p : Int) < 0 := by omega
 have p1 : (p : Int) < n := by omega
 have hone : d.vs.toArray.all (·.oneCell') = true := by unfold Wrd.vs; simp [H1.out.1, H1.out.2]; exact ⟨rfl, rfl, rfl, rfl, rfl⟩
 have HO : Hid (d.vs.toArray.all (·.oneCell') = true) := hone
 clear hK1 HC hw1 hpn hone
 go_upto_region 6 with fail
 go_wp2_with (refine wpList_store_row rfl 82 (.tmp 6) (.tmp 34) rfl D d.vs.toArray rfl rfl 82 #[.int .i64 0, .int .i64 0, .int .u32 0, .int .u32 0, .int .u32 0, .nilFunc, .nilFunc] HZ.out Tryz.size82 rfl HO.out ?_; refine Hid.out ?_)
 unfold Hid
 go_wp2
 refine bodyPost_ret (results_row_tmp rfl _ _ D 82 d.vs.toArray (0, 0) _ rfl HR.out.1 Tryz.underlying82 rfl Tryz.size82) rfl ?_
 exact ⟨rfl, HR.out.2⟩
theorem hk {P : Program} {md : Region.Mode} {ops : Array Oper} {Q : Exit → Act → World → Prop} {S : World → Prop} {oi : Oper} {fuel : Nat} {listed : Array Bool} {a : Act} {w : World} (i : Nat) (v : Value) (hS : S w) (h : wpAnyH P md ops Q S fuel (listed.setIfInBounds i true) (a.put oi.dst v) w)
  (hi : ops[i]? = some oi := by (simp only [List.getElem?_toArray, List.getElem?_cons_succ, List.getElem?_cons_zero]; exact rfl))
  (hs : Region.noSelect ops = true := by kernel_rfl) (hf : Region.free md ops listed i = true := by kernel_rfl) (hc : (Region.ready md ops listed).contains i = true := by kernel_rfl)
  (hQ : ∀ c a w, Q (.panic c) (a.put oi.dst v) w → Q (.panic c) a w := by exact fun _ _ _ h => h) (hg : Region.wanted oi (yielded ops a.tmps) = true := by kernel_rfl)
  (hr : ∀ w, S w → (execOp a.eval oi).run P w = .ok (.value v) w := by (intro w hSw; (try dsimp only at hSw); go_simp; try omega)) : wpAnyH P md ops Q S (fuel + 1) listed a w :=
 wpAnyH_take hi hs hf hc hQ (Or.inl ⟨hg, hr⟩) hS h
theorem hn {P : Program} {md : Region.Mode} {ops : Array Oper} {Q : Exit → Act → World → Prop} {S : World → Prop} {oi : Oper} {fuel : Nat} {listed : Array Bool} {a : Act} {w : World} (i : Nat) (hS : S w) (h : wpAnyH P md ops Q S fuel (listed.setIfInBounds i true) (a.put oi.dst undef) w)
  (hi : ops[i]? = some oi := by (simp only [List.getElem?_toArray, List.getElem?_cons_succ, List.getElem?_cons_zero]; exact rfl))
  (hs : Region.noSelect ops = true := by kernel_rfl) (hf : Region.free md ops listed i = true := by kernel_rfl) (hc : (Region.ready md ops listed).contains i = true := by kernel_rfl)
  (hQ : ∀ c a w, Q (.panic c) (a.put oi.dst undef) w → Q (.panic c) a w := by exact fun _ _ _ h => h) (hg : Region.wanted oi (yielded ops a.tmps) = false := by kernel_rfl) : wpAnyH P md ops Q S (fuel + 1) listed a w :=
 wpAnyH_take hi hs hf hc hQ (Or.inr ⟨hg, rfl⟩) hS h
theorem exec_load_row {P : Program} {o : Oper} {ev : Operand → Value} {w : World} (ty : TypeId) (x : Operand) (ho : o.op = .load ty x) (g : Nat) (hx : ev x = .pointer (some ⟨g, 0, none⟩)) (t : TypeId) (cs : Array Value) (fr : Nat × Nat) (d : TypeDesc) (hg : w.heap[g]? = some (.cells cs t fr))
  (hu : P.underlying ty = some d) (hd : (match d with | .struct _ | .array _ _ => true | _ => false) = true) (hi : (P.info? ty).map (·.size) = some cs.size) : (execOp ev o).run P w = .ok (.value (.agg cs)) w := by
 unfold execOp
 simp only [ho, hx, Instr.loadAt, Instr.sureAddr, Sem.run_bind, Sem.run_pure, Result.andThen_ok, run_loadVar_row w g t ty cs fr d hg hu hd hi]
theorem results_rows_tmp {P : Program} {fn : Func} {p q u : Tmp} {ty ty2 : TypeId} (h : fn.results = #[.cell p ty, .cell q ty2, .tmp u]) (tmps : Array Value) (w : World) (g g2 : Nat) (t t2 : TypeId) (cs cs2 : Array Value) (fr fr2 : Nat × Nat) (d d2 : TypeDesc)
  (hp : tmps.getD p undef = .pointer (some ⟨g, 0, none⟩)) (hg : w.heap[g]? = some (.cells cs t fr))
  (hu : P.underlying ty = some d) (hd : (match d with | .struct _ | .array _ _ => true | _ => false) = true) (hi : (P.info? ty).map (·.size) = some cs.size)
  (hp2 : tmps.getD q undef = .pointer (some ⟨g2, 0, none⟩)) (hg2 : w.heap[g2]? = some (.cells cs2 t2 fr2))
  (hu2 : P.underlying ty2 = some d2) (hd2 : (match d2 with | .struct _ | .array _ _ => true | _ => false) = true) (hi2 : (P.info? ty2).map (·.size) = some cs2.size) :
  (results fn tmps).run P w = .ok (.tuple #[.agg cs, .agg cs2, tmps.getD u undef]) w := by
 have hp' : tmps[p]?.getD undef = .pointer (some ⟨g, 0, none⟩) := by simpa using hp
 have hp2' : tmps[q]?.getD undef = .pointer (some ⟨g2, 0, none⟩) := by simpa using hp2
 simp [results, h, hp', hp2', asAddr, run_loadVar_row w g t ty cs fr d hg hu hd hi, run_loadVar_row w g2 t2 ty2 cs2 fr2 d2 hg2 hu2 hd2 hi2]
def stvs (s r t q o : UInt32) : List Value := [.int .u32 (s.toNat : Int), .int .u32 (r.toNat : Int), .int .u32 (t.toNat : Int), .int .u32 (q.toNat : Int), .int .u32 (o.toNat : Int)]
theorem stvs_one (s r t q o : UInt32) : (stvs s r t q o).toArray.all (·.oneCell') = true := by kernel_rfl
set_option maxHeartbeats 2000000 in
theorem asked_any (fr : Int) (E n W b g p : Nat) (d : Wrd) (xs : List UInt32) (s r t q o : UInt32) (w : World) (hw : Wds w W E fr n p d) (hm : Mm w b g xs) (hx : ((xs.length / 16 : Nat) : Int) = fr) (h1 : d.fh.oneCell' = true) (h2 : d.fa.oneCell' = true)
  (hf : d.st + 5 ≤ xs.length) (hs : (xs.drop d.st).take 5 = [s, r, t, q, o]) (hr : ∀ w, Calls Tryz.prog 39 #[d.v, stv s.toNat r.toNat t.toNat q.toNat o.toNat] w fun e w' => e = .returned (.bool true) ∧ Keeps (fun _ => False) w w') :
  Calls Tryz.prog 21 #[.pointer (some ⟨W, 0, none⟩), .pointer (some ⟨b, 0, none⟩), .int .i64 p] w fun e w' => e = .returned (.tuple #[d.v, stv s.toNat r.toNat t.toNat q.toNat o.toNat, .int .i64 0]) ∧ Keeps (fun _ => False) w w' := by
 obtain ⟨W0, hW0⟩ : ∃ W0, W0 = (w.alloc (.cells #[.int .i64 0, .int .i64 0, .int .u32 0, .int .u32 0, .int .u32 0, .nilFunc, .nilFunc] 82)).alloc (.cells #[.int .u32 0, .int .u32 0, .int .u32 0, .int .u32 0, .int .u32 0] 84) := ⟨_, rfl⟩
 obtain ⟨D, hD⟩ : ∃ D, D = w.heap.size := ⟨_, rfl⟩
 have hK0 : Keeps (fun _ => False) w W0 := by rw [hW0]; exact ((Keeps.refl _ w).alloc _).alloc _
 have hZ1 : Blk W0 D [.int .i64 0, .int .i64 0, .int .u32 0, .int .u32 0, .int .u32 0, .nilFunc, .nilFunc] 82 := by rw [hW0, hD]; exact (Blk.new w _ 82).alloc _
 have hZ2 : Blk W0 (D + 1) [.int .u32 0, .int .u32 0, .int .u32 0, .int .u32 0, .int .u32 0] 84 := by
  have := Blk.new (w.alloc (.cells #[.int .i64 0, .int .i64 0, .int .u32 0, .int .u32 0, .int .u32 0, .nilFunc, .nilFunc] 82)) #[.int .u32 0, .int .u32 0, .int .u32 0, .int .u32 0, .int .u32 0] 84
  rw [hW0, hD]
  simpa using this
 have hw0 : Wds W0 W E fr n p d := hw.kept hK0 (fun h => h) fun h => h
 have hm0 : Mm W0 b g xs := hm.kept hK0 (fun h => h) fun h => h
 have HC : Hid (Calls _ _ _ W0 _) := find_any fr E n W b g p d xs W0 hw0 hm0 hx h1 h2
 have hone : d.vs.toArray.all (·.oneCell') = true := by unfold Wrd.vs; simp [h1, h2]; exact ⟨rfl, rfl, rfl, rfl, rfl⟩
 have HA : Hid (Keeps (fun _ => False) w W0 ∧ Mm W0 b g xs ∧ Blk W0 D [.int .i64 0, .int .i64 0, .int .u32 0, .int .u32 0, .int .u32 0, .nilFunc, .nilFunc] 82 ∧ Blk W0 (D + 1) [.int .u32 0, .int .u32 0, .int .u32 0, .int .u32 0, .int .u32 0] 84 ∧ w.heap.size = D ∧ d.vs.toArray.all (·.oneCell') = true ∧ W0.heap.size = D + 2) := ⟨hK0, hm0, hZ1, hZ2, hD.symm, hone, by rw [hW0, hD]; simp⟩
 have HR : Hid (∀ w, Calls Tryz.prog 39 #[d.v, stv s.toNat r.toNat t.toNat q.toNat o.toNat] w fun e w' => e = .returned (.bool true) ∧ Keeps (fun _ => False) w w') := hr
 have HS : Hid (d.st + 5 ≤ xs.length ∧ (xs.drop d.st).take 5 = [s, r, t, q, o]) := ⟨hf, hs⟩
 clear hK0 hZ1 hZ2 hw hw0 hm hm0 hx h1 h2 hr hf hs hone
 go_enter Tryz.func21, Tryz.ntmps21
 go_upto_region 1 with fail
 rw [← hW0, ← hD]
 clear hW0 hD
 go_wp2_with fail
 refine HC.out.mono ?_
 rintro e w1 ⟨rfl, hK1⟩
 obtain ⟨A, hA⟩ : ∃ A, A = w1.heap.size := ⟨_, rfl⟩
 obtain ⟨Wa, hWa⟩ : ∃ Wa, Wa = w1.alloc (.cells #[.int .i64 0, .int .i64 0, .int .u32 0, .int .u32 0, .int .u32 0, .nilFunc, .nilFunc] 82) := ⟨_, rfl⟩
 have hZa : Blk Wa A [.int .i64 0, .int .i64 0, .int .u32 0, .int .u32 0, .int .u32 0, .nilFunc, .nilFunc] 82 := by rw [hWa, hA]; exact Blk.new w1 _ 82
 obtain ⟨W1, hW1⟩ : ∃ W1, W1 = Wa.setRow A d.vs.toArray := ⟨_, rfl⟩
 have hKW : Keeps (fun _ => False) W0 W1 := by rw [hW1, hWa]; exact (hK1.alloc _).setRow _ _ fun h => by have := hK1.size; omega
 have hAB : Blk W1 A d.vs 82 := by rw [hW1]; exact hZa.setRow _
 have hA2 : D + 2 ≤ A := by rw [hA, ← HA.out.2.2.2.2.2.2]; exact hK1.size
 have HA1 : Hid (Keeps (fun _ => False) W0 W1 ∧ Blk W1 A d.vs 82 ∧ D + 2 ≤ A) := ⟨hKW, hAB, hA2⟩
 have HC1 : Hid (Calls Tryz.prog 38 #[d.v, .pointer (some ⟨b, 0, none⟩)] W1 _) := read_any d b g xs s r t q o W1 (HA.out.2.1.kept hKW (fun h => h) fun h => h) HS.out.1 HS.out.2
 have HZa : Hid (Blk Wa A [.int .i64 0, .int .i64 0, .int .u32 0, .int .u32 0, .int .u32 0, .nilFunc, .nilFunc] 82 ∧ Wa.setRow A d.vs.toArray = W1) := ⟨hZa, hW1.symm⟩
 clear hKW hAB hA2 HC hK1 hZa hW1
 unfold Wrd.v
 have HN : Hid (Blk (w1.alloc (.cells #[.int .i64 0, .int .i64 0, .int .u32 0, .int .u32 0, .int .u32 0, .nilFunc, .nilFunc] 82)) w1.heap.size [.int .i64 0, .int .i64 0, .int .u32 0, .int .u32 0, .int .u32 0, .nilFunc, .nilFunc] 82) := Blk.new w1 _ 82
 go_wp2_with (refine wpList_store_row rfl 82 (.tmp 9) (.tmp 17) rfl w1.heap.size d.vs.toArray rfl rfl 82 #[.int .i64 0, .int .i64 0, .int .u32 0, .int .u32 0, .int .u32 0, .nilFunc, .nilFunc] HN.out Tryz.size82 rfl HA.out.2.2.2.2.2.1 ?_; refine Hid.out ?_)
 unfold Hid
 rw [← hWa, ← hA, HZa.out.2]
 clear hWa hA HN HZa
 go_wp2_with (refine wpList_load_row rfl 82 (.tmp 9) rfl A rfl 82 d.vs.toArray (0, 0) _ HA1.out.2.1 Tryz.underlying82 rfl Tryz.size82 ?_; refine Hid.out ?_)
 unfold Hid
 go_wp2_with fail
 refine HC1.out.mono ?_
 rintro e w2 ⟨rfl, hK2⟩
 obtain ⟨B, hB⟩ : ∃ B, B = w2.heap.size := ⟨_, rfl⟩
 obtain ⟨W2, hW2⟩ : ∃ W2, W2 = w2.alloc (.cells (stvs s r t q o).toArray 84) := ⟨_, rfl⟩
 have hKW : Keeps (fun _ => False) W1 W2 := by rw [hW2]; exact hK2.alloc _
 have hAB : Blk W2 B (stvs s r t q o) 84 := by rw [hW2, hB]; exact Blk.new w2 _ 84
 have HA2 : Hid (Keeps (fun _ => False) w W2 ∧ Blk W2 A d.vs 82 ∧ Blk W2 B (stvs s r t q o) 84 ∧ D + 2 ≤ A ∧ A < B ∧ Blk W2 D [.int .i64 0, .int .i64 0, .int .u32 0, .int .u32 0, .int .u32 0, .nilFunc, .nilFunc] 82 ∧ Blk W2 (D + 1) [.int .u32 0, .int .u32 0, .int .u32 0, .int .u32 0, .int .u32 0] 84) :=
  ⟨(HA.out.1.trans HA1.out.1 fun _ _ h => h).trans hKW fun _ _ h => h, HA1.out.2.1.kept hKW fun h => h, hAB, HA1.out.2.2, by rw [hB]; exact Nat.lt_of_lt_of_le HA1.out.2.1.lt hK2.size, (HA.out.2.2.1.kept HA1.out.1 fun h => h).kept hKW fun h => h, (HA.out.2.2.2.1.kept HA1.out.1 fun h => h).kept hKW fun h => h⟩
 have HC2 : Hid (Calls Tryz.prog 39 #[d.v, stv s.toNat r.toNat t.toNat q.toNat o.toNat] W2 _) := HR.out W2
 unfold stvs at hW2
 clear hKW hAB HC1 hK2
 go_upto_region 7 with fail
 rw [← hW2, ← hB]
 clear hW2 hB
 go_wp2_with (refine wpList_load_row rfl 82 (.tmp 9) rfl A rfl 82 d.vs.toArray (0, 0) _ HA2.out.2.1 Tryz.underlying82 rfl Tryz.size82 ?_; refine Hid.out ?_)
 unfold Hid
 go_wp2_with (refine wpList_load_row rfl 84 (.tmp 11) rfl B rfl 84 (stvs s r t q o).toArray (0, 0) _ HA2.out.2.2.1 Tryz.underlying84 rfl Tryz.size84 ?_; refine Hid.out ?_)
 unfold Hid
 go_wp2_with fail
 refine HC2.out.mono ?_
 rintro e w3 ⟨rfl, hK3⟩
 have HA3 : Hid (Keeps (fun _ => False) w w3 ∧ Blk w3 A d.vs 82 ∧ Blk w3 B (stvs s r t q o) 84 ∧ D + 2 ≤ A ∧ A < B ∧ Blk w3 D [.int .i64 0, .int .i64 0, .int .u32 0, .int .u32 0, .int .u32 0, .nilFunc, .nilFunc] 82 ∧ Blk w3 (D + 1) [.int .u32 0, .int .u32 0, .int .u32 0, .int .u32 0, .int .u32 0] 84) :=
  ⟨HA2.out.1.trans hK3 fun _ _ h => h, HA2.out.2.1.kept hK3 fun h => h, HA2.out.2.2.1.kept hK3 fun h => h, HA2.out.2.2.2.1, HA2.out.2.2.2.2.1, HA2.out.2.2.2.2.2.1.kept hK3 fun h => h, HA2.out.2.2.2.2.2.2.kept hK3 fun h => h⟩
 clear hK3 HC2
 go_upto_region 9 with fail
 obtain ⟨W4, hW4⟩ : ∃ W4, W4 = w3.drew.setRow D d.vs.toArray := ⟨_, rfl⟩
 obtain ⟨W5, hW5⟩ : ∃ W5, W5 = W4.setRow (D + 1) (stvs s r t q o).toArray := ⟨_, rfl⟩
 have HB : Hid (Blk w3.drew D [.int .i64 0, .int .i64 0, .int .u32 0, .int .u32 0, .int .u32 0, .nilFunc, .nilFunc] 82 ∧ Blk W4 (D + 1) [.int .u32 0, .int .u32 0, .int .u32 0, .int .u32 0, .int .u32 0] 84 ∧ (Blk W4 A d.vs 82 ∧ Blk W4 B (stvs s r t q o) 84) ∧ (Blk W5 A d.vs 82 ∧ Blk W5 B (stvs s r t q o) 84) ∧ Blk W5 D d.vs 82 ∧ Blk W5 (D + 1) (stvs s r t q o) 84 ∧ Keeps (fun _ => False) w W5) := by
  obtain ⟨k1, b1, b2, l1, l2, z1, z2⟩ := HA3.out
  have hw := HA.out.2.2.2.2.1
  have x1 : Blk w3.drew D [.int .i64 0, .int .i64 0, .int .u32 0, .int .u32 0, .int .u32 0, .nilFunc, .nilFunc] 82 := z1.drew
  have x2 : Blk W4 (D + 1) [.int .u32 0, .int .u32 0, .int .u32 0, .int .u32 0, .int .u32 0] 84 := by rw [hW4]; exact z2.drew.setRow_ne (by omega) _
  have x3 : Blk W4 A d.vs 82 := by rw [hW4]; exact b1.drew.setRow_ne (by omega) _
  have x4 : Blk W4 B (stvs s r t q o) 84 := by rw [hW4]; exact b2.drew.setRow_ne (by omega) _
  have x5 : Blk W4 D d.vs 82 := by rw [hW4]; exact x1.setRow _
  refine ⟨x1, x2, ⟨x3, x4⟩, ⟨?_, ?_⟩, ?_, ?_, ?_⟩
  ·
   rw [hW5]; exact x3.setRow_ne (by omega) _
  ·
   rw [hW5]; exact x4.setRow_ne (by omega) _
  ·
   rw [hW5]; exact x5.setRow_ne (by omega) _
  ·
   rw [hW5]; exact x2.setRow _
  ·
   rw [hW5, hW4]; exact (k1.drew.setRow _ _ fun h => by omega).setRow _ _ fun h => by omega
 refine wp_region_held_drew (S := fun w' => Blk w' A d.vs 82 ∧ Blk w' B (stvs s r t q o) 84) Tryz.mixh ⟨HA3.out.2.1.drew, HA3.out.2.2.1.drew⟩ (fun hHeld => ?_)
 simp only [t1, t2, List.length_nil, Nat.reduceAdd, t4, Array.replicate_zero, t6, List.nil_append, t8]
 refine hk 0 (.agg d.vs.toArray) hHeld ?_ (hr := fun w hS => exec_load_row 82 (.tmp 9) rfl A rfl 82 _ (0, 0) _ hS.1 Tryz.underlying82 rfl Tryz.size82)
 refine hk 1 (.agg (stvs s r t q o).toArray) hHeld ?_ (hr := fun w hS => exec_load_row 84 (.tmp 11) rfl B rfl 84 _ (0, 0) _ hS.2 Tryz.underlying84 rfl Tryz.size84)
 simp only [Act.put, s1, s2, s3]
 refine rd 2 fun Kq hK => ?_
 refine wp_store_row 82 (.tmp 6) (.tmp 41) rfl D d.vs.toArray (by rfl) (by rfl) 82 _ HB.out.1 Tryz.size82 rfl HA.out.2.2.2.2.2.1 ?_
 rw [← hW4]
 refine hK _ _ HB.out.2.2.1 (fun hHeld => ?_)
 simp only [Act.put, s1, s2, s3]
 refine rd 3 fun Kq hK => ?_
 refine wp_store_row 84 (.tmp 7) (.tmp 42) rfl (D + 1) (stvs s r t q o).toArray (by rfl) (by rfl) 84 _ HB.out.2.1 Tryz.size84 rfl (stvs_one s r t q o) ?_
 rw [← hW5]
 refine hK _ _ HB.out.2.2.2.1 (fun hHeld => ?_)
 simp only [Act.put, s1, s2, s3]
 refine hk 4 (.int .i64 0) hHeld ?_
 simp only [Act.put, s1, s2, s3]
 refine wpAnyH_done (by kernel_rfl) ?_ _
 clear hHeld hW4 hW5
 go_wp2
 refine bodyPost_ret (results_rows_tmp rfl _ _ D (D + 1) 82 84 d.vs.toArray (stvs s r t q o).toArray (0, 0) (0, 0) _ _ rfl HB.out.2.2.2.2.1 Tryz.underlying82 rfl Tryz.size82 rfl HB.out.2.2.2.2.2.1 Tryz.underlying84 rfl Tryz.size84) rfl ?_
 exact ⟨rfl, HB.out.2.2.2.2.2.2⟩
end Go.Proofs.YtofjbkoojimmhaaGreat
