import Derived.Test.YtglhfijgnfignaaGreatHd
import Derived.Test.YtglhfijgnfignaaGreatRo
import Derived.StillTailTactics
namespace Go.Proofs.YtglhfijgnfignaaGreat
open Go.RowKit Go.Shelf
open Mq
set_option linter.unusedVariables false
set_option maxRecDepth 6000
set_option linter.unusedSimpArgs false
theorem Tryz.mixh : Tryz.prog.follows Departure.mixedOrders = true := by kernel_rfl
theorem fits_any (fr : Int) (sl : Value) (d b g : Nat) (xs : List UInt32) (w : World) (hd : Blk w d [.int .i64 fr, sl] 136) (hm : Mm w b g xs) (hx : ((xs.length / 16 : Nat) : Int) = fr) :
  Calls Tryz.prog 107 #[.pointer (some ⟨d, 0, none⟩), .pointer (some ⟨b, 0, none⟩)] w fun e w' => e = .returned (.int .i64 0) ∧ Keeps (fun _ => False) w w' := by
 have d0 := hd.cell (i := 0) rfl
 have HC : Hid (Calls Tryz.prog 36 #[.pointer (some ⟨b, 0, none⟩)] w.drew fun e w' => e = .returned (.int .i64 fr) ∧ w' = w.drew) := by
  rw [← hx]
  exact frames_any b g xs w.drew (hm.kept (Keeps.refl (fun _ => False) w).drew (fun h => h) fun h => h)
 clear hm hd hx
 go_enter Tryz.func107, Tryz.ntmps107
 go_upto_region 3 with fail
 refine wp_region_held_drew (S := (fun w' => w'.cell? ⟨d, 0, none⟩ = some (.int .i64 fr))) Tryz.mixh d0 (fun hHeld => ?_)
 simp only [t1, t2, List.length_nil, Nat.reduceAdd, t4, Array.replicate_zero, t6, List.nil_append, t8]
 refine tk 0 (.pointer (some ⟨b, 0, none⟩)) hHeld ?_
 refine tk 2 (.pointer (some ⟨d, 0, none⟩)) hHeld ?_
 refine tk 3 (.pointer (some ⟨d, 0, none⟩)) hHeld ?_
 refine tk 4 (.pointer (some ⟨d, 0, none⟩)) hHeld ?_
 refine tk 5 (.int .i64 fr) hHeld ?_
 simp only [Act.put, s1, s2, s3]
 refine rd 1 fun Kq hK => ?_
 go_simp
 refine HC.out.mono ?_
 rintro e w1 ⟨rfl, rfl⟩
 refine hK _ _ d0 (fun hHeld => ?_)
 simp only [Act.put, s1, s2, s3]
 refine tk 6 (.bool false) hHeld ?_
 simp only [Act.put, s1, s2, s3]
 refine wpAnyH_done (by kernel_rfl) ?_ _
 clear hHeld
 go_wp2
 go_ret
 exact ⟨rfl, (Keeps.refl _ _).drew⟩
structure Wds (w : World) (W E : Nat) (fr : Int) (n p : Nat) (d : Wrd) : Prop where
 top : Blk w W [.int .i64 fr, .slice (some ⟨E, 0, none⟩) n n] 136
 row : ∃ l, Blk w E l 149 ∧ l.length = n * 7 ∧ (l.drop (p * 7)).take 7 = d.vs
 pn : p < n
theorem Wds.kept {S : Nat → Prop} {w w' : World} {W E : Nat} {fr : Int} {n p : Nat} {d : Wrd} (h : Wds w W E fr n p d) (k : Keeps S w w') (h1 : ¬ S W) (h2 : ¬ S E) : Wds w' W E fr n p d :=
 ⟨h.top.kept k h1, h.row.elim fun l hl => ⟨l, hl.1.kept k h2, hl.2⟩, h.pn⟩
theorem Wds.cells {w : World} {W E : Nat} {fr : Int} {n p : Nat} {d : Wrd} (h : Wds w W E fr n p d) : w.cell? ⟨E, p * 7, none⟩ = some (.int .i64 (d.sv : Int)) ∧ w.cell? ⟨E, p * 7 + 1, none⟩ = some (.int .i64 (d.st : Int)) ∧ w.cell? ⟨E, p * 7 + 2, none⟩ = some (.int .u32 (d.en.toNat : Int)) ∧ w.cell? ⟨E, p * 7 + 3, none⟩ = some (.int .u32 d.rs) ∧ w.cell? ⟨E, p * 7 + 4, none⟩ = some (.int .u32 d.ou) ∧ w.cell? ⟨E, p * 7 + 5, none⟩ = some d.fh ∧ w.cell? ⟨E, p * 7 + 6, none⟩ = some d.fa := by
 obtain ⟨l, hb, hl, hv⟩ := h.row
 have hq : ∀ i v, d.vs[i]? = some v → w.cell? ⟨E, p * 7 + i, none⟩ = some v := by
  intro i v hi
  refine hb.cell ?_
  rw [← hv, List.getElem?_take] at hi
  split at hi
  ·
   rw [List.getElem?_drop] at hi; exact hi
  ·
   cases hi
 exact ⟨hq 0 _ rfl, hq 1 _ rfl, hq 2 _ rfl, hq 3 _ rfl, hq 4 _ rfl, hq 5 _ rfl, hq 6 _ rfl⟩
theorem find_any (fr : Int) (E n W b g p : Nat) (d : Wrd) (xs : List UInt32) (w : World) (hw : Wds w W E fr n p d) (hm : Mm w b g xs) (hx : ((xs.length / 16 : Nat) : Int) = fr) (h1 : d.fh.oneCell' = true) (h2 : d.fa.oneCell' = true) :
  Calls Tryz.prog 67 #[.pointer (some ⟨W, 0, none⟩), .pointer (some ⟨b, 0, none⟩), .int .i64 p] w fun e w' => e = .returned (.tuple #[d.v, .int .i64 0]) ∧ Keeps (fun _ => False) w w' := by
 obtain ⟨W0, hW0⟩ : ∃ W0, W0 = w.alloc (.cells #[.int .i64 0, .int .i64 0, .int .u32 0, .int .u32 0, .int .u32 0, .nilFunc, .nilFunc] 149) := ⟨_, rfl⟩
 obtain ⟨D, hD⟩ : ∃ D, D = w.heap.size := ⟨_, rfl⟩
 have hK0 : Keeps (fun _ => False) w W0 := by rw [hW0]; exact (Keeps.refl _ w).alloc _
 have hZ : Blk W0 D [.int .i64 0, .int .i64 0, .int .u32 0, .int .u32 0, .int .u32 0, .nilFunc, .nilFunc] 149 := by rw [hW0, hD]; exact Blk.new w _ 149
 have hw0 : Wds W0 W E fr n p d := hw.kept hK0 (fun h => h) fun h => h
 have HC : Hid (Calls _ _ _ W0 _) := fits_any fr _ W b g xs W0 hw0.top (hm.kept hK0 (fun h => h) fun h => h) hx
 have HA : Hid (Keeps (fun _ => False) w W0 ∧ Wds W0 W E fr n p d ∧ Blk W0 D [.int .i64 0, .int .i64 0, .int .u32 0, .int .u32 0, .int .u32 0, .nilFunc, .nilFunc] 149 ∧ w.heap.size = D) := ⟨hK0, hw0, hZ, hD.symm⟩
 have hpn := hw.pn
 have H1 : Hid (d.fh.oneCell' = true ∧ d.fa.oneCell' = true) := ⟨h1, h2⟩
 clear hK0 hZ hw hw0 hm hx h1 h2
 go_enter Tryz.func67, Tryz.ntmps67
 go_upto_region 1 with fail
 rw [← hW0, ← hD]
 clear hW0 hD
 go_wp2_with fail
 refine HC.out.mono ?_
 rintro e w1 ⟨rfl, hK1⟩
 have HK : Hid (Keeps (fun _ => False) w w1) := HA.out.1.trans hK1 fun _ _ h => h
 have hw1 : Wds w1 W E fr n p d := HA.out.2.1.kept hK1 (fun h => h) fun h => h
 have c1 := hw1.top.cell (i := 1) rfl
 obtain ⟨e0, e1, e2, e3, e4, e5, e6⟩ := hw1.cells
 have HZ : Hid (Blk w1 D [.int .i64 0, .int .i64 0, .int .u32 0, .int .u32 0, .int .u32 0, .nilFunc, .nilFunc] 149) := HA.out.2.2.1.kept hK1 fun h => h
 have HR : Hid (Blk (w1.setRow D d.vs.toArray) D d.vs 149 ∧ Keeps (fun _ => False) w (w1.setRow D d.vs.toArray)) := ⟨Blk.setRow HZ.out _, HK.out.setRow _ _ fun h => by have := HA.out.2.2.2; omega⟩
 have p0 : ¬ (p : Int) < 0 := by omega
 have p1 : (p : Int) < n := by omega
 have hone : d.vs.toArray.all (·.oneCell') = true := by unfold Wrd.vs; simp [H1.out.1, H1.out.2]; exact ⟨rfl, rfl, rfl, rfl, rfl⟩
 have HO : Hid (d.vs.toArray.all (·.oneCell') = true) := hone
 clear hK1 HC hw1 hpn hone
 go_upto_region 6 with fail
 go_wp2_with (refine wpList_store_row rfl 149 (.tmp 6) (.tmp 34) rfl D d.vs.toArray rfl rfl 149 #[.int .i64 0, .int .i64 0, .int .u32 0, .int .u32 0, .int .u32 0, .nilFunc, .nilFunc] HZ.out Tryz.size149 rfl HO.out ?_; refine Hid.out ?_)
 unfold Hid
 go_wp2
 refine bodyPost_ret (results_row_tmp rfl _ _ D 149 d.vs.toArray (0, 0) _ rfl HR.out.1 Tryz.underlying149 rfl Tryz.size149) rfl ?_
 exact ⟨rfl, HR.out.2⟩
theorem region_tailH {id : Nat} {Q : Exit → Act → World → Prop} {a : Act} {w : World} {l : List Oper} (n : Nat) (hB : Region.lexTailB .any l.toArray n = true)
  (h : wpStill Tryz.prog l.toArray (w.drewN 1) (fun a' => wpList Tryz.prog l.toArray Q (l.drop n) a' (w.drewN 1)) (l.take n) a) : (Code.region id l.toArray true).wp Tryz.prog Q a w :=
 wp_region_still_tail n Tryz.mixh hB h
theorem hk {P : Program} {md : Region.Mode} {ops : Array Oper} {Q : Exit → Act → World → Prop} {S : World → Prop} {oi : Oper} {fuel : Nat} {listed : Array Bool} {a : Act} {w : World} (i : Nat) (v : Value) (hS : S w) (h : wpAnyH P md ops Q S fuel (listed.setIfInBounds i true) (a.put oi.dst v) w)
  (hi : ops[i]? = some oi := by (simp only [List.getElem?_toArray, List.getElem?_cons_succ, List.getElem?_cons_zero]; exact rfl))
  (hs : Region.noSelect ops = true := by kernel_rfl) (hf : Region.free md ops listed i = true := by kernel_rfl) (hc : (Region.ready md ops listed).contains i = true := by kernel_rfl)
  (hQ : ∀ c a w, Q (.panic c) (a.put oi.dst v) w → Q (.panic c) a w := by exact fun _ _ _ h => h) (hg : Region.wanted oi (yielded ops a.tmps) = true := by kernel_rfl)
  (hr : ∀ w, S w → (execOp a.eval oi).run P w = .ok (.value v) w := by (intro w hSw; (try dsimp only at hSw); go_simp; try omega)) : wpAnyH P md ops Q S (fuel + 1) listed a w :=
 wpAnyH_take hi hs hf hc hQ (Or.inl ⟨hg, hr⟩) hS h
theorem exec_load_row {P : Program} {o : Oper} {ev : Operand → Value} {w : World} (ty : TypeId) (x : Operand) (ho : o.op = .load ty x) (g : Nat) (hx : ev x = .pointer (some ⟨g, 0, none⟩)) (t : TypeId) (cs : Array Value) (fr : Nat × Nat) (d : TypeDesc) (hg : w.heap[g]? = some (.cells cs t fr))
  (hu : P.underlying ty = some d) (hd : (match d with | .struct _ | .array _ _ => true | _ => false) = true) (hi : (P.info? ty).map (·.size) = some cs.size) : (execOp ev o).run P w = .ok (.value (.agg cs)) w := by
 unfold execOp
 simp only [ho, hx, Instr.loadAt, Instr.sureAddr, Sem.run_bind, Sem.run_pure, Result.andThen_ok, run_loadVar_row w g t ty cs fr d hg hu hd hi]
def stvs (s r t q o : UInt32) : List Value := [.int .u32 (s.toNat : Int), .int .u32 (r.toNat : Int), .int .u32 (t.toNat : Int), .int .u32 (q.toNat : Int), .int .u32 (o.toNat : Int)]
end Go.Proofs.YtglhfijgnfignaaGreat
