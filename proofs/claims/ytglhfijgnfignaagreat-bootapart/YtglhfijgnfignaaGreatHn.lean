import Derived.Test.YtglhfijgnfignaaGreatHf
import Derived.Test.YtglhfijgnfignaaGreatHh
namespace Go.Proofs.YtglhfijgnfignaaGreat
open Go.RowKit Go.Shelf
open Mq
set_option linter.unusedVariables false
set_option maxRecDepth 6000
set_option linter.unusedSimpArgs false
def ent (en : UInt32) : List UInt32 := List.replicate 16 0 ++ [en]
theorem wp_make_run {P : Program} {o : Oper} {a : Act} {w : World} {K : Act → World → Prop} {Q : Exit → Act → World → Prop} (s x : Operand) (t : TypeId)
  (ho : o.op = .makeSlice t s x) (vs vx v' : Value) (w' : World) (hs : a.eval s = vs) (hx : a.eval x = vx)
  (hr : (Instr.makeSlice t vs vx).run P w = .ok v' w') (h : K (a.put o.dst v') w') : o.wp P a w K Q := by
 unfold Oper.wp execOp
 simp only [ho, hs, hx, Sem.run_bind, hr, Result.andThen_ok, Sem.run_pure]
 exact h
def zw5 : List UInt32 := [0, 0, 0, 0, 0]
def Sta0 : Sta := ⟨0, 0, 0, 0, 0⟩
theorem Hw.lay_0 {w w' : World} {c : Cns} {xs : List UInt32} {z : Sta} {v : List UInt32} (h : Hw w c xs z v) (k : Keeps (· = c.g) w w') (hm : Mm w' c.b c.g (lay xs (c.d.st + 0) zw5)) : Hw w' c (lay xs (c.d.st + 0) zw5) Sta0 v :=
 h.laid k hm (lay_length _ _ _ (by have := h.hi; simp [zw5]; omega)) (win_in xs c.d.st zw5 (by have := h.hi; simp [zw5]; omega) 5 rfl) (by rw [win_off _ _ _ (by have := h.hi; simp [zw5]; omega) _ _ (.inl (by have := h.lo; omega))]; exact h.sv)
  ⟨show ((0 : UInt32).toNat : Int) ≤ 3 by decide, by have := h.ok.r; show (0 : Int) ≤ _; omega, show ((0 : UInt32).toNat : Int) ≤ 6 by decide, fun _ => rfl, by have := h.ok.o; show (0 : Int) ≤ _; omega, fun e => absurd e (show ¬ ((0 : UInt32).toNat : Int) = 2 by decide)⟩
set_option maxHeartbeats 1000000 in
theorem bgn_any (c : Cns) (xs : List UInt32) (z : Sta) (v : List UInt32) (w : World) (h : Hw w c xs z v) : Calls Tryz.prog 40 #[.pointer (some ⟨c.W, 0, none⟩), .pointer (some ⟨c.b, 0, none⟩), .int .i64 c.p] w fun e w' => Left c w e (.int .i64 0) (lay (lay xs (c.d.st + 0) zw5) c.d.sv (ent c.d.en)) Sta0 (ent c.d.en) w' := by
 have H0 : Hid (Hw w c xs z v) := h
 have HC : Hid (Calls _ _ _ w _) := H0.out.find
 have HL : Hid (c.g < w.heap.size) := h.mm.row.lt
 clear h
 go_enter Tryz.func40, Tryz.ntmps40
 go_wp2_with fail
 refine HC.out.mono ?_
 rintro e w1 ⟨rfl, hKw1⟩
 have HS1 : Hid (w.heap.size ≤ w1.heap.size) := hKw1.size
 have Hw1 : Hid (Hw w1 c xs z v ∧ Keeps (fun _ => False) w w1) := ⟨H0.out.kept hKw1, hKw1⟩
 have HNw1 : Hid _ := one_new w1 c.d.vs rfl
 obtain ⟨W2, hW2⟩ : ∃ W2, W2 = ((w1.alloc (.cells #[.int .i64 0, .int .i64 0, .int .u32 0, .int .u32 0, .int .u32 0, .nilFunc, .nilFunc] 149)).setRow w1.heap.size c.d.vs.toArray) := ⟨_, rfl⟩
 obtain ⟨A, hA⟩ : ∃ A, A = w1.heap.size := ⟨_, rfl⟩
 have HW2 : Hid (Hw W2 c xs z v ∧ Blk W2 A c.d.vs 149 ∧ Keeps (fun _ => False) w W2 ∧ A ≠ c.g) := by
  obtain ⟨_, a, k⟩ := HNw1.out
  rw [← hW2] at a k
  rw [← hA] at a
  exact ⟨Hw1.out.1.kept k, a, Hw1.out.2.trans k fun _ _ h => h, by have := HL.out; have := HS1.out; omega⟩
 clear hKw1
 unfold Wrd.v
 go_wp2_with (refine wpList_store_row rfl 149 (.tmp 7) (.tmp 15) rfl w1.heap.size c.d.vs.toArray rfl rfl 149 #[.int .i64 0, .int .i64 0, .int .u32 0, .int .u32 0, .int .u32 0, .nilFunc, .nilFunc] HNw1.out.1 Tryz.size149 rfl Hw1.out.1.all ?_; refine Hid.out ?_)
 unfold Hid
 rw [← hW2, ← hA]
 clear hW2 hA HNw1 Hw1
 clear HC
 go_upto_region 4 with fail
 obtain ⟨W3, hW3⟩ : ∃ W3, W3 = W2.drew.alloc (.cells (wvs (List.replicate 5 0)).toArray 58) := ⟨_, rfl⟩
 have hKW3 : Keeps (fun _ => False) W2 W3 := by rw [hW3]; exact (Keeps.refl _ _).drew.alloc _
 have hBW3 : Blk W3 W2.heap.size (wvs zw5) 58 := by rw [hW3]; exact Blk.new W2.drew _ 58
 have hmk : (Instr.makeSlice 43 (.int .i64 5) (.int .i64 5)).run Tryz.prog W2.drew = .ok (.slice (some ⟨W2.heap.size, 0, none⟩) 5 5) W3 := by rw [hW3]; exact run_make_words (w := W2.drew) 5 (by omega)
 have HC2 : Hid (Calls Tryz.prog 68 #[c.d.v, .pointer (some ⟨c.b, 0, none⟩), .int .i64 0, .slice (some ⟨W2.heap.size, 0, none⟩) 5 5] W3 _) := write_any c.d c.b c.g xs 0 0 rfl (some ⟨W2.heap.size, 0, none⟩) 5 zw5 W3 (HW2.out.1.mm.kept hKW3 (fun h => h) fun h => h) (segW_of_blk hBW3) (by have := HW2.out.1.hi; simp [zw5]; omega)
 have H3 : Hid (Hw W3 c xs z v ∧ Keeps (fun _ => False) w W3 ∧ Blk W3 A c.d.vs 149) := ⟨HW2.out.1.kept hKW3, HW2.out.2.2.1.trans hKW3 fun _ _ h => h, HW2.out.2.1.kept hKW3 fun h => h⟩
 clear hKW3 hBW3 hW3
 have HM : Hid (_ = _) := hmk
 clear hmk
 refine wp_region_held_drew (S := fun w' => Blk w' A c.d.vs 149) Tryz.mixh HW2.out.2.1.drew (fun hHeld => ?_)
 simp only [t1, t2, List.length_nil, Nat.reduceAdd, t4, Array.replicate_zero, t6, List.nil_append, t8]
 refine hk 0 (.agg c.d.vs.toArray) hHeld ?_ (hr := fun w hS => exec_load_row 149 (.tmp 7) rfl A rfl 149 _ (0, 0) _ hS Tryz.underlying149 rfl Tryz.size149)
 refine hk 1 (.pointer (some ⟨c.b, 0, none⟩)) hHeld ?_
 simp only [Act.put, s1, s2, s3]
 refine rd 2 fun Kq hK => ?_
 refine wp_make_run (.const (.int .i64 5)) (.const (.int .i64 5)) 43 rfl (.int .i64 5) (.int .i64 5) (.slice (some ⟨W2.heap.size, 0, none⟩) 5 5) W3 rfl rfl HM.out ?_
 refine hK _ _ H3.out.2.2 (fun hHeld => ?_)
 simp only [Act.put, s1, s2, s3]
 refine rd 3 fun Kq hK => ?_
 go_simp
 refine HC2.out.mono ?_
 rintro e w4 ⟨rfl, hM, hKw⟩
 have H4 : Hid (Hw w4 c (lay xs (c.d.st + 0) zw5) Sta0 v ∧ Keeps (· = c.g) w w4 ∧ Blk w4 A c.d.vs 149) := ⟨H3.out.1.lay_0 hKw hM, (H3.out.2.1.mono fun _ _ h => h.elim).trans hKw fun _ _ h => h, H3.out.2.2.kept hKw HW2.out.2.2.2⟩
 clear hM hKw HC2
 refine hK _ _ H4.out.2.2 (fun hHeld => ?_)
 simp only [Act.put, s1, s2, s3]
 refine hk 4 (.int .i64 0) hHeld ?_
 simp only [Act.put, s1, s2, s3]
 refine wpAnyH_done (by kernel_rfl) ?_ _
 clear hHeld hK
 have c2 := H4.out.2.2.cell (i := 2) rfl
 have HC5 : Hid (Calls Tryz.prog 69 #[c.d.v, .pointer (some ⟨c.b, 0, none⟩), cxv (ent c.d.en)] w4 _) := save_any c.d c.b c.g _ (ent c.d.en) w4 H4.out.1.mm rfl (by have := H4.out.1.lo; have := H4.out.1.hi; omega)
 go_upto_region 7 with fail
 go_wp2_with (refine wpList_load_row rfl 149 (.tmp 7) rfl A rfl 149 c.d.vs.toArray (0, 0) _ H4.out.2.2 Tryz.underlying149 rfl Tryz.size149 ?_; refine Hid.out ?_)
 unfold Hid
 go_wp2_with fail
 refine HC5.out.mono ?_
 rintro e w6 ⟨rfl, hM, hKw⟩
 have H6 : Hid (Hw w6 c (lay (lay xs (c.d.st + 0) zw5) c.d.sv (ent c.d.en)) Sta0 (ent c.d.en) ∧ Keeps (· = c.g) w w6) := ⟨H4.out.1.lay_v (ent c.d.en) rfl hKw hM, H4.out.2.1.trans hKw fun _ _ h => h⟩
 clear hM hKw HC5
 go_wp2
 go_ret
 exact ⟨rfl, H6.out.1, H6.out.2⟩
end Go.Proofs.YtglhfijgnfignaaGreat
