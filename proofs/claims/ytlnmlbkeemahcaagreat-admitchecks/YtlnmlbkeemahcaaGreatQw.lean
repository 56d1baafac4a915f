import Derived.Test.YtlnmlbkeemahcaaGreatQu
namespace Go.Proofs.YtlnmlbkeemahcaaGreat
open Go.RowKit
set_option linter.unusedVariables false
set_option linter.unusedSimpArgs false
set_option maxRecDepth 6000
set_option maxHeartbeats 4000000 in
theorem q89t (x : Cfg) (N p i : Nat) (y : Win) (B C A : Nat) (hb : inR y.p (-1) ((x.ps.length : Int) - 1) = true) : Ask 104 #[.pointer (some ⟨B, 0, none⟩), .pointer (some ⟨C, 0, none⟩), .pointer (some ⟨A, 0, none⟩)] (Env x N [(B, [.int .i64 y.p, .int .i64 y.u, .int .i64 y.s], 44), (C, x.vs, 26), (A, [.int .i64 (p : Int), .int .i64 (i : Int)], 34)]) (unl (inR y.u 1 16384) ⟨419, p, i⟩) := by
 intro w hE
 have q1 : IntKind.i64.wrap ((x.ps.length : Int) - 1) = (x.ps.length : Int) - 1 := by have := hE.cin.plen; unfold maxLen at this; rw [IntKind.wrap_i64]; omega
 have HB : Hid (∀ w, Calls Tryz.prog 36 #[.int .i64 y.p, .int .i64 (-1), .int .i64 ((x.ps.length : Int) - 1)] w fun e w' => e = .returned (.bool true) ∧ KF w w') := fun w => by rw [← hb]; exact within_k _ _ _ w
 clear hb
 have HEk : Hid (∀ w w', (Env x N [(B, [.int .i64 y.p, .int .i64 y.u, .int .i64 y.s], 44), (C, x.vs, 26), (A, [.int .i64 (p : Int), .int .i64 (i : Int)], 34)]) w → KF w w' → (Env x N [(B, [.int .i64 y.p, .int .i64 y.u, .int .i64 y.s], 44), (C, x.vs, 26), (A, [.int .i64 (p : Int), .int .i64 (i : Int)], 34)]) w') := fun _ _ h k => h.kept k
 have HS : Hid (∀ w', (Env x N [(B, [.int .i64 y.p, .int .i64 y.u, .int .i64 y.s], 44), (C, x.vs, 26), (A, [.int .i64 (p : Int), .int .i64 (i : Int)], 34)]) w' → (w'.cell? ⟨B, 0, none⟩ = some (.int .i64 y.p) ∧ w'.cell? ⟨B, 1, none⟩ = some (.int .i64 y.u) ∧ w'.cell? ⟨B, 2, none⟩ = some (.int .i64 y.s) ∧ w'.cell? ⟨C, 0, none⟩ = some (.int .i64 x.frames) ∧ w'.cell? ⟨C, 1, none⟩ = some (.int .i64 x.major) ∧ w'.cell? ⟨C, 2, none⟩ = some (.int .i64 x.kernel) ∧ w'.cell? ⟨C, 3, none⟩ = some (.int .i64 x.room) ∧ w'.cell? ⟨C, 4, none⟩ = some (.slice x.ca x.cs.length x.cc) ∧ w'.cell? ⟨C, 5, none⟩ = some (.slice x.pa x.ps.length x.pc) ∧ w'.cell? ⟨C, 6, none⟩ = some (.slice x.ha x.hs.length x.hc) ∧ w'.cell? ⟨A, 0, none⟩ = some (.int .i64 (p : Int)) ∧ w'.cell? ⟨A, 1, none⟩ = some (.int .i64 (i : Int)))) := fun w' h => ⟨(h.bl _ (.head _)).cell (i := 0) rfl, (h.bl _ (.head _)).cell (i := 1) rfl, (h.bl _ (.head _)).cell (i := 2) rfl, (h.bl _ (.tail _ (.head _))).cell (i := 0) rfl, (h.bl _ (.tail _ (.head _))).cell (i := 1) rfl, (h.bl _ (.tail _ (.head _))).cell (i := 2) rfl, (h.bl _ (.tail _ (.head _))).cell (i := 3) rfl, (h.bl _ (.tail _ (.head _))).cell (i := 4) rfl, (h.bl _ (.tail _ (.head _))).cell (i := 5) rfl, (h.bl _ (.tail _ (.head _))).cell (i := 6) rfl, (h.bl _ (.tail _ (.tail _ (.head _)))).cell (i := 0) rfl, (h.bl _ (.tail _ (.tail _ (.head _)))).cell (i := 1) rfl⟩
 obtain ⟨W, hW⟩ : ∃ W, W = w.alloc (.cells #[.int .i64 0, .int .i64 0, .int .i64 0] 65) := ⟨_, rfl⟩
 obtain ⟨R, hR⟩ : ∃ R, R = w.heap.size := ⟨_, rfl⟩
 have HO : Hid (ObI w (Env x N [(B, [.int .i64 y.p, .int .i64 y.u, .int .i64 y.s], 44), (C, x.vs, 26), (A, [.int .i64 (p : Int), .int .i64 (i : Int)], 34)]) R W) := by rw [hW, hR]; exact ⟨hE.kept ((Keeps.refl _ _).alloc _), Blk.new _ _ _, (Keeps.refl _ _).alloc _, Nat.le_refl _⟩
 clear hE
 go_enter Tryz.func104, Tryz.ntmps104
 go_upto_region 1 with fail
 rw [← hW, ← hR]
 clear hW hR
 obtain ⟨c0_0, c0_1, c0_2, c1_0, c1_1, c1_2, c1_3, c1_4, c1_5, c1_6, c2_0, c2_1⟩ := HS.out _ HO.out.env
 go_wp2_with fail
 refine (HB.out W).mono ?_
 rintro e w1 ⟨rfl, hKc⟩
 have HO1 : Hid (ObI w (Env x N [(B, [.int .i64 y.p, .int .i64 y.u, .int .i64 y.s], 44), (C, x.vs, 26), (A, [.int .i64 (p : Int), .int .i64 (i : Int)], 34)]) R w1) := HO.out.kept HEk.out hKc
 clear hKc
 clear c0_0 c0_1 c0_2 c1_0 c1_1 c1_2 c1_3 c1_4 c1_5 c1_6 c2_0 c2_1
 obtain ⟨c0_0, c0_1, c0_2, c1_0, c1_1, c1_2, c1_3, c1_4, c1_5, c1_6, c2_0, c2_1⟩ := HS.out _ HO1.out.env
 go_wp2_with fail
 refine (within_k y.u 1 16384 w1).mono ?_
 rintro e w2 ⟨rfl, hKc⟩
 have HO2 : Hid (ObI w (Env x N [(B, [.int .i64 y.p, .int .i64 y.u, .int .i64 y.s], 44), (C, x.vs, 26), (A, [.int .i64 (p : Int), .int .i64 (i : Int)], 34)]) R w2) := HO1.out.kept HEk.out hKc
 clear hKc
 clear c0_0 c0_1 c0_2 c1_0 c1_1 c1_2 c1_3 c1_4 c1_5 c1_6 c2_0 c2_1
 obtain ⟨c0_0, c0_1, c0_2, c1_0, c1_1, c1_2, c1_3, c1_4, c1_5, c1_6, c2_0, c2_1⟩ := HS.out _ HO2.out.env
 go_wp2_with fail
 refine (unless_any (inR y.u 1 16384) 419 p i w2).mono ?_
 rintro e w3 ⟨rfl, hKc⟩
 have HO3 : Hid (ObI w (Env x N [(B, [.int .i64 y.p, .int .i64 y.u, .int .i64 y.s], 44), (C, x.vs, 26), (A, [.int .i64 (p : Int), .int .i64 (i : Int)], 34)]) R w3) := HO2.out.kept HEk.out hKc
 clear hKc
 clear c0_0 c0_1 c0_2 c1_0 c1_1 c1_2 c1_3 c1_4 c1_5 c1_6 c2_0 c2_1
 obtain ⟨c0_0, c0_1, c0_2, c1_0, c1_1, c1_2, c1_3, c1_4, c1_5, c1_6, c2_0, c2_1⟩ := HS.out _ HO3.out.env
 obtain ⟨Gz, hG⟩ : ∃ Gz : Flt, unl (inR y.u 1 16384) ⟨419, p, i⟩ = Gz := ⟨_, rfl⟩
 have HG : Hid (unl (inR y.u 1 16384) ⟨419, p, i⟩ = Gz) := hG
 rw [hG]
 clear hG
 obtain ⟨gn, ga, gb⟩ := Gz
 have m0 := HO3.out.ans.cell (i := 0) rfl
 have m1 := HO3.out.ans.cell (i := 1) rfl
 have m2 := HO3.out.ans.cell (i := 2) rfl
 have n0 := HO3.out.ans.frozen 0
 have n1 := HO3.out.ans.frozen 1
 have n2 := HO3.out.ans.frozen 2
 clear c0_0 c0_1 c0_2 c1_0 c1_1 c1_2 c1_3 c1_4 c1_5 c1_6 c2_0 c2_1
 go_wp2
 obtain ⟨hB, hK3⟩ := set3 HO3.out.ans (.int .i64 gn) (.int .i64 ga) (.int .i64 gb)
 obtain ⟨Wb, hWb⟩ : ∃ Wb, Wb = (((w3.setCell ⟨R, 0, none⟩ (.int .i64 gn)).setCell ⟨R, 1, none⟩ (.int .i64 ga)).setCell ⟨R, 2, none⟩ (.int .i64 gb)) := ⟨_, rfl⟩
 rw [← hWb] at hB hK3 ⊢
 (try simp only [Exit.inBlock, Exit.then])
 refine bodyPost_ret (results_cell_row rfl _ _ R 65 _ (0, 0) _ rfl hB Tryz.underlying65 rfl (by kernel_rfl)) rfl ?_
 have hlo := HO.out.lo
 exact ⟨by rw [HG.out], HO3.out.keeps.trans hK3 fun k hk e => by omega⟩
set_option maxHeartbeats 4000000 in
theorem q89f (x : Cfg) (N p i : Nat) (y : Win) (B C A : Nat) (hb : inR y.p (-1) ((x.ps.length : Int) - 1) = false) : Ask 104 #[.pointer (some ⟨B, 0, none⟩), .pointer (some ⟨C, 0, none⟩), .pointer (some ⟨A, 0, none⟩)] (Env x N [(B, [.int .i64 y.p, .int .i64 y.u, .int .i64 y.s], 44), (C, x.vs, 26), (A, [.int .i64 (p : Int), .int .i64 (i : Int)], 34)]) (unl (false) ⟨419, p, i⟩) := by
 intro w hE
 have q1 : IntKind.i64.wrap ((x.ps.length : Int) - 1) = (x.ps.length : Int) - 1 := by have := hE.cin.plen; unfold maxLen at this; rw [IntKind.wrap_i64]; omega
 have HB : Hid (∀ w, Calls Tryz.prog 36 #[.int .i64 y.p, .int .i64 (-1), .int .i64 ((x.ps.length : Int) - 1)] w fun e w' => e = .returned (.bool false) ∧ KF w w') := fun w => by rw [← hb]; exact within_k _ _ _ w
 clear hb
 have HEk : Hid (∀ w w', (Env x N [(B, [.int .i64 y.p, .int .i64 y.u, .int .i64 y.s], 44), (C, x.vs, 26), (A, [.int .i64 (p : Int), .int .i64 (i : Int)], 34)]) w → KF w w' → (Env x N [(B, [.int .i64 y.p, .int .i64 y.u, .int .i64 y.s], 44), (C, x.vs, 26), (A, [.int .i64 (p : Int), .int .i64 (i : Int)], 34)]) w') := fun _ _ h k => h.kept k
 have HS : Hid (∀ w', (Env x N [(B, [.int .i64 y.p, .int .i64 y.u, .int .i64 y.s], 44), (C, x.vs, 26), (A, [.int .i64 (p : Int), .int .i64 (i : Int)], 34)]) w' → (w'.cell? ⟨B, 0, none⟩ = some (.int .i64 y.p) ∧ w'.cell? ⟨B, 1, none⟩ = some (.int .i64 y.u) ∧ w'.cell? ⟨B, 2, none⟩ = some (.int .i64 y.s) ∧ w'.cell? ⟨C, 0, none⟩ = some (.int .i64 x.frames) ∧ w'.cell? ⟨C, 1, none⟩ = some (.int .i64 x.major) ∧ w'.cell? ⟨C, 2, none⟩ = some (.int .i64 x.kernel) ∧ w'.cell? ⟨C, 3, none⟩ = some (.int .i64 x.room) ∧ w'.cell? ⟨C, 4, none⟩ = some (.slice x.ca x.cs.length x.cc) ∧ w'.cell? ⟨C, 5, none⟩ = some (.slice x.pa x.ps.length x.pc) ∧ w'.cell? ⟨C, 6, none⟩ = some (.slice x.ha x.hs.length x.hc) ∧ w'.cell? ⟨A, 0, none⟩ = some (.int .i64 (p : Int)) ∧ w'.cell? ⟨A, 1, none⟩ = some (.int .i64 (i : Int)))) := fun w' h => ⟨(h.bl _ (.head _)).cell (i := 0) rfl, (h.bl _ (.head _)).cell (i := 1) rfl, (h.bl _ (.head _)).cell (i := 2) rfl, (h.bl _ (.tail _ (.head _))).cell (i := 0) rfl, (h.bl _ (.tail _ (.head _))).cell (i := 1) rfl, (h.bl _ (.tail _ (.head _))).cell (i := 2) rfl, (h.bl _ (.tail _ (.head _))).cell (i := 3) rfl, (h.bl _ (.tail _ (.head _))).cell (i := 4) rfl, (h.bl _ (.tail _ (.head _))).cell (i := 5) rfl, (h.bl _ (.tail _ (.head _))).cell (i := 6) rfl, (h.bl _ (.tail _ (.tail _ (.head _)))).cell (i := 0) rfl, (h.bl _ (.tail _ (.tail _ (.head _)))).cell (i := 1) rfl⟩
 obtain ⟨W, hW⟩ : ∃ W, W = w.alloc (.cells #[.int .i64 0, .int .i64 0, .int .i64 0] 65) := ⟨_, rfl⟩
 obtain ⟨R, hR⟩ : ∃ R, R = w.heap.size := ⟨_, rfl⟩
 have HO : Hid (ObI w (Env x N [(B, [.int .i64 y.p, .int .i64 y.u, .int .i64 y.s], 44), (C, x.vs, 26), (A, [.int .i64 (p : Int), .int .i64 (i : Int)], 34)]) R W) := by rw [hW, hR]; exact ⟨hE.kept ((Keeps.refl _ _).alloc _), Blk.new _ _ _, (Keeps.refl _ _).alloc _, Nat.le_refl _⟩
 clear hE
 go_enter Tryz.func104, Tryz.ntmps104
 go_upto_region 1 with fail
 rw [← hW, ← hR]
 clear hW hR
 obtain ⟨c0_0, c0_1, c0_2, c1_0, c1_1, c1_2, c1_3, c1_4, c1_5, c1_6, c2_0, c2_1⟩ := HS.out _ HO.out.env
 go_wp2_with fail
 refine (HB.out W).mono ?_
 rintro e w1 ⟨rfl, hKc⟩
 have HO1 : Hid (ObI w (Env x N [(B, [.int .i64 y.p, .int .i64 y.u, .int .i64 y.s], 44), (C, x.vs, 26), (A, [.int .i64 (p : Int), .int .i64 (i : Int)], 34)]) R w1) := HO.out.kept HEk.out hKc
 clear hKc
 clear c0_0 c0_1 c0_2 c1_0 c1_1 c1_2 c1_3 c1_4 c1_5 c1_6 c2_0 c2_1
 obtain ⟨c0_0, c0_1, c0_2, c1_0, c1_1, c1_2, c1_3, c1_4, c1_5, c1_6, c2_0, c2_1⟩ := HS.out _ HO1.out.env
 go_wp2_with fail
 refine (unless_any (false) 419 p i w1).mono ?_
 rintro e w2 ⟨rfl, hKc⟩
 have HO2 : Hid (ObI w (Env x N [(B, [.int .i64 y.p, .int .i64 y.u, .int .i64 y.s], 44), (C, x.vs, 26), (A, [.int .i64 (p : Int), .int .i64 (i : Int)], 34)]) R w2) := HO1.out.kept HEk.out hKc
 clear hKc
 clear c0_0 c0_1 c0_2 c1_0 c1_1 c1_2 c1_3 c1_4 c1_5 c1_6 c2_0 c2_1
 obtain ⟨c0_0, c0_1, c0_2, c1_0, c1_1, c1_2, c1_3, c1_4, c1_5, c1_6, c2_0, c2_1⟩ := HS.out _ HO2.out.env
 obtain ⟨Gz, hG⟩ : ∃ Gz : Flt, unl (false) ⟨419, p, i⟩ = Gz := ⟨_, rfl⟩
 have HG : Hid (unl (false) ⟨419, p, i⟩ = Gz) := hG
 rw [hG]
 clear hG
 obtain ⟨gn, ga, gb⟩ := Gz
 have m0 := HO2.out.ans.cell (i := 0) rfl
 have m1 := HO2.out.ans.cell (i := 1) rfl
 have m2 := HO2.out.ans.cell (i := 2) rfl
 have n0 := HO2.out.ans.frozen 0
 have n1 := HO2.out.ans.frozen 1
 have n2 := HO2.out.ans.frozen 2
 clear c0_0 c0_1 c0_2 c1_0 c1_1 c1_2 c1_3 c1_4 c1_5 c1_6 c2_0 c2_1
 go_wp2
 obtain ⟨hB, hK3⟩ := set3 HO2.out.ans (.int .i64 gn) (.int .i64 ga) (.int .i64 gb)
 obtain ⟨Wb, hWb⟩ : ∃ Wb, Wb = (((w2.setCell ⟨R, 0, none⟩ (.int .i64 gn)).setCell ⟨R, 1, none⟩ (.int .i64 ga)).setCell ⟨R, 2, none⟩ (.int .i64 gb)) := ⟨_, rfl⟩
 rw [← hWb] at hB hK3 ⊢
 (try simp only [Exit.inBlock, Exit.then])
 refine bodyPost_ret (results_cell_row rfl _ _ R 65 _ (0, 0) _ rfl hB Tryz.underlying65 rfl (by kernel_rfl)) rfl ?_
 have hlo := HO.out.lo
 exact ⟨by rw [HG.out], HO2.out.keeps.trans hK3 fun k hk e => by omega⟩
theorem q89 (x : Cfg) (N p i : Nat) (y : Win) (B C A : Nat) : Ask 104 #[.pointer (some ⟨B, 0, none⟩), .pointer (some ⟨C, 0, none⟩), .pointer (some ⟨A, 0, none⟩)] (Env x N [(B, [.int .i64 y.p, .int .i64 y.u, .int .i64 y.s], 44), (C, x.vs, 26), (A, [.int .i64 (p : Int), .int .i64 (i : Int)], 34)]) (unl (inR y.p (-1) ((x.ps.length : Int) - 1) && inR y.u 1 16384) ⟨419, p, i⟩) := by
 cases hn : inR y.p (-1) ((x.ps.length : Int) - 1) with
 | true => rw [Bool.true_and]; exact q89t x N p i y B C A hn
 | false => rw [Bool.false_and]; exact q89f x N p i y B C A hn
set_option maxHeartbeats 4000000 in
theorem q90 (x : Cfg) (N p i : Nat) (y : Win) (B A : Nat) : Ask 105 #[.pointer (some ⟨B, 0, none⟩), .pointer (some ⟨A, 0, none⟩)] (Env x N [(B, [.int .i64 y.p, .int .i64 y.u, .int .i64 y.s], 44), (A, [.int .i64 (p : Int), .int .i64 (i : Int)], 34)]) (unl (inR y.s 82 16384) ⟨420, p, i⟩) := by
 intro w hE
 have HEk : Hid (∀ w w', (Env x N [(B, [.int .i64 y.p, .int .i64 y.u, .int .i64 y.s], 44), (A, [.int .i64 (p : Int), .int .i64 (i : Int)], 34)]) w → KF w w' → (Env x N [(B, [.int .i64 y.p, .int .i64 y.u, .int .i64 y.s], 44), (A, [.int .i64 (p : Int), .int .i64 (i : Int)], 34)]) w') := fun _ _ h k => h.kept k
 have HS : Hid (∀ w', (Env x N [(B, [.int .i64 y.p, .int .i64 y.u, .int .i64 y.s], 44), (A, [.int .i64 (p : Int), .int .i64 (i : Int)], 34)]) w' → (w'.cell? ⟨B, 0, none⟩ = some (.int .i64 y.p) ∧ w'.cell? ⟨B, 1, none⟩ = some (.int .i64 y.u) ∧ w'.cell? ⟨B, 2, none⟩ = some (.int .i64 y.s) ∧ w'.cell? ⟨A, 0, none⟩ = some (.int .i64 (p : Int)) ∧ w'.cell? ⟨A, 1, none⟩ = some (.int .i64 (i : Int)))) := fun w' h => ⟨(h.bl _ (.head _)).cell (i := 0) rfl, (h.bl _ (.head _)).cell (i := 1) rfl, (h.bl _ (.head _)).cell (i := 2) rfl, (h.bl _ (.tail _ (.head _))).cell (i := 0) rfl, (h.bl _ (.tail _ (.head _))).cell (i := 1) rfl⟩
 obtain ⟨W, hW⟩ : ∃ W, W = w.alloc (.cells #[.int .i64 0, .int .i64 0, .int .i64 0] 65) := ⟨_, rfl⟩
 obtain ⟨R, hR⟩ : ∃ R, R = w.heap.size := ⟨_, rfl⟩
 have HO : Hid (ObI w (Env x N [(B, [.int .i64 y.p, .int .i64 y.u, .int .i64 y.s], 44), (A, [.int .i64 (p : Int), .int .i64 (i : Int)], 34)]) R W) := by rw [hW, hR]; exact ⟨hE.kept ((Keeps.refl _ _).alloc _), Blk.new _ _ _, (Keeps.refl _ _).alloc _, Nat.le_refl _⟩
 have HE0 : Hid ((Env x N [(B, [.int .i64 y.p, .int .i64 y.u, .int .i64 y.s], 44), (A, [.int .i64 (p : Int), .int .i64 (i : Int)], 34)]) w) := hE
 clear hE
 go_enter Tryz.func105, Tryz.ntmps105
 go_upto_region 1 with fail
 rw [← hW, ← hR]
 clear hW hR
 refine wp_region_held_drew (S := (fun w' => w'.cell? ⟨B, 0, none⟩ = some (.int .i64 y.p) ∧ w'.cell? ⟨B, 1, none⟩ = some (.int .i64 y.u) ∧ w'.cell? ⟨B, 2, none⟩ = some (.int .i64 y.s) ∧ w'.cell? ⟨A, 0, none⟩ = some (.int .i64 (p : Int)) ∧ w'.cell? ⟨A, 1, none⟩ = some (.int .i64 (i : Int)))) Tryz.mixd (HS.out _ (HO.out.env.kept ((Keeps.refl _ _).drew))) (fun hHeld => ?_)
 simp only [t1, t2, List.length_nil, Nat.reduceAdd, t4, Array.replicate_zero, t6, List.append_toArray, List.nil_append, t8]
 refine tk 0 (.pointer (some ⟨B, 2, none⟩)) hHeld ?_
 refine tk 1 (.int .i64 y.s) hHeld ?_
 refine tk 3 (.agg #[.int .i64 (p : Int), .int .i64 (i : Int)]) hHeld ?_
 simp only [Act.put, s1, s2, s3]
 refine rd 2 fun K hK => ?_
 go_simp
 refine (within_k y.s 82 16384 W.drew).mono ?_
 rintro r w1 ⟨rfl, hKc⟩
 have HO1 : Hid (ObI w (Env x N [(B, [.int .i64 y.p, .int .i64 y.u, .int .i64 y.s], 44), (A, [.int .i64 (p : Int), .int .i64 (i : Int)], 34)]) R w1) := HO.out.kept HEk.out (((Keeps.refl _ _).drew).trans hKc fun _ _ h => h)
 clear hKc
 refine hK.out _ _ (HS.out _ HO1.out.env) (fun hHeld => ?_)
 simp only [Act.put, s1, s2, s3]
 refine rd 4 fun K hK => ?_
 go_simp
 refine (unless_any (inR y.s 82 16384) 420 p i w1).mono ?_
 rintro r w2 ⟨rfl, hKc⟩
 have HO2 : Hid (ObI w (Env x N [(B, [.int .i64 y.p, .int .i64 y.u, .int .i64 y.s], 44), (A, [.int .i64 (p : Int), .int .i64 (i : Int)], 34)]) R w2) := HO1.out.kept HEk.out hKc
 clear hKc
 obtain ⟨Gz, hG⟩ : ∃ Gz : Flt, unl (inR y.s 82 16384) ⟨420, p, i⟩ = Gz := ⟨_, rfl⟩
 rw [hG]
 have HG : Hid (unl (inR y.s 82 16384) ⟨420, p, i⟩ = Gz) := hG
 clear hG
 refine hK.out _ _ (HS.out _ HO2.out.env) (fun hHeld => ?_)
 simp only [Act.put, s1, s2, s3]
 refine rd 5 fun K hK => ?_
 refine wp_store_row 65 _ _ rfl R #[.int .i64 Gz.n, .int .i64 Gz.a, .int .i64 Gz.b] (by rfl) (by rfl) 65 _ HO2.out.ans Tryz.size65 rfl (all53 ..) ?_
 obtain ⟨W5, hW5⟩ : ∃ W5, W5 = w2.setRow R #[.int .i64 Gz.n, .int .i64 Gz.a, .int .i64 Gz.b] := ⟨_, rfl⟩
 have hB5 : Blk W5 R [.int .i64 Gz.n, .int .i64 Gz.a, .int .i64 Gz.b] 65 := by rw [hW5]; exact HO2.out.ans.setRow _
 have k5 : Keeps (fun k => k = R) w2 W5 := by rw [hW5]; exact (Keeps.refl _ _).setRow _ _ fun _ => rfl
 have hlo := HO.out.lo
 have HO5 : Hid (Blk W5 R [.int .i64 Gz.n, .int .i64 Gz.a, .int .i64 Gz.b] 65 ∧ KF w W5) := ⟨hB5, HO2.out.keeps.trans k5 fun k hk e => by omega⟩
 have HE5 : Hid ((Env x N [(B, [.int .i64 y.p, .int .i64 y.u, .int .i64 y.s], 44), (A, [.int .i64 (p : Int), .int .i64 (i : Int)], 34)]) W5) := Env.kept' (HE0.out) HO2.out.env hlo k5
 rw [← hW5]
 clear hW5 hB5 k5 hlo
 refine hK.out _ _ (HS.out _ HE5.out) (fun hHeld => ?_)
 simp only [Act.put, s1, s2, s3]
 refine wpAnyH_done (by kernel_rfl) ?_ _
 clear hHeld
 go_wp2
 (try simp only [Exit.inBlock, Exit.then])
 refine bodyPost_ret (results_cell_row rfl _ _ R 65 _ (0, 0) _ rfl HO5.out.1 Tryz.underlying65 rfl (by kernel_rfl)) rfl ?_
 exact ⟨by rw [HG.out], HO5.out.2⟩
set_option maxHeartbeats 4000000 in
theorem q91 (x : Cfg) (N p i : Nat) (y : Win) (C I B A : Nat) (hp : p ≤ x.cs.length) : Ask 106 #[.pointer (some ⟨C, 0, none⟩), .pointer (some ⟨I, 0, none⟩), .pointer (some ⟨B, 0, none⟩), .pointer (some ⟨A, 0, none⟩)] (Env x N [(C, x.vs, 26), (I, [.int .i64 (p : Int)], 3), (B, [.int .i64 y.p, .int .i64 y.u, .int .i64 y.s], 44), (A, [.int .i64 (p : Int), .int .i64 (i : Int)], 34)]) (unl (!(hasW y.p (x.cs.take p))) ⟨422, p, i⟩) := by
 intro w hE
 have HM : Hid (∀ w, Env x N [(C, x.vs, 26), (I, [.int .i64 (p : Int)], 3), (B, [.int .i64 y.p, .int .i64 y.u, .int .i64 y.s], 44), (A, [.int .i64 (p : Int), .int .i64 (i : Int)], 34)] w → Calls Tryz.prog 107 #[.slice x.ca p x.cc, .int .i64 y.p] w fun e w' => e = .returned (.bool (hasW y.p (x.cs.take p))) ∧ KF w w') := fun w hE => by
  have hl : (x.cs.take p).length = p := by rw [List.length_take]; omega
  have := hasWindow_any y.p (x.cs.take p) x.ca x.cc (by rw [hl]; have := hE.cin.clen; omega) w (hE.cin.cseg.take p) (fun X hX => ⟨(hE.cin.cin X (List.mem_of_mem_take hX)).seg, (hE.cin.cin X (List.mem_of_mem_take hX)).len⟩)
  rw [hl] at this
  exact this
 have hpc : (p : Int) ≤ x.cc ∧ (x.cc : Int) ≤ 9223372036854775807 := by have := hE.cin.clen; unfold maxLen at this; omega
 have hpn : p ≤ x.cc := by omega
 clear hp
 have HEk : Hid (∀ w w', (Env x N [(C, x.vs, 26), (I, [.int .i64 (p : Int)], 3), (B, [.int .i64 y.p, .int .i64 y.u, .int .i64 y.s], 44), (A, [.int .i64 (p : Int), .int .i64 (i : Int)], 34)]) w → KF w w' → (Env x N [(C, x.vs, 26), (I, [.int .i64 (p : Int)], 3), (B, [.int .i64 y.p, .int .i64 y.u, .int .i64 y.s], 44), (A, [.int .i64 (p : Int), .int .i64 (i : Int)], 34)]) w') := fun _ _ h k => h.kept k
 have HS : Hid (∀ w', (Env x N [(C, x.vs, 26), (I, [.int .i64 (p : Int)], 3), (B, [.int .i64 y.p, .int .i64 y.u, .int .i64 y.s], 44), (A, [.int .i64 (p : Int), .int .i64 (i : Int)], 34)]) w' → (w'.cell? ⟨C, 0, none⟩ = some (.int .i64 x.frames) ∧ w'.cell? ⟨C, 1, none⟩ = some (.int .i64 x.major) ∧ w'.cell? ⟨C, 2, none⟩ = some (.int .i64 x.kernel) ∧ w'.cell? ⟨C, 3, none⟩ = some (.int .i64 x.room) ∧ w'.cell? ⟨C, 4, none⟩ = some (.slice x.ca x.cs.length x.cc) ∧ w'.cell? ⟨C, 5, none⟩ = some (.slice x.pa x.ps.length x.pc) ∧ w'.cell? ⟨C, 6, none⟩ = some (.slice x.ha x.hs.length x.hc) ∧ w'.cell? ⟨I, 0, none⟩ = some (.int .i64 (p : Int)) ∧ w'.cell? ⟨B, 0, none⟩ = some (.int .i64 y.p) ∧ w'.cell? ⟨B, 1, none⟩ = some (.int .i64 y.u) ∧ w'.cell? ⟨B, 2, none⟩ = some (.int .i64 y.s) ∧ w'.cell? ⟨A, 0, none⟩ = some (.int .i64 (p : Int)) ∧ w'.cell? ⟨A, 1, none⟩ = some (.int .i64 (i : Int)))) := fun w' h => ⟨(h.bl _ (.head _)).cell (i := 0) rfl, (h.bl _ (.head _)).cell (i := 1) rfl, (h.bl _ (.head _)).cell (i := 2) rfl, (h.bl _ (.head _)).cell (i := 3) rfl, (h.bl _ (.head _)).cell (i := 4) rfl, (h.bl _ (.head _)).cell (i := 5) rfl, (h.bl _ (.head _)).cell (i := 6) rfl, (h.bl _ (.tail _ (.head _))).cell (i := 0) rfl, (h.bl _ (.tail _ (.tail _ (.head _)))).cell (i := 0) rfl, (h.bl _ (.tail _ (.tail _ (.head _)))).cell (i := 1) rfl, (h.bl _ (.tail _ (.tail _ (.head _)))).cell (i := 2) rfl, (h.bl _ (.tail _ (.tail _ (.tail _ (.head _))))).cell (i := 0) rfl, (h.bl _ (.tail _ (.tail _ (.tail _ (.head _))))).cell (i := 1) rfl⟩
 obtain ⟨W, hW⟩ : ∃ W, W = w.alloc (.cells #[.int .i64 0, .int .i64 0, .int .i64 0] 65) := ⟨_, rfl⟩
 obtain ⟨R, hR⟩ : ∃ R, R = w.heap.size := ⟨_, rfl⟩
 have HO : Hid (ObI w (Env x N [(C, x.vs, 26), (I, [.int .i64 (p : Int)], 3), (B, [.int .i64 y.p, .int .i64 y.u, .int .i64 y.s], 44), (A, [.int .i64 (p : Int), .int .i64 (i : Int)], 34)]) R W) := by rw [hW, hR]; exact ⟨hE.kept ((Keeps.refl _ _).alloc _), Blk.new _ _ _, (Keeps.refl _ _).alloc _, Nat.le_refl _⟩
 have HE0 : Hid ((Env x N [(C, x.vs, 26), (I, [.int .i64 (p : Int)], 3), (B, [.int .i64 y.p, .int .i64 y.u, .int .i64 y.s], 44), (A, [.int .i64 (p : Int), .int .i64 (i : Int)], 34)]) w) := hE
 clear hE
 go_enter Tryz.func106, Tryz.ntmps106
 go_upto_region 1 with fail
 rw [← hW, ← hR]
 clear hW hR
 refine wp_region_held_drew (S := (fun w' => w'.cell? ⟨C, 0, none⟩ = some (.int .i64 x.frames) ∧ w'.cell? ⟨C, 1, none⟩ = some (.int .i64 x.major) ∧ w'.cell? ⟨C, 2, none⟩ = some (.int .i64 x.kernel) ∧ w'.cell? ⟨C, 3, none⟩ = some (.int .i64 x.room) ∧ w'.cell? ⟨C, 4, none⟩ = some (.slice x.ca x.cs.length x.cc) ∧ w'.cell? ⟨C, 5, none⟩ = some (.slice x.pa x.ps.length x.pc) ∧ w'.cell? ⟨C, 6, none⟩ = some (.slice x.ha x.hs.length x.hc) ∧ w'.cell? ⟨I, 0, none⟩ = some (.int .i64 (p : Int)) ∧ w'.cell? ⟨B, 0, none⟩ = some (.int .i64 y.p) ∧ w'.cell? ⟨B, 1, none⟩ = some (.int .i64 y.u) ∧ w'.cell? ⟨B, 2, none⟩ = some (.int .i64 y.s) ∧ w'.cell? ⟨A, 0, none⟩ = some (.int .i64 (p : Int)) ∧ w'.cell? ⟨A, 1, none⟩ = some (.int .i64 (i : Int)))) Tryz.mixd (HS.out _ (HO.out.env.kept ((Keeps.refl _ _).drew))) (fun hHeld => ?_)
 simp only [t1, t2, List.length_nil, Nat.reduceAdd, t4, Array.replicate_zero, t6, List.append_toArray, List.nil_append, t8]
 refine tk 0 (.pointer (some ⟨C, 4, none⟩)) hHeld ?_
 refine tk 1 (.slice x.ca x.cs.length x.cc) hHeld ?_
 refine tk 2 (.int .i64 (p : Int)) hHeld ?_
 refine tk 3 (.slice x.ca p x.cc) hHeld ?_
 refine tk 4 (.pointer (some ⟨B, 0, none⟩)) hHeld ?_
 refine tk 5 (.int .i64 y.p) hHeld ?_
 refine tk 8 (.agg #[.int .i64 (p : Int), .int .i64 (i : Int)]) hHeld ?_
 simp only [Act.put, s1, s2, s3]
 refine rd 6 fun K hK => ?_
 go_simp
 refine (HM.out W.drew (HO.out.env.kept ((Keeps.refl _ _).drew))).mono ?_
 rintro r w1 ⟨rfl, hKc⟩
 have HO1 : Hid (ObI w (Env x N [(C, x.vs, 26), (I, [.int .i64 (p : Int)], 3), (B, [.int .i64 y.p, .int .i64 y.u, .int .i64 y.s], 44), (A, [.int .i64 (p : Int), .int .i64 (i : Int)], 34)]) R w1) := HO.out.kept HEk.out (((Keeps.refl _ _).drew).trans hKc fun _ _ h => h)
 clear hKc
 refine hK.out _ _ (HS.out _ HO1.out.env) (fun hHeld => ?_)
 simp only [Act.put, s1, s2, s3]
 refine tk 7 (.bool (!(hasW y.p (x.cs.take p)))) hHeld ?_
 simp only [Act.put, s1, s2, s3]
 refine rd 9 fun K hK => ?_
 go_simp
 refine (unless_any (!(hasW y.p (x.cs.take p))) 422 p i w1).mono ?_
 rintro r w2 ⟨rfl, hKc⟩
 have HO2 : Hid (ObI w (Env x N [(C, x.vs, 26), (I, [.int .i64 (p : Int)], 3), (B, [.int .i64 y.p, .int .i64 y.u, .int .i64 y.s], 44), (A, [.int .i64 (p : Int), .int .i64 (i : Int)], 34)]) R w2) := HO1.out.kept HEk.out hKc
 clear hKc
 obtain ⟨Gz, hG⟩ : ∃ Gz : Flt, unl (!(hasW y.p (x.cs.take p))) ⟨422, p, i⟩ = Gz := ⟨_, rfl⟩
 rw [hG]
 have HG : Hid (unl (!(hasW y.p (x.cs.take p))) ⟨422, p, i⟩ = Gz) := hG
 clear hG
 refine hK.out _ _ (HS.out _ HO2.out.env) (fun hHeld => ?_)
 simp only [Act.put, s1, s2, s3]
 refine rd 10 fun K hK => ?_
 refine wp_store_row 65 _ _ rfl R #[.int .i64 Gz.n, .int .i64 Gz.a, .int .i64 Gz.b] (by rfl) (by rfl) 65 _ HO2.out.ans Tryz.size65 rfl (all53 ..) ?_
 obtain ⟨W5, hW5⟩ : ∃ W5, W5 = w2.setRow R #[.int .i64 Gz.n, .int .i64 Gz.a, .int .i64 Gz.b] := ⟨_, rfl⟩
 have hB5 : Blk W5 R [.int .i64 Gz.n, .int .i64 Gz.a, .int .i64 Gz.b] 65 := by rw [hW5]; exact HO2.out.ans.setRow _
 have k5 : Keeps (fun k => k = R) w2 W5 := by rw [hW5]; exact (Keeps.refl _ _).setRow _ _ fun _ => rfl
 have hlo := HO.out.lo
 have HO5 : Hid (Blk W5 R [.int .i64 Gz.n, .int .i64 Gz.a, .int .i64 Gz.b] 65 ∧ KF w W5) := ⟨hB5, HO2.out.keeps.trans k5 fun k hk e => by omega⟩
 have HE5 : Hid ((Env x N [(C, x.vs, 26), (I, [.int .i64 (p : Int)], 3), (B, [.int .i64 y.p, .int .i64 y.u, .int .i64 y.s], 44), (A, [.int .i64 (p : Int), .int .i64 (i : Int)], 34)]) W5) := Env.kept' (HE0.out) HO2.out.env hlo k5
 rw [← hW5]
 clear hW5 hB5 k5 hlo
 refine hK.out _ _ (HS.out _ HE5.out) (fun hHeld => ?_)
 simp only [Act.put, s1, s2, s3]
 refine wpAnyH_done (by kernel_rfl) ?_ _
 clear hHeld
 go_wp2
 (try simp only [Exit.inBlock, Exit.then])
 refine bodyPost_ret (results_cell_row rfl _ _ R 65 _ (0, 0) _ rfl HO5.out.1 Tryz.underlying65 rfl (by kernel_rfl)) rfl ?_
 exact ⟨by rw [HG.out], HO5.out.2⟩
def winF (x : Cfg) (p i : Nat) (y : Win) : List Flt :=
 [unl (inR y.p (-1) ((x.ps.length : Int) - 1) && inR y.u 1 16384) ⟨419, p, i⟩,
  unl (inR y.s 82 16384) ⟨420, p, i⟩,
  unl (!(hasW y.p (x.cs.take p))) ⟨422, p, i⟩]
theorem winQs (x : Cfg) (N p i : Nat) (y : Win) (B C I A : Nat) (hp : p ≤ x.cs.length) (L : List (Nat × List Value × TypeId)) (hL : L = [(A, [.int .i64 (p : Int), .int .i64 (i : Int)], 34), (B, [.int .i64 y.p, .int .i64 y.u, .int .i64 y.s], 44), (I, [.int .i64 (p : Int)], 3), (C, x.vs, 26)]) :
  Qs [(104, #[.pointer (some ⟨B, 0, none⟩), .pointer (some ⟨C, 0, none⟩), .pointer (some ⟨A, 0, none⟩)], unl (inR y.p (-1) ((x.ps.length : Int) - 1) && inR y.u 1 16384) ⟨419, p, i⟩),
    (105, #[.pointer (some ⟨B, 0, none⟩), .pointer (some ⟨A, 0, none⟩)], unl (inR y.s 82 16384) ⟨420, p, i⟩),
    (106, #[.pointer (some ⟨C, 0, none⟩), .pointer (some ⟨I, 0, none⟩), .pointer (some ⟨B, 0, none⟩), .pointer (some ⟨A, 0, none⟩)], unl (!(hasW y.p (x.cs.take p))) ⟨422, p, i⟩)] (Env x N L) := by
 refine ⟨fun _ _ h k => h.kept k, fun q hq args w => ?_, fun j q hj hpr => ?_, by simp⟩
 ·
  simp only [List.mem_cons, List.not_mem_nil, or_false] at hq
  rcases hq with rfl | rfl | rfl
  ·
   exact enter_fn Tryz.func104 rfl rfl args w
  ·
   exact enter_fn Tryz.func105 rfl rfl args w
  ·
   exact enter_fn Tryz.func106 rfl rfl args w
 ·
  match j, hj with
  | 0, hj =>
   cases hj
   exact (q89 x N p i y B C A).of fun w h => h.sub fun b hb => by rw [hL]; simp only [List.mem_cons, List.not_mem_nil, or_false] at hb ⊢; rcases hb with h | h | h <;> simp [h]
  | 1, hj =>
   cases hj
   exact (q90 x N p i y B A).of fun w h => h.sub fun b hb => by rw [hL]; simp only [List.mem_cons, List.not_mem_nil, or_false] at hb ⊢; rcases hb with h | h <;> simp [h]
  | 2, hj =>
   cases hj
   exact (q91 x N p i y C I B A hp).of fun w h => h.sub fun b hb => by rw [hL]; simp only [List.mem_cons, List.not_mem_nil, or_false] at hb ⊢; rcases hb with h | h | h | h <;> simp [h]
  | j + 3, hj => simp at hj
set_option maxHeartbeats 8000000 in
theorem windowQuestions_any (x : Cfg) (N p : Nat) (i : Nat) (X : Core) (y : Win) (hP : x.cs[p]? = some X) (hy : X.ws[i]? = some y)  :
  Makes 81 #[x.v, .int .i64 (p : Int), .int .i64 (i : Int)] (Env x N []) (firstF (winF x p i y)) := by
 intro w hE
 have hPlt := (List.getElem?_eq_some_iff.1 hP).1
 have hylt := (List.getElem?_eq_some_iff.1 hy).1
 obtain ⟨g0, o0, hpa, hc0⟩ := hE.cin.core hP
 have hXi := hE.cin.cin X (List.mem_of_getElem? hP)
 obtain ⟨g1, o1, hya, hc1⟩ := hXi.seg.at hy
 obtain ⟨W, hW⟩ : ∃ W, W = (x.laid w).alloc (.cells #[.int .i64 (p : Int)] 3) := ⟨_, rfl⟩
 obtain ⟨C, hC⟩ : ∃ C, C = w.heap.size := ⟨_, rfl⟩
 obtain ⟨I, hI⟩ : ∃ I, I = w.heap.size + 1 := ⟨_, rfl⟩
 have hE1 : Env x N [(C, x.vs, 26)] (x.laid w) := by rw [hC]; exact hE.box _ _
 have hE2 : Env x N [(I, [.int .i64 (p : Int)], 3), (C, x.vs, 26)] W := by
  have := hE1.box [.int .i64 (p : Int)] 3
  rw [hW, hI]
  simpa [Cfg.laid] using this
 have HO : Hid (Env x N [(I, [.int .i64 (p : Int)], 3), (C, x.vs, 26)] W ∧ KF w W) := ⟨hE2, by rw [hW]; exact ((Keeps.refl _ _).alloc _).alloc _⟩
 obtain ⟨PL, hPL⟩ : ∃ PL, x.cs.length = PL := ⟨_, rfl⟩
 obtain ⟨RL, hRL⟩ : ∃ RL, X.ws.length = RL := ⟨_, rfl⟩
 obtain ⟨W1, hW1⟩ : ∃ W1, W1 = W.alloc (.cells #[.int .i64 y.p, .int .i64 y.u, .int .i64 y.s] 44) := ⟨_, rfl⟩
 obtain ⟨B, hB⟩ : ∃ B, B = W.heap.size := ⟨_, rfl⟩
 have HO1 : Hid (Env x N ((B, [.int .i64 y.p, .int .i64 y.u, .int .i64 y.s], 44) :: [(I, [.int .i64 (p : Int)], 3), (C, x.vs, 26)]) W1 ∧ KF w W1) := by rw [hW1, hB]; exact ⟨HO.out.1.box _ _, HO.out.2.trans ((Keeps.refl (fun _ => False) _).alloc _) fun _ _ h => h⟩
 have j0 := (HO1.out.1.bl _ (.tail _ (.head _))).cell (i := 0) rfl
 obtain ⟨W2, hW2⟩ : ∃ W2, W2 = W1.alloc (.cells #[.int .i64 (p : Int), .int .i64 (i : Int)] 34) := ⟨_, rfl⟩
 obtain ⟨A, hA⟩ : ∃ A, A = W1.heap.size := ⟨_, rfl⟩
 have HO2 : Hid (Env x N ((A, [.int .i64 (p : Int), .int .i64 (i : Int)], 34) :: (B, [.int .i64 y.p, .int .i64 y.u, .int .i64 y.s], 44) :: [(I, [.int .i64 (p : Int)], 3), (C, x.vs, 26)]) W2 ∧ KF w W2) := by rw [hW2, hA]; exact ⟨HO1.out.1.box _ _, HO1.out.2.trans ((Keeps.refl (fun _ => False) _).alloc _) fun _ _ h => h⟩
 have HF : Hid (MkP (firstF (winF x p i y)) w (.returned (.slice (some ⟨W2.heap.size, 0, none⟩) 3 3)) (W2.alloc (.cells #[.func (.func 104) #[] #[.pointer (some ⟨B, 0, none⟩), .pointer (some ⟨C, 0, none⟩), .pointer (some ⟨A, 0, none⟩)], .func (.func 105) #[] #[.pointer (some ⟨B, 0, none⟩), .pointer (some ⟨A, 0, none⟩)], .func (.func 106) #[] #[.pointer (some ⟨C, 0, none⟩), .pointer (some ⟨I, 0, none⟩), .pointer (some ⟨B, 0, none⟩), .pointer (some ⟨A, 0, none⟩)]] 81))) := by
  exact MkP.of (winQs x N p i y B C I A (Nat.le_of_lt hPlt) _ rfl) (HO2.out.2.trans ((Keeps.refl (fun _ => False) _).alloc _) fun _ _ h => h) (Blk.new _ _ _) (HO2.out.1.kept ((Keeps.refl _ _).alloc _)) rfl rfl
 have hb1 : (PL : Int) ≤ x.cc ∧ (x.cc : Int) ≤ 9223372036854775807 := by have := hE.cin.clen; unfold maxLen at this; omega
 have hb2 : (RL : Int) ≤ X.c ∧ (X.c : Int) ≤ 9223372036854775807 := by have := hXi.len; unfold maxLen at this; omega
 rw [hPL] at hPlt
 rw [hRL] at hylt
 have c4 : W.cell? ⟨C, 4, none⟩ = some (.slice (some ⟨g0, o0, none⟩) PL x.cc) := by have := (hE2.bl _ (.tail _ (.head _))).cell (i := 4) rfl; rw [hpa, hPL] at this; exact this
 have i0 := (hE2.bl _ (.head _)).cell (i := 0) rfl
 obtain ⟨g2, o2, e2, p9⟩ := hE2.cin.core hP
 rw [hpa] at e2
 cases e2
 have hXi2 := hE2.cin.cin X (List.mem_of_getElem? hP)
 obtain ⟨g3, o3, e3, hc3⟩ := hXi2.seg.at hy
 rw [hya] at e3
 cases e3
 dsimp only [Core.v] at p9
 rw [hya, hRL] at p9
 have p0 := hc3 0 _ rfl
 rw [Nat.add_zero] at p0
 have p1 := hc3 1 _ rfl
 have p2 := hc3 2 _ rfl
 dsimp only at i0
 clear hE hE1 hE2 hc0 hc1 hc3 hpa hya hPL hRL hXi hXi2 hP hy
 unfold Cfg.laid at hW
 dsimp only at j0
 go_enter Tryz.func81, Tryz.ntmps81
 go_upto_region 1 with fail
 rw [← hW, ← hI, ← hC]
 clear hW hI hC
 go_upto_region 2 with fail
 rw [← hW1, ← hB]
 clear hW1 hB c4 i0 p0 p1 p2 p9
 go_upto_region 3 with fail
 rw [← hW2, ← hA]
 clear hW2 hA j0
 go_wp2
 go_ret
 exact HF.out
set_option maxHeartbeats 1000000 in
theorem mk60 (x : Cfg) (N p i C I : Nat) (v : Flt) (hM : Makes 81 #[x.v, .int .i64 (p : Int), .int .i64 (i : Int)] (Env x N []) v) :
  Makes 80 (#[.int .i64 (i : Int)] ++ #[.pointer (some ⟨C, 0, none⟩), .pointer (some ⟨I, 0, none⟩)]) (Env x N [(C, x.vs, 26), (I, [.int .i64 (p : Int)], 3)]) v := by
 intro w hE
 have HM : Hid (Calls Tryz.prog 81 #[x.v, .int .i64 (p : Int), .int .i64 (i : Int)] w (MkP v w)) := hM w (hE.sub fun b hb => by cases hb)
 have c0 := (hE.bl _ (.head _)).cell (i := 0) rfl
 have c1 := (hE.bl _ (.head _)).cell (i := 1) rfl
 have c2 := (hE.bl _ (.head _)).cell (i := 2) rfl
 have c3 := (hE.bl _ (.head _)).cell (i := 3) rfl
 have c4 := (hE.bl _ (.head _)).cell (i := 4) rfl
 have c5 := (hE.bl _ (.head _)).cell (i := 5) rfl
 have c6 := (hE.bl _ (.head _)).cell (i := 6) rfl
 have d0 := (hE.bl _ (.tail _ (.head _))).cell (i := 0) rfl
 dsimp only at c0 c1 c2 c3 c4 c5 c6 d0
 clear hE hM
 simp only [List.append_toArray, List.cons_append, List.nil_append]
 go_enter Tryz.func80, Tryz.ntmps80
 go_wp2_with fail
 refine HM.out.mono ?_
 rintro e w1 ⟨k, g, t, qs, E', rfl, hB, hE', hQ, hv⟩
 have HX : Hid (MkP v w (.returned (.slice (some ⟨g, 0, none⟩) qs.length qs.length)) w1) := ⟨k, g, t, qs, E', rfl, hB, hE', hQ, hv⟩
 obtain ⟨n, hn⟩ : ∃ n, qs.length = n := ⟨_, rfl⟩
 rw [hn] at HX ⊢
 clear k hB hE' hQ hv hn c0 c1 c2 c3 c4 c5 c6 d0 HM
 go_wp2
 go_ret
 exact HX.out
def winF' (x : Cfg) (p : Nat) (X : Core) (i : Nat) : List Flt := match X.ws[i]? with | some y => winF x p i y | none => []
def winsF (x : Cfg) (p : Nat) (X : Core) : Flt := firstF ((List.range X.ws.length).map fun i => firstF (winF' x p X i))
theorem winsF_mem {x : Cfg} {p : Nat} {X : Core} (h : (winsF x p X).n = 0) {i : Nat} {y : Win} (hi : X.ws[i]? = some y) : ∀ f ∈ winF x p i y, f.n = 0 := by
 have hlt := (List.getElem?_eq_some_iff.1 hi).1
 have := firstF_eq0.1 h _ (List.mem_map.2 ⟨i, List.mem_range.2 hlt, rfl⟩)
 unfold winF' at this
 rw [hi] at this
 exact firstF_eq0.1 this
theorem winsF_in2 {x : Cfg} {p : Nat} {X : Core} (h : (winsF x p X).n = 0) : ∀ y ∈ X.ws, y.In2 := by
 intro y hy
 obtain ⟨i, hi⟩ := List.getElem?_of_mem hy
 have h1 := winsF_mem h hi
 have a1 := (unl_n (by simp)).1 (h1 _ (List.mem_cons_self ..))
 have a2 := (unl_n (by simp)).1 (h1 _ (List.mem_cons_of_mem _ (List.mem_cons_self ..)))
 rw [Bool.and_eq_true] at a1
 have b1 := inR_iff.1 a1.2
 have b2 := inR_iff.1 a2
 unfold Win.In2
 omega
set_option maxHeartbeats 4000000 in
theorem q58 (x : Cfg) (N p : Nat) (X : Core) (B A : Nat) : Ask 78 #[.pointer (some ⟨B, 0, none⟩), .pointer (some ⟨A, 0, none⟩)] (Env x N [(B, [.slice X.a X.ws.length X.c], 42), (A, [.int .i64 (p : Int), .int .i64 (-1)], 34)]) (unl (inR (X.ws.length : Int) 1 16) ⟨418, p, -1⟩) := by
 intro w hE
 have HEk : Hid (∀ w w', (Env x N [(B, [.slice X.a X.ws.length X.c], 42), (A, [.int .i64 (p : Int), .int .i64 (-1)], 34)]) w → KF w w' → (Env x N [(B, [.slice X.a X.ws.length X.c], 42), (A, [.int .i64 (p : Int), .int .i64 (-1)], 34)]) w') := fun _ _ h k => h.kept k
 have HS : Hid (∀ w', (Env x N [(B, [.slice X.a X.ws.length X.c], 42), (A, [.int .i64 (p : Int), .int .i64 (-1)], 34)]) w' → (w'.cell? ⟨B, 0, none⟩ = some (.slice X.a X.ws.length X.c) ∧ w'.cell? ⟨A, 0, none⟩ = some (.int .i64 (p : Int)) ∧ w'.cell? ⟨A, 1, none⟩ = some (.int .i64 (-1)))) := fun w' h => ⟨(h.bl _ (.head _)).cell (i := 0) rfl, (h.bl _ (.tail _ (.head _))).cell (i := 0) rfl, (h.bl _ (.tail _ (.head _))).cell (i := 1) rfl⟩
 obtain ⟨W, hW⟩ : ∃ W, W = w.alloc (.cells #[.int .i64 0, .int .i64 0, .int .i64 0] 65) := ⟨_, rfl⟩
 obtain ⟨R, hR⟩ : ∃ R, R = w.heap.size := ⟨_, rfl⟩
 have HO : Hid (ObI w (Env x N [(B, [.slice X.a X.ws.length X.c], 42), (A, [.int .i64 (p : Int), .int .i64 (-1)], 34)]) R W) := by rw [hW, hR]; exact ⟨hE.kept ((Keeps.refl _ _).alloc _), Blk.new _ _ _, (Keeps.refl _ _).alloc _, Nat.le_refl _⟩
 have HE0 : Hid ((Env x N [(B, [.slice X.a X.ws.length X.c], 42), (A, [.int .i64 (p : Int), .int .i64 (-1)], 34)]) w) := hE
 clear hE
 go_enter Tryz.func78, Tryz.ntmps78
 go_upto_region 1 with fail
 rw [← hW, ← hR]
 clear hW hR
 refine wp_region_held_drew (S := (fun w' => w'.cell? ⟨B, 0, none⟩ = some (.slice X.a X.ws.length X.c) ∧ w'.cell? ⟨A, 0, none⟩ = some (.int .i64 (p : Int)) ∧ w'.cell? ⟨A, 1, none⟩ = some (.int .i64 (-1)))) Tryz.mixd (HS.out _ (HO.out.env.kept ((Keeps.refl _ _).drew))) (fun hHeld => ?_)
 simp only [t1, t2, List.length_nil, Nat.reduceAdd, t4, Array.replicate_zero, t6, List.append_toArray, List.nil_append, t8]
 refine tk 0 (.slice X.a X.ws.length X.c) hHeld ?_
 refine tk 1 (.int .i64 X.ws.length) hHeld ?_
 refine tk 3 (.agg #[.int .i64 (p : Int), .int .i64 (-1)]) hHeld ?_
 simp only [Act.put, s1, s2, s3]
 refine rd 2 fun K hK => ?_
 go_simp
 refine (within_k (X.ws.length : Int) 1 16 W.drew).mono ?_
 rintro r w1 ⟨rfl, hKc⟩
 have HO1 : Hid (ObI w (Env x N [(B, [.slice X.a X.ws.length X.c], 42), (A, [.int .i64 (p : Int), .int .i64 (-1)], 34)]) R w1) := HO.out.kept HEk.out (((Keeps.refl _ _).drew).trans hKc fun _ _ h => h)
 clear hKc
 refine hK.out _ _ (HS.out _ HO1.out.env) (fun hHeld => ?_)
 simp only [Act.put, s1, s2, s3]
 refine rd 4 fun K hK => ?_
 go_simp
 refine (unless_any (inR (X.ws.length : Int) 1 16) 418 p (-1) w1).mono ?_
 rintro r w2 ⟨rfl, hKc⟩
 have HO2 : Hid (ObI w (Env x N [(B, [.slice X.a X.ws.length X.c], 42), (A, [.int .i64 (p : Int), .int .i64 (-1)], 34)]) R w2) := HO1.out.kept HEk.out hKc
 clear hKc
 obtain ⟨Gz, hG⟩ : ∃ Gz : Flt, unl (inR (X.ws.length : Int) 1 16) ⟨418, p, -1⟩ = Gz := ⟨_, rfl⟩
 rw [hG]
 have HG : Hid (unl (inR (X.ws.length : Int) 1 16) ⟨418, p, -1⟩ = Gz) := hG
 clear hG
 refine hK.out _ _ (HS.out _ HO2.out.env) (fun hHeld => ?_)
 simp only [Act.put, s1, s2, s3]
 refine rd 5 fun K hK => ?_
 refine wp_store_row 65 _ _ rfl R #[.int .i64 Gz.n, .int .i64 Gz.a, .int .i64 Gz.b] (by rfl) (by rfl) 65 _ HO2.out.ans Tryz.size65 rfl (all53 ..) ?_
 obtain ⟨W5, hW5⟩ : ∃ W5, W5 = w2.setRow R #[.int .i64 Gz.n, .int .i64 Gz.a, .int .i64 Gz.b] := ⟨_, rfl⟩
 have hB5 : Blk W5 R [.int .i64 Gz.n, .int .i64 Gz.a, .int .i64 Gz.b] 65 := by rw [hW5]; exact HO2.out.ans.setRow _
 have k5 : Keeps (fun k => k = R) w2 W5 := by rw [hW5]; exact (Keeps.refl _ _).setRow _ _ fun _ => rfl
 have hlo := HO.out.lo
 have HO5 : Hid (Blk W5 R [.int .i64 Gz.n, .int .i64 Gz.a, .int .i64 Gz.b] 65 ∧ KF w W5) := ⟨hB5, HO2.out.keeps.trans k5 fun k hk e => by omega⟩
 have HE5 : Hid ((Env x N [(B, [.slice X.a X.ws.length X.c], 42), (A, [.int .i64 (p : Int), .int .i64 (-1)], 34)]) W5) := Env.kept' (HE0.out) HO2.out.env hlo k5
 rw [← hW5]
 clear hW5 hB5 k5 hlo
 refine hK.out _ _ (HS.out _ HE5.out) (fun hHeld => ?_)
 simp only [Act.put, s1, s2, s3]
 refine wpAnyH_done (by kernel_rfl) ?_ _
 clear hHeld
 go_wp2
 (try simp only [Exit.inBlock, Exit.then])
 refine bodyPost_ret (results_cell_row rfl _ _ R 65 _ (0, 0) _ rfl HO5.out.1 Tryz.underlying65 rfl (by kernel_rfl)) rfl ?_
 exact ⟨by rw [HG.out], HO5.out.2⟩
set_option maxHeartbeats 4000000 in
theorem q59 (x : Cfg) (N p : Nat) (X : Core) (B C I : Nat) (hP : x.cs[p]? = some X) (hl : X.ws.length ≤ 16) : Ask 79 #[.pointer (some ⟨B, 0, none⟩), .pointer (some ⟨C, 0, none⟩), .pointer (some ⟨I, 0, none⟩)] (Env x N [(B, [.slice X.a X.ws.length X.c], 42), (C, x.vs, 26), (I, [.int .i64 (p : Int)], 3)]) (winsF x p X) := by
 intro w hE
 have HM : Hid (∀ w, Env x N [(B, [.slice X.a X.ws.length X.c], 42), (C, x.vs, 26), (I, [.int .i64 (p : Int)], 3)] w → Calls Tryz.prog 42 #[.int .i64 (X.ws.length : Int), .func (.func 80) #[] #[.pointer (some ⟨C, 0, none⟩), .pointer (some ⟨I, 0, none⟩)]] w fun e w' => e = .returned (winsF x p X).v ∧ KF w w') := fun w hE => by
  have := oneByOne_any X.ws.length 80 #[.pointer (some ⟨C, 0, none⟩), .pointer (some ⟨I, 0, none⟩)] (Env x N [(C, x.vs, 26), (I, [.int .i64 (p : Int)], 3)]) (fun i => firstF (winF' x p X i)) (by omega) (fun args w => enter_fn Tryz.func80 rfl rfl args w) (fun _ _ h k => h.kept k) (fun i hi hpr => by
   obtain ⟨y, hy⟩ : ∃ y, X.ws[i]? = some y := ⟨_, List.getElem?_eq_getElem hi⟩
   refine mk60 x N p i C I _ ?_
   (try dsimp only)
   unfold winF'
   rw [hy]
   exact windowQuestions_any x N p i X y hP hy) w (hE.sub fun b hb => by simp only [List.mem_cons, List.not_mem_nil, or_false] at hb ⊢; rcases hb with h | h <;> simp [h])
  exact this
 clear hP hl
 have HEk : Hid (∀ w w', (Env x N [(B, [.slice X.a X.ws.length X.c], 42), (C, x.vs, 26), (I, [.int .i64 (p : Int)], 3)]) w → KF w w' → (Env x N [(B, [.slice X.a X.ws.length X.c], 42), (C, x.vs, 26), (I, [.int .i64 (p : Int)], 3)]) w') := fun _ _ h k => h.kept k
 have HS : Hid (∀ w', (Env x N [(B, [.slice X.a X.ws.length X.c], 42), (C, x.vs, 26), (I, [.int .i64 (p : Int)], 3)]) w' → (w'.cell? ⟨B, 0, none⟩ = some (.slice X.a X.ws.length X.c) ∧ w'.cell? ⟨C, 0, none⟩ = some (.int .i64 x.frames) ∧ w'.cell? ⟨C, 1, none⟩ = some (.int .i64 x.major) ∧ w'.cell? ⟨C, 2, none⟩ = some (.int .i64 x.kernel) ∧ w'.cell? ⟨C, 3, none⟩ = some (.int .i64 x.room) ∧ w'.cell? ⟨C, 4, none⟩ = some (.slice x.ca x.cs.length x.cc) ∧ w'.cell? ⟨C, 5, none⟩ = some (.slice x.pa x.ps.length x.pc) ∧ w'.cell? ⟨C, 6, none⟩ = some (.slice x.ha x.hs.length x.hc) ∧ w'.cell? ⟨I, 0, none⟩ = some (.int .i64 (p : Int)))) := fun w' h => ⟨(h.bl _ (.head _)).cell (i := 0) rfl, (h.bl _ (.tail _ (.head _))).cell (i := 0) rfl, (h.bl _ (.tail _ (.head _))).cell (i := 1) rfl, (h.bl _ (.tail _ (.head _))).cell (i := 2) rfl, (h.bl _ (.tail _ (.head _))).cell (i := 3) rfl, (h.bl _ (.tail _ (.head _))).cell (i := 4) rfl, (h.bl _ (.tail _ (.head _))).cell (i := 5) rfl, (h.bl _ (.tail _ (.head _))).cell (i := 6) rfl, (h.bl _ (.tail _ (.tail _ (.head _)))).cell (i := 0) rfl⟩
 obtain ⟨W, hW⟩ : ∃ W, W = w.alloc (.cells #[.int .i64 0, .int .i64 0, .int .i64 0] 65) := ⟨_, rfl⟩
 obtain ⟨R, hR⟩ : ∃ R, R = w.heap.size := ⟨_, rfl⟩
 have HO : Hid (ObI w (Env x N [(B, [.slice X.a X.ws.length X.c], 42), (C, x.vs, 26), (I, [.int .i64 (p : Int)], 3)]) R W) := by rw [hW, hR]; exact ⟨hE.kept ((Keeps.refl _ _).alloc _), Blk.new _ _ _, (Keeps.refl _ _).alloc _, Nat.le_refl _⟩
 clear hE
 go_enter Tryz.func79, Tryz.ntmps79
 go_upto_region 1 with fail
 rw [← hW, ← hR]
 clear hW hR
 obtain ⟨c0_0, c1_0, c1_1, c1_2, c1_3, c1_4, c1_5, c1_6, c2_0⟩ := HS.out _ HO.out.env
 go_wp2_with fail
 refine (HM.out W HO.out.env).mono ?_
 rintro e w1 ⟨rfl, hKc⟩
 have HO1 : Hid (ObI w (Env x N [(B, [.slice X.a X.ws.length X.c], 42), (C, x.vs, 26), (I, [.int .i64 (p : Int)], 3)]) R w1) := HO.out.kept HEk.out hKc
 clear hKc
 clear c0_0 c1_0 c1_1 c1_2 c1_3 c1_4 c1_5 c1_6 c2_0
 obtain ⟨c0_0, c1_0, c1_1, c1_2, c1_3, c1_4, c1_5, c1_6, c2_0⟩ := HS.out _ HO1.out.env
 obtain ⟨Gz, hG⟩ : ∃ Gz : Flt, winsF x p X = Gz := ⟨_, rfl⟩
 have HG : Hid (winsF x p X = Gz) := hG
 rw [hG]
 clear hG
 obtain ⟨gn, ga, gb⟩ := Gz
 have m0 := HO1.out.ans.cell (i := 0) rfl
 have m1 := HO1.out.ans.cell (i := 1) rfl
 have m2 := HO1.out.ans.cell (i := 2) rfl
 have n0 := HO1.out.ans.frozen 0
 have n1 := HO1.out.ans.frozen 1
 have n2 := HO1.out.ans.frozen 2
 clear c0_0 c1_0 c1_1 c1_2 c1_3 c1_4 c1_5 c1_6 c2_0
 go_wp2
 obtain ⟨hB, hK3⟩ := set3 HO1.out.ans (.int .i64 gn) (.int .i64 ga) (.int .i64 gb)
 obtain ⟨Wb, hWb⟩ : ∃ Wb, Wb = (((w1.setCell ⟨R, 0, none⟩ (.int .i64 gn)).setCell ⟨R, 1, none⟩ (.int .i64 ga)).setCell ⟨R, 2, none⟩ (.int .i64 gb)) := ⟨_, rfl⟩
 rw [← hWb] at hB hK3 ⊢
 (try simp only [Exit.inBlock, Exit.then])
 refine bodyPost_ret (results_cell_row rfl _ _ R 65 _ (0, 0) _ rfl hB Tryz.underlying65 rfl (by kernel_rfl)) rfl ?_
 have hlo := HO.out.lo
 exact ⟨by rw [HG.out], HO1.out.keeps.trans hK3 fun k hk e => by omega⟩
set_option maxHeartbeats 4000000 in
theorem q62 (x : Cfg) (N p : Nat) (X : Core) (B C A : Nat) (hX : X ∈ x.cs) (hl : X.ws.length ≤ 16) (hin : ∀ y ∈ X.ws, y.In2) : Ask 82 #[.pointer (some ⟨B, 0, none⟩), .pointer (some ⟨C, 0, none⟩), .pointer (some ⟨A, 0, none⟩)] (Env x N [(B, [.slice X.a X.ws.length X.c], 42), (C, x.vs, 26), (A, [.int .i64 (p : Int), .int .i64 (-1)], 34)]) (unl (cyc X.ws == x.major) ⟨421, p, -1⟩) := by
 intro w hE
 have HM : Hid (∀ w, Env x N [(B, [.slice X.a X.ws.length X.c], 42), (C, x.vs, 26), (A, [.int .i64 (p : Int), .int .i64 (-1)], 34)] w → Calls Tryz.prog 83 #[.slice X.a X.ws.length X.c] w fun e w' => e = .returned (.int .i64 (cyc X.ws)) ∧ KF w w') := fun w hE => cycles_any X.ws X.a X.c w (hE.cin.cin X hX).seg (hE.cin.cin X hX).len (by omega) hin
 clear hX hl hin
 have HEk : Hid (∀ w w', (Env x N [(B, [.slice X.a X.ws.length X.c], 42), (C, x.vs, 26), (A, [.int .i64 (p : Int), .int .i64 (-1)], 34)]) w → KF w w' → (Env x N [(B, [.slice X.a X.ws.length X.c], 42), (C, x.vs, 26), (A, [.int .i64 (p : Int), .int .i64 (-1)], 34)]) w') := fun _ _ h k => h.kept k
 have HS : Hid (∀ w', (Env x N [(B, [.slice X.a X.ws.length X.c], 42), (C, x.vs, 26), (A, [.int .i64 (p : Int), .int .i64 (-1)], 34)]) w' → (w'.cell? ⟨B, 0, none⟩ = some (.slice X.a X.ws.length X.c) ∧ w'.cell? ⟨C, 0, none⟩ = some (.int .i64 x.frames) ∧ w'.cell? ⟨C, 1, none⟩ = some (.int .i64 x.major) ∧ w'.cell? ⟨C, 2, none⟩ = some (.int .i64 x.kernel) ∧ w'.cell? ⟨C, 3, none⟩ = some (.int .i64 x.room) ∧ w'.cell? ⟨C, 4, none⟩ = some (.slice x.ca x.cs.length x.cc) ∧ w'.cell? ⟨C, 5, none⟩ = some (.slice x.pa x.ps.length x.pc) ∧ w'.cell? ⟨C, 6, none⟩ = some (.slice x.ha x.hs.length x.hc) ∧ w'.cell? ⟨A, 0, none⟩ = some (.int .i64 (p : Int)) ∧ w'.cell? ⟨A, 1, none⟩ = some (.int .i64 (-1)))) := fun w' h => ⟨(h.bl _ (.head _)).cell (i := 0) rfl, (h.bl _ (.tail _ (.head _))).cell (i := 0) rfl, (h.bl _ (.tail _ (.head _))).cell (i := 1) rfl, (h.bl _ (.tail _ (.head _))).cell (i := 2) rfl, (h.bl _ (.tail _ (.head _))).cell (i := 3) rfl, (h.bl _ (.tail _ (.head _))).cell (i := 4) rfl, (h.bl _ (.tail _ (.head _))).cell (i := 5) rfl, (h.bl _ (.tail _ (.head _))).cell (i := 6) rfl, (h.bl _ (.tail _ (.tail _ (.head _)))).cell (i := 0) rfl, (h.bl _ (.tail _ (.tail _ (.head _)))).cell (i := 1) rfl⟩
 obtain ⟨W, hW⟩ : ∃ W, W = w.alloc (.cells #[.int .i64 0, .int .i64 0, .int .i64 0] 65) := ⟨_, rfl⟩
 obtain ⟨R, hR⟩ : ∃ R, R = w.heap.size := ⟨_, rfl⟩
 have HO : Hid (ObI w (Env x N [(B, [.slice X.a X.ws.length X.c], 42), (C, x.vs, 26), (A, [.int .i64 (p : Int), .int .i64 (-1)], 34)]) R W) := by rw [hW, hR]; exact ⟨hE.kept ((Keeps.refl _ _).alloc _), Blk.new _ _ _, (Keeps.refl _ _).alloc _, Nat.le_refl _⟩
 have HE0 : Hid ((Env x N [(B, [.slice X.a X.ws.length X.c], 42), (C, x.vs, 26), (A, [.int .i64 (p : Int), .int .i64 (-1)], 34)]) w) := hE
 clear hE
 go_enter Tryz.func82, Tryz.ntmps82
 go_upto_region 1 with fail
 rw [← hW, ← hR]
 clear hW hR
 refine wp_region_held_drew (S := (fun w' => w'.cell? ⟨B, 0, none⟩ = some (.slice X.a X.ws.length X.c) ∧ w'.cell? ⟨C, 0, none⟩ = some (.int .i64 x.frames) ∧ w'.cell? ⟨C, 1, none⟩ = some (.int .i64 x.major) ∧ w'.cell? ⟨C, 2, none⟩ = some (.int .i64 x.kernel) ∧ w'.cell? ⟨C, 3, none⟩ = some (.int .i64 x.room) ∧ w'.cell? ⟨C, 4, none⟩ = some (.slice x.ca x.cs.length x.cc) ∧ w'.cell? ⟨C, 5, none⟩ = some (.slice x.pa x.ps.length x.pc) ∧ w'.cell? ⟨C, 6, none⟩ = some (.slice x.ha x.hs.length x.hc) ∧ w'.cell? ⟨A, 0, none⟩ = some (.int .i64 (p : Int)) ∧ w'.cell? ⟨A, 1, none⟩ = some (.int .i64 (-1)))) Tryz.mixd (HS.out _ (HO.out.env.kept ((Keeps.refl _ _).drew))) (fun hHeld => ?_)
 simp only [t1, t2, List.length_nil, Nat.reduceAdd, t4, Array.replicate_zero, t6, List.append_toArray, List.nil_append, t8]
 refine tk 0 (.slice X.a X.ws.length X.c) hHeld ?_
 refine tk 2 (.pointer (some ⟨C, 1, none⟩)) hHeld ?_
 refine tk 3 (.int .i64 x.major) hHeld ?_
 refine tk 5 (.agg #[.int .i64 (p : Int), .int .i64 (-1)]) hHeld ?_
 simp only [Act.put, s1, s2, s3]
 refine rd 1 fun K hK => ?_
 go_simp
 refine (HM.out W.drew (HO.out.env.kept ((Keeps.refl _ _).drew))).mono ?_
 rintro r w1 ⟨rfl, hKc⟩
 have HO1 : Hid (ObI w (Env x N [(B, [.slice X.a X.ws.length X.c], 42), (C, x.vs, 26), (A, [.int .i64 (p : Int), .int .i64 (-1)], 34)]) R w1) := HO.out.kept HEk.out (((Keeps.refl _ _).drew).trans hKc fun _ _ h => h)
 clear hKc
 refine hK.out _ _ (HS.out _ HO1.out.env) (fun hHeld => ?_)
 simp only [Act.put, s1, s2, s3]
 refine tk 4 (.bool (cyc X.ws == x.major)) hHeld ?_
 simp only [Act.put, s1, s2, s3]
 refine rd 6 fun K hK => ?_
 go_simp
 refine (unless_any (cyc X.ws == x.major) 421 p (-1) w1).mono ?_
 rintro r w2 ⟨rfl, hKc⟩
 have HO2 : Hid (ObI w (Env x N [(B, [.slice X.a X.ws.length X.c], 42), (C, x.vs, 26), (A, [.int .i64 (p : Int), .int .i64 (-1)], 34)]) R w2) := HO1.out.kept HEk.out hKc
 clear hKc
 obtain ⟨Gz, hG⟩ : ∃ Gz : Flt, unl (cyc X.ws == x.major) ⟨421, p, -1⟩ = Gz := ⟨_, rfl⟩
 rw [hG]
 have HG : Hid (unl (cyc X.ws == x.major) ⟨421, p, -1⟩ = Gz) := hG
 clear hG
 refine hK.out _ _ (HS.out _ HO2.out.env) (fun hHeld => ?_)
 simp only [Act.put, s1, s2, s3]
 refine rd 7 fun K hK => ?_
 refine wp_store_row 65 _ _ rfl R #[.int .i64 Gz.n, .int .i64 Gz.a, .int .i64 Gz.b] (by rfl) (by rfl) 65 _ HO2.out.ans Tryz.size65 rfl (all53 ..) ?_
 obtain ⟨W5, hW5⟩ : ∃ W5, W5 = w2.setRow R #[.int .i64 Gz.n, .int .i64 Gz.a, .int .i64 Gz.b] := ⟨_, rfl⟩
 have hB5 : Blk W5 R [.int .i64 Gz.n, .int .i64 Gz.a, .int .i64 Gz.b] 65 := by rw [hW5]; exact HO2.out.ans.setRow _
 have k5 : Keeps (fun k => k = R) w2 W5 := by rw [hW5]; exact (Keeps.refl _ _).setRow _ _ fun _ => rfl
 have hlo := HO.out.lo
 have HO5 : Hid (Blk W5 R [.int .i64 Gz.n, .int .i64 Gz.a, .int .i64 Gz.b] 65 ∧ KF w W5) := ⟨hB5, HO2.out.keeps.trans k5 fun k hk e => by omega⟩
 have HE5 : Hid ((Env x N [(B, [.slice X.a X.ws.length X.c], 42), (C, x.vs, 26), (A, [.int .i64 (p : Int), .int .i64 (-1)], 34)]) W5) := Env.kept' (HE0.out) HO2.out.env hlo k5
 rw [← hW5]
 clear hW5 hB5 k5 hlo
 refine hK.out _ _ (HS.out _ HE5.out) (fun hHeld => ?_)
 simp only [Act.put, s1, s2, s3]
 refine wpAnyH_done (by kernel_rfl) ?_ _
 clear hHeld
 go_wp2
 (try simp only [Exit.inBlock, Exit.then])
 refine bodyPost_ret (results_cell_row rfl _ _ R 65 _ (0, 0) _ rfl HO5.out.1 Tryz.underlying65 rfl (by kernel_rfl)) rfl ?_
 exact ⟨by rw [HG.out], HO5.out.2⟩
def corF (x : Cfg) (p : Nat) (X : Core) : List Flt :=
 [unl (inR (X.ws.length : Int) 1 16) ⟨418, p, -1⟩,
  winsF x p X,
  unl (cyc X.ws == x.major) ⟨421, p, -1⟩]
theorem corQs (x : Cfg) (N p : Nat) (X : Core) (B C I A : Nat) (hP : x.cs[p]? = some X) (L : List (Nat × List Value × TypeId)) (hL : L = [(A, [.int .i64 (p : Int), .int .i64 (-1)], 34), (B, [.slice X.a X.ws.length X.c], 42), (I, [.int .i64 (p : Int)], 3), (C, x.vs, 26)]) :
  Qs [(78, #[.pointer (some ⟨B, 0, none⟩), .pointer (some ⟨A, 0, none⟩)], unl (inR (X.ws.length : Int) 1 16) ⟨418, p, -1⟩),
    (79, #[.pointer (some ⟨B, 0, none⟩), .pointer (some ⟨C, 0, none⟩), .pointer (some ⟨I, 0, none⟩)], winsF x p X),
    (82, #[.pointer (some ⟨B, 0, none⟩), .pointer (some ⟨C, 0, none⟩), .pointer (some ⟨A, 0, none⟩)], unl (cyc X.ws == x.major) ⟨421, p, -1⟩)] (Env x N L) := by
 refine ⟨fun _ _ h k => h.kept k, fun q hq args w => ?_, fun j q hj hpr => ?_, by simp⟩
 ·
  simp only [List.mem_cons, List.not_mem_nil, or_false] at hq
  rcases hq with rfl | rfl | rfl
  ·
   exact enter_fn Tryz.func78 rfl rfl args w
  ·
   exact enter_fn Tryz.func79 rfl rfl args w
  ·
   exact enter_fn Tryz.func82 rfl rfl args w
 ·
  have hok0 : 0 < j → X.ws.length ≤ 16 := fun h => by have := inR_iff.1 ((unl_n (by simp)).1 (qs_prev hpr 0 h rfl)); omega
  have hok1 : 1 < j → ∀ y ∈ X.ws, y.In2 := fun h => winsF_in2 (qs_prev hpr 1 h rfl)
  match j, hj with
  | 0, hj =>
   cases hj
   exact (q58 x N p X B A).of fun w h => h.sub fun b hb => by rw [hL]; simp only [List.mem_cons, List.not_mem_nil, or_false] at hb ⊢; rcases hb with h | h <;> simp [h]
  | 1, hj =>
   cases hj
   exact (q59 x N p X B C I hP (hok0 (by omega))).of fun w h => h.sub fun b hb => by rw [hL]; simp only [List.mem_cons, List.not_mem_nil, or_false] at hb ⊢; rcases hb with h | h | h <;> simp [h]
  | 2, hj =>
   cases hj
   exact (q62 x N p X B C A (List.mem_of_getElem? hP) (hok0 (by omega)) (hok1 (by omega))).of fun w h => h.sub fun b hb => by rw [hL]; simp only [List.mem_cons, List.not_mem_nil, or_false] at hb ⊢; rcases hb with h | h | h <;> simp [h]
  | j + 3, hj => simp at hj
set_option maxHeartbeats 8000000 in
theorem coreQuestions_any (x : Cfg) (N p : Nat) (X : Core) (hP : x.cs[p]? = some X)  :
  Makes 50 #[x.v, .int .i64 (p : Int)] (Env x N []) (firstF (corF x p X)) := by
 intro w hE
 have hPlt := (List.getElem?_eq_some_iff.1 hP).1
 obtain ⟨g0, o0, hpa, hc0⟩ := hE.cin.core hP
 obtain ⟨W, hW⟩ : ∃ W, W = (x.laid w).alloc (.cells #[.int .i64 (p : Int)] 3) := ⟨_, rfl⟩
 obtain ⟨C, hC⟩ : ∃ C, C = w.heap.size := ⟨_, rfl⟩
 obtain ⟨I, hI⟩ : ∃ I, I = w.heap.size + 1 := ⟨_, rfl⟩
 have hE1 : Env x N [(C, x.vs, 26)] (x.laid w) := by rw [hC]; exact hE.box _ _
 have hE2 : Env x N [(I, [.int .i64 (p : Int)], 3), (C, x.vs, 26)] W := by
  have := hE1.box [.int .i64 (p : Int)] 3
  rw [hW, hI]
  simpa [Cfg.laid] using this
 have HO : Hid (Env x N [(I, [.int .i64 (p : Int)], 3), (C, x.vs, 26)] W ∧ KF w W) := ⟨hE2, by rw [hW]; exact ((Keeps.refl _ _).alloc _).alloc _⟩
 obtain ⟨PL, hPL⟩ : ∃ PL, x.cs.length = PL := ⟨_, rfl⟩
 obtain ⟨RL, hRL⟩ : ∃ RL, X.ws.length = RL := ⟨_, rfl⟩
 obtain ⟨W1, hW1⟩ : ∃ W1, W1 = W.alloc (.cells #[.slice X.a RL X.c] 42) := ⟨_, rfl⟩
 obtain ⟨B, hB⟩ : ∃ B, B = W.heap.size := ⟨_, rfl⟩
 have HO1 : Hid (Env x N ((B, [.slice X.a RL X.c], 42) :: [(I, [.int .i64 (p : Int)], 3), (C, x.vs, 26)]) W1 ∧ KF w W1) := by rw [hW1, hB]; exact ⟨HO.out.1.box _ _, HO.out.2.trans ((Keeps.refl (fun _ => False) _).alloc _) fun _ _ h => h⟩
 have j0 := (HO1.out.1.bl _ (.tail _ (.head _))).cell (i := 0) rfl
 obtain ⟨W2, hW2⟩ : ∃ W2, W2 = W1.alloc (.cells #[.int .i64 (p : Int), .int .i64 (-1)] 34) := ⟨_, rfl⟩
 obtain ⟨A, hA⟩ : ∃ A, A = W1.heap.size := ⟨_, rfl⟩
 have HO2 : Hid (Env x N ((A, [.int .i64 (p : Int), .int .i64 (-1)], 34) :: (B, [.slice X.a RL X.c], 42) :: [(I, [.int .i64 (p : Int)], 3), (C, x.vs, 26)]) W2 ∧ KF w W2) := by rw [hW2, hA]; exact ⟨HO1.out.1.box _ _, HO1.out.2.trans ((Keeps.refl (fun _ => False) _).alloc _) fun _ _ h => h⟩
 have HF : Hid (MkP (firstF (corF x p X)) w (.returned (.slice (some ⟨W2.heap.size, 0, none⟩) 3 3)) (W2.alloc (.cells #[.func (.func 78) #[] #[.pointer (some ⟨B, 0, none⟩), .pointer (some ⟨A, 0, none⟩)], .func (.func 79) #[] #[.pointer (some ⟨B, 0, none⟩), .pointer (some ⟨C, 0, none⟩), .pointer (some ⟨I, 0, none⟩)], .func (.func 82) #[] #[.pointer (some ⟨B, 0, none⟩), .pointer (some ⟨C, 0, none⟩), .pointer (some ⟨A, 0, none⟩)]] 81))) := by
  have hX := HO2.out.1
  rw [← hRL] at hX
  exact MkP.of (corQs x N p X B C I A hP _ rfl) (HO2.out.2.trans ((Keeps.refl (fun _ => False) _).alloc _) fun _ _ h => h) (Blk.new _ _ _) (hX.kept ((Keeps.refl _ _).alloc _)) rfl rfl
 have hb1 : (PL : Int) ≤ x.cc ∧ (x.cc : Int) ≤ 9223372036854775807 := by have := hE.cin.clen; unfold maxLen at this; omega
 rw [hPL] at hPlt
 have c4 : W.cell? ⟨C, 4, none⟩ = some (.slice (some ⟨g0, o0, none⟩) PL x.cc) := by have := (hE2.bl _ (.tail _ (.head _))).cell (i := 4) rfl; rw [hpa, hPL] at this; exact this
 have i0 := (hE2.bl _ (.head _)).cell (i := 0) rfl
 obtain ⟨g2, o2, e2, p9⟩ := hE2.cin.core hP
 rw [hpa] at e2
 cases e2
 dsimp only [Core.v] at p9
 rw [hRL] at p9
 dsimp only at i0
 clear hE hE1 hE2 hc0 hpa hPL hRL hP
 unfold Cfg.laid at hW
 dsimp only at j0
 go_enter Tryz.func50, Tryz.ntmps50
 go_upto_region 1 with fail
 rw [← hW, ← hI, ← hC]
 clear hW hI hC
 go_upto_region 2 with fail
 rw [← hW1, ← hB]
 clear hW1 hB c4 i0 p9
 go_upto_region 3 with fail
 rw [← hW2, ← hA]
 clear hW2 hA j0
 go_wp2
 go_ret
 exact HF.out
end Go.Proofs.YtlnmlbkeemahcaaGreat
