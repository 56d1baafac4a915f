import Derived.Test.YtlnmlbkeemahcaaGreatQq
namespace Go.Proofs.YtlnmlbkeemahcaaGreat
open Go.RowKit
set_option linter.unusedVariables false
set_option linter.unusedSimpArgs false
set_option maxRecDepth 6000
set_option maxHeartbeats 4000000 in
theorem q37t (x : Cfg) (N p : Nat) (P : Par) (B C I A : Nat) (hn : nameB P.name = true) (hp : p ≤ x.ps.length) (hsz : P.name.size ≤ 9223372036854775807) : Ask 57 #[.pointer (some ⟨B, 0, none⟩), .pointer (some ⟨C, 0, none⟩), .pointer (some ⟨I, 0, none⟩), .pointer (some ⟨A, 0, none⟩)] (Env x N [(B, P.vs, 41), (C, x.vs, 26), (I, [.int .i64 (p : Int)], 3), (A, [.int .i64 (p : Int), .int .i64 (-1)], 34)]) (unl (!((x.ps.take p).any fun Q => Q.name.toList == P.name.toList)) ⟨405, p, -1⟩) := by
 intro w hE
 have HN : Hid (∀ w, Calls Tryz.prog 58 #[.string P.name] w fun e w' => e = .returned (.bool true) ∧ KF w w') := fun w => by rw [← hn]; exact isName_k P.name hsz w
 have HT : Hid (∀ w, Env x N [(B, P.vs, 41), (C, x.vs, 26), (I, [.int .i64 (p : Int)], 3), (A, [.int .i64 (p : Int), .int .i64 (-1)], 34)] w → Calls Tryz.prog 59 #[.string P.name, .slice x.pa p x.pc] w fun e w' => e = .returned (.bool ((x.ps.take p).any fun Q => Q.name.toList == P.name.toList)) ∧ KF w w') := fun w hE => by
  have hl : (x.ps.take p).length = p := by rw [List.length_take]; omega
  have := isTaken_any P.name (x.ps.take p) x.pa x.pc (by rw [hl]; have := hE.cin.plen; omega) w (hE.cin.pseg.take p)
  rw [hl] at this
  exact this
 have hpc : (p : Int) ≤ x.pc ∧ (x.pc : Int) ≤ 9223372036854775807 := by have := hE.cin.plen; unfold maxLen at this; omega
 have hpn : p ≤ x.pc := by omega
 clear hn hp hsz
 have HEk : Hid (∀ w w', (Env x N [(B, P.vs, 41), (C, x.vs, 26), (I, [.int .i64 (p : Int)], 3), (A, [.int .i64 (p : Int), .int .i64 (-1)], 34)]) w → KF w w' → (Env x N [(B, P.vs, 41), (C, x.vs, 26), (I, [.int .i64 (p : Int)], 3), (A, [.int .i64 (p : Int), .int .i64 (-1)], 34)]) w') := fun _ _ h k => h.kept k
 have HS : Hid (∀ w', (Env x N [(B, P.vs, 41), (C, x.vs, 26), (I, [.int .i64 (p : Int)], 3), (A, [.int .i64 (p : Int), .int .i64 (-1)], 34)]) w' → (w'.cell? ⟨B, 0, none⟩ = some (.string P.name) ∧ w'.cell? ⟨B, 1, none⟩ = some (.int .i64 P.entry) ∧ w'.cell? ⟨B, 2, none⟩ = some (.int .i64 P.action) ∧ w'.cell? ⟨B, 3, none⟩ = some (.int .i64 P.restarts) ∧ w'.cell? ⟨B, 4, none⟩ = some (.int .i64 P.inputs) ∧ w'.cell? ⟨B, 5, none⟩ = some (.int .i64 P.outputs) ∧ w'.cell? ⟨B, 6, none⟩ = some (.slice P.ra P.rs.length P.rc) ∧ w'.cell? ⟨B, 7, none⟩ = some (.slice P.pa P.ps.length P.pc) ∧ w'.cell? ⟨C, 0, none⟩ = some (.int .i64 x.frames) ∧ w'.cell? ⟨C, 1, none⟩ = some (.int .i64 x.major) ∧ w'.cell? ⟨C, 2, none⟩ = some (.int .i64 x.kernel) ∧ w'.cell? ⟨C, 3, none⟩ = some (.int .i64 x.room) ∧ w'.cell? ⟨C, 4, none⟩ = some (.slice x.ca x.cs.length x.cc) ∧ w'.cell? ⟨C, 5, none⟩ = some (.slice x.pa x.ps.length x.pc) ∧ w'.cell? ⟨C, 6, none⟩ = some (.slice x.ha x.hs.length x.hc) ∧ w'.cell? ⟨I, 0, none⟩ = some (.int .i64 (p : Int)) ∧ w'.cell? ⟨A, 0, none⟩ = some (.int .i64 (p : Int)) ∧ w'.cell? ⟨A, 1, none⟩ = some (.int .i64 (-1)))) := fun w' h => ⟨(h.bl _ (.head _)).cell (i := 0) rfl, (h.bl _ (.head _)).cell (i := 1) rfl, (h.bl _ (.head _)).cell (i := 2) rfl, (h.bl _ (.head _)).cell (i := 3) rfl, (h.bl _ (.head _)).cell (i := 4) rfl, (h.bl _ (.head _)).cell (i := 5) rfl, (h.bl _ (.head _)).cell (i := 6) rfl, (h.bl _ (.head _)).cell (i := 7) rfl, (h.bl _ (.tail _ (.head _))).cell (i := 0) rfl, (h.bl _ (.tail _ (.head _))).cell (i := 1) rfl, (h.bl _ (.tail _ (.head _))).cell (i := 2) rfl, (h.bl _ (.tail _ (.head _))).cell (i := 3) rfl, (h.bl _ (.tail _ (.head _))).cell (i := 4) rfl, (h.bl _ (.tail _ (.head _))).cell (i := 5) rfl, (h.bl _ (.tail _ (.head _))).cell (i := 6) rfl, (h.bl _ (.tail _ (.tail _ (.head _)))).cell (i := 0) rfl, (h.bl _ (.tail _ (.tail _ (.tail _ (.head _))))).cell (i := 0) rfl, (h.bl _ (.tail _ (.tail _ (.tail _ (.head _))))).cell (i := 1) rfl⟩
 obtain ⟨W, hW⟩ : ∃ W, W = w.alloc (.cells #[.int .i64 0, .int .i64 0, .int .i64 0] 65) := ⟨_, rfl⟩
 obtain ⟨R, hR⟩ : ∃ R, R = w.heap.size := ⟨_, rfl⟩
 have HO : Hid (ObI w (Env x N [(B, P.vs, 41), (C, x.vs, 26), (I, [.int .i64 (p : Int)], 3), (A, [.int .i64 (p : Int), .int .i64 (-1)], 34)]) R W) := by rw [hW, hR]; exact ⟨hE.kept ((Keeps.refl _ _).alloc _), Blk.new _ _ _, (Keeps.refl _ _).alloc _, Nat.le_refl _⟩
 have HE0 : Hid ((Env x N [(B, P.vs, 41), (C, x.vs, 26), (I, [.int .i64 (p : Int)], 3), (A, [.int .i64 (p : Int), .int .i64 (-1)], 34)]) w) := hE
 clear hE
 go_enter Tryz.func57, Tryz.ntmps57
 go_upto_region 1 with fail
 rw [← hW, ← hR]
 clear hW hR
 refine wp_region_held_drew (S := (fun w' => w'.cell? ⟨B, 0, none⟩ = some (.string P.name) ∧ w'.cell? ⟨B, 1, none⟩ = some (.int .i64 P.entry) ∧ w'.cell? ⟨B, 2, none⟩ = some (.int .i64 P.action) ∧ w'.cell? ⟨B, 3, none⟩ = some (.int .i64 P.restarts) ∧ w'.cell? ⟨B, 4, none⟩ = some (.int .i64 P.inputs) ∧ w'.cell? ⟨B, 5, none⟩ = some (.int .i64 P.outputs) ∧ w'.cell? ⟨B, 6, none⟩ = some (.slice P.ra P.rs.length P.rc) ∧ w'.cell? ⟨B, 7, none⟩ = some (.slice P.pa P.ps.length P.pc) ∧ w'.cell? ⟨C, 0, none⟩ = some (.int .i64 x.frames) ∧ w'.cell? ⟨C, 1, none⟩ = some (.int .i64 x.major) ∧ w'.cell? ⟨C, 2, none⟩ = some (.int .i64 x.kernel) ∧ w'.cell? ⟨C, 3, none⟩ = some (.int .i64 x.room) ∧ w'.cell? ⟨C, 4, none⟩ = some (.slice x.ca x.cs.length x.cc) ∧ w'.cell? ⟨C, 5, none⟩ = some (.slice x.pa x.ps.length x.pc) ∧ w'.cell? ⟨C, 6, none⟩ = some (.slice x.ha x.hs.length x.hc) ∧ w'.cell? ⟨I, 0, none⟩ = some (.int .i64 (p : Int)) ∧ w'.cell? ⟨A, 0, none⟩ = some (.int .i64 (p : Int)) ∧ w'.cell? ⟨A, 1, none⟩ = some (.int .i64 (-1)))) Tryz.mixd (HS.out _ (HO.out.env.kept ((Keeps.refl _ _).drew))) (fun hHeld => ?_)
 simp only [t1, t2, List.length_nil, Nat.reduceAdd, t4, Array.replicate_zero, t6, List.append_toArray, List.nil_append, t8]
 refine tk 0 (.pointer (some ⟨B, 0, none⟩)) hHeld ?_
 refine tk 1 (.string P.name) hHeld ?_
 refine tk 13 (.agg #[.int .i64 (p : Int), .int .i64 (-1)]) hHeld ?_
 simp only [Act.put, s1, s2, s3]
 refine rd 2 fun K hK => ?_
 go_simp
 refine (HN.out W.drew).mono ?_
 rintro r w1 ⟨rfl, hKc⟩
 have HO1 : Hid (ObI w (Env x N [(B, P.vs, 41), (C, x.vs, 26), (I, [.int .i64 (p : Int)], 3), (A, [.int .i64 (p : Int), .int .i64 (-1)], 34)]) R w1) := HO.out.kept HEk.out (((Keeps.refl _ _).drew).trans hKc fun _ _ h => h)
 clear hKc
 refine hK.out _ _ (HS.out _ HO1.out.env) (fun hHeld => ?_)
 simp only [Act.put, s1, s2, s3]
 refine tk 3 (.bool true) hHeld ?_
 refine tk 4 (.pointer (some ⟨B, 0, none⟩)) hHeld ?_
 refine tk 5 (.string P.name) hHeld ?_
 refine tk 6 (.pointer (some ⟨C, 5, none⟩)) hHeld ?_
 refine tk 7 (.slice x.pa x.ps.length x.pc) hHeld ?_
 refine tk 8 (.int .i64 (p : Int)) hHeld ?_
 refine tk 9 (.slice x.pa p x.pc) hHeld ?_
 simp only [Act.put, s1, s2, s3]
 refine rd 10 fun K hK => ?_
 go_simp
 refine (HT.out w1 HO1.out.env).mono ?_
 rintro r w2 ⟨rfl, hKc⟩
 have HO2 : Hid (ObI w (Env x N [(B, P.vs, 41), (C, x.vs, 26), (I, [.int .i64 (p : Int)], 3), (A, [.int .i64 (p : Int), .int .i64 (-1)], 34)]) R w2) := HO1.out.kept HEk.out hKc
 clear hKc
 refine hK.out _ _ (HS.out _ HO2.out.env) (fun hHeld => ?_)
 simp only [Act.put, s1, s2, s3]
 refine tk 11 (.bool (!((x.ps.take p).any fun Q => Q.name.toList == P.name.toList))) hHeld ?_
 refine tk 12 (.bool (!((x.ps.take p).any fun Q => Q.name.toList == P.name.toList))) hHeld ?_
 simp only [Act.put, s1, s2, s3]
 refine rd 14 fun K hK => ?_
 go_simp
 refine (unless_any (!((x.ps.take p).any fun Q => Q.name.toList == P.name.toList)) 405 p (-1) w2).mono ?_
 rintro r w3 ⟨rfl, hKc⟩
 have HO3 : Hid (ObI w (Env x N [(B, P.vs, 41), (C, x.vs, 26), (I, [.int .i64 (p : Int)], 3), (A, [.int .i64 (p : Int), .int .i64 (-1)], 34)]) R w3) := HO2.out.kept HEk.out hKc
 clear hKc
 obtain ⟨Gz, hG⟩ : ∃ Gz : Flt, unl (!((x.ps.take p).any fun Q => Q.name.toList == P.name.toList)) ⟨405, p, -1⟩ = Gz := ⟨_, rfl⟩
 rw [hG]
 have HG : Hid (unl (!((x.ps.take p).any fun Q => Q.name.toList == P.name.toList)) ⟨405, p, -1⟩ = Gz) := hG
 clear hG
 refine hK.out _ _ (HS.out _ HO3.out.env) (fun hHeld => ?_)
 simp only [Act.put, s1, s2, s3]
 refine rd 15 fun K hK => ?_
 refine wp_store_row 65 _ _ rfl R #[.int .i64 Gz.n, .int .i64 Gz.a, .int .i64 Gz.b] (by rfl) (by rfl) 65 _ HO3.out.ans Tryz.size65 rfl (all53 ..) ?_
 obtain ⟨W5, hW5⟩ : ∃ W5, W5 = w3.setRow R #[.int .i64 Gz.n, .int .i64 Gz.a, .int .i64 Gz.b] := ⟨_, rfl⟩
 have hB5 : Blk W5 R [.int .i64 Gz.n, .int .i64 Gz.a, .int .i64 Gz.b] 65 := by rw [hW5]; exact HO3.out.ans.setRow _
 have k5 : Keeps (fun k => k = R) w3 W5 := by rw [hW5]; exact (Keeps.refl _ _).setRow _ _ fun _ => rfl
 have hlo := HO.out.lo
 have HO5 : Hid (Blk W5 R [.int .i64 Gz.n, .int .i64 Gz.a, .int .i64 Gz.b] 65 ∧ KF w W5) := ⟨hB5, HO3.out.keeps.trans k5 fun k hk e => by omega⟩
 have HE5 : Hid ((Env x N [(B, P.vs, 41), (C, x.vs, 26), (I, [.int .i64 (p : Int)], 3), (A, [.int .i64 (p : Int), .int .i64 (-1)], 34)]) W5) := Env.kept' (HE0.out) HO3.out.env hlo k5
 rw [← hW5]
 clear hW5 hB5 k5 hlo
 refine hK.out _ _ (HS.out _ HE5.out) (fun hHeld => ?_)
 simp only [Act.put, s1, s2, s3]
 refine wpAnyH_done (by kernel_rfl) ?_ _
 clear hHeld
 go_wp2
 (try simp only [Exit.inBlock, Exit.then])
 refine bodyPost_ret (results_cell_row rfl _ _ R 65 _ (0, 0) _ rfl HO5.out.1 Tryz.underlying65 rfl (by kernel_rfl)) rfl ?_
 exact ⟨by rw [HG.out], HO5.out.2⟩
set_option maxHeartbeats 4000000 in
theorem q37f (x : Cfg) (N p : Nat) (P : Par) (B C I A : Nat) (hn : nameB P.name = false) (hsz : P.name.size ≤ 9223372036854775807) : Ask 57 #[.pointer (some ⟨B, 0, none⟩), .pointer (some ⟨C, 0, none⟩), .pointer (some ⟨I, 0, none⟩), .pointer (some ⟨A, 0, none⟩)] (Env x N [(B, P.vs, 41), (C, x.vs, 26), (I, [.int .i64 (p : Int)], 3), (A, [.int .i64 (p : Int), .int .i64 (-1)], 34)]) (unl false ⟨405, p, -1⟩) := by
 intro w hE
 have HN : Hid (∀ w, Calls Tryz.prog 58 #[.string P.name] w fun e w' => e = .returned (.bool false) ∧ KF w w') := fun w => by rw [← hn]; exact isName_k P.name hsz w
 clear hn hsz
 have HEk : Hid (∀ w w', (Env x N [(B, P.vs, 41), (C, x.vs, 26), (I, [.int .i64 (p : Int)], 3), (A, [.int .i64 (p : Int), .int .i64 (-1)], 34)]) w → KF w w' → (Env x N [(B, P.vs, 41), (C, x.vs, 26), (I, [.int .i64 (p : Int)], 3), (A, [.int .i64 (p : Int), .int .i64 (-1)], 34)]) w') := fun _ _ h k => h.kept k
 have HS : Hid (∀ w', (Env x N [(B, P.vs, 41), (C, x.vs, 26), (I, [.int .i64 (p : Int)], 3), (A, [.int .i64 (p : Int), .int .i64 (-1)], 34)]) w' → (w'.cell? ⟨B, 0, none⟩ = some (.string P.name) ∧ w'.cell? ⟨B, 1, none⟩ = some (.int .i64 P.entry) ∧ w'.cell? ⟨B, 2, none⟩ = some (.int .i64 P.action) ∧ w'.cell? ⟨B, 3, none⟩ = some (.int .i64 P.restarts) ∧ w'.cell? ⟨B, 4, none⟩ = some (.int .i64 P.inputs) ∧ w'.cell? ⟨B, 5, none⟩ = some (.int .i64 P.outputs) ∧ w'.cell? ⟨B, 6, none⟩ = some (.slice P.ra P.rs.length P.rc) ∧ w'.cell? ⟨B, 7, none⟩ = some (.slice P.pa P.ps.length P.pc) ∧ w'.cell? ⟨C, 0, none⟩ = some (.int .i64 x.frames) ∧ w'.cell? ⟨C, 1, none⟩ = some (.int .i64 x.major) ∧ w'.cell? ⟨C, 2, none⟩ = some (.int .i64 x.kernel) ∧ w'.cell? ⟨C, 3, none⟩ = some (.int .i64 x.room) ∧ w'.cell? ⟨C, 4, none⟩ = some (.slice x.ca x.cs.length x.cc) ∧ w'.cell? ⟨C, 5, none⟩ = some (.slice x.pa x.ps.length x.pc) ∧ w'.cell? ⟨C, 6, none⟩ = some (.slice x.ha x.hs.length x.hc) ∧ w'.cell? ⟨I, 0, none⟩ = some (.int .i64 (p : Int)) ∧ w'.cell? ⟨A, 0, none⟩ = some (.int .i64 (p : Int)) ∧ w'.cell? ⟨A, 1, none⟩ = some (.int .i64 (-1)))) := fun w' h => ⟨(h.bl _ (.head _)).cell (i := 0) rfl, (h.bl _ (.head _)).cell (i := 1) rfl, (h.bl _ (.head _)).cell (i := 2) rfl, (h.bl _ (.head _)).cell (i := 3) rfl, (h.bl _ (.head _)).cell (i := 4) rfl, (h.bl _ (.head _)).cell (i := 5) rfl, (h.bl _ (.head _)).cell (i := 6) rfl, (h.bl _ (.head _)).cell (i := 7) rfl, (h.bl _ (.tail _ (.head _))).cell (i := 0) rfl, (h.bl _ (.tail _ (.head _))).cell (i := 1) rfl, (h.bl _ (.tail _ (.head _))).cell (i := 2) rfl, (h.bl _ (.tail _ (.head _))).cell (i := 3) rfl, (h.bl _ (.tail _ (.head _))).cell (i := 4) rfl, (h.bl _ (.tail _ (.head _))).cell (i := 5) rfl, (h.bl _ (.tail _ (.head _))).cell (i := 6) rfl, (h.bl _ (.tail _ (.tail _ (.head _)))).cell (i := 0) rfl, (h.bl _ (.tail _ (.tail _ (.tail _ (.head _))))).cell (i := 0) rfl, (h.bl _ (.tail _ (.tail _ (.tail _ (.head _))))).cell (i := 1) rfl⟩
 obtain ⟨W, hW⟩ : ∃ W, W = w.alloc (.cells #[.int .i64 0, .int .i64 0, .int .i64 0] 65) := ⟨_, rfl⟩
 obtain ⟨R, hR⟩ : ∃ R, R = w.heap.size := ⟨_, rfl⟩
 have HO : Hid (ObI w (Env x N [(B, P.vs, 41), (C, x.vs, 26), (I, [.int .i64 (p : Int)], 3), (A, [.int .i64 (p : Int), .int .i64 (-1)], 34)]) R W) := by rw [hW, hR]; exact ⟨hE.kept ((Keeps.refl _ _).alloc _), Blk.new _ _ _, (Keeps.refl _ _).alloc _, Nat.le_refl _⟩
 have HE0 : Hid ((Env x N [(B, P.vs, 41), (C, x.vs, 26), (I, [.int .i64 (p : Int)], 3), (A, [.int .i64 (p : Int), .int .i64 (-1)], 34)]) w) := hE
 clear hE
 go_enter Tryz.func57, Tryz.ntmps57
 go_upto_region 1 with fail
 rw [← hW, ← hR]
 clear hW hR
 refine wp_region_held_drew (S := (fun w' => w'.cell? ⟨B, 0, none⟩ = some (.string P.name) ∧ w'.cell? ⟨B, 1, none⟩ = some (.int .i64 P.entry) ∧ w'.cell? ⟨B, 2, none⟩ = some (.int .i64 P.action) ∧ w'.cell? ⟨B, 3, none⟩ = some (.int .i64 P.restarts) ∧ w'.cell? ⟨B, 4, none⟩ = some (.int .i64 P.inputs) ∧ w'.cell? ⟨B, 5, none⟩ = some (.int .i64 P.outputs) ∧ w'.cell? ⟨B, 6, none⟩ = some (.slice P.ra P.rs.length P.rc) ∧ w'.cell? ⟨B, 7, none⟩ = some (.slice P.pa P.ps.length P.pc) ∧ w'.cell? ⟨C, 0, none⟩ = some (.int .i64 x.frames) ∧ w'.cell? ⟨C, 1, none⟩ = some (.int .i64 x.major) ∧ w'.cell? ⟨C, 2, none⟩ = some (.int .i64 x.kernel) ∧ w'.cell? ⟨C, 3, none⟩ = some (.int .i64 x.room) ∧ w'.cell? ⟨C, 4, none⟩ = some (.slice x.ca x.cs.length x.cc) ∧ w'.cell? ⟨C, 5, none⟩ = some (.slice x.pa x.ps.length x.pc) ∧ w'.cell? ⟨C, 6, none⟩ = some (.slice x.ha x.hs.length x.hc) ∧ w'.cell? ⟨I, 0, none⟩ = some (.int .i64 (p : Int)) ∧ w'.cell? ⟨A, 0, none⟩ = some (.int .i64 (p : Int)) ∧ w'.cell? ⟨A, 1, none⟩ = some (.int .i64 (-1)))) Tryz.mixd (HS.out _ (HO.out.env.kept ((Keeps.refl _ _).drew))) (fun hHeld => ?_)
 simp only [t1, t2, List.length_nil, Nat.reduceAdd, t4, Array.replicate_zero, t6, List.append_toArray, List.nil_append, t8]
 refine tk 0 (.pointer (some ⟨B, 0, none⟩)) hHeld ?_
 refine tk 1 (.string P.name) hHeld ?_
 refine tk 13 (.agg #[.int .i64 (p : Int), .int .i64 (-1)]) hHeld ?_
 simp only [Act.put, s1, s2, s3]
 refine rd 2 fun K hK => ?_
 go_simp
 refine (HN.out W.drew).mono ?_
 rintro r w1 ⟨rfl, hKc⟩
 have HO1 : Hid (ObI w (Env x N [(B, P.vs, 41), (C, x.vs, 26), (I, [.int .i64 (p : Int)], 3), (A, [.int .i64 (p : Int), .int .i64 (-1)], 34)]) R w1) := HO.out.kept HEk.out (((Keeps.refl _ _).drew).trans hKc fun _ _ h => h)
 clear hKc
 refine hK.out _ _ (HS.out _ HO1.out.env) (fun hHeld => ?_)
 simp only [Act.put, s1, s2, s3]
 refine tk 3 (.bool false) hHeld ?_
 refine tn 4 hHeld ?_
 refine tn 5 hHeld ?_
 refine tn 6 hHeld ?_
 refine tn 7 hHeld ?_
 refine tn 8 hHeld ?_
 refine tn 9 hHeld ?_
 refine tn 10 hHeld ?_
 refine tn 11 hHeld ?_
 refine tk 12 (.bool false) hHeld ?_
 simp only [Act.put, s1, s2, s3]
 refine rd 14 fun K hK => ?_
 go_simp
 refine (unless_any false 405 p (-1) w1).mono ?_
 rintro r w2 ⟨rfl, hKc⟩
 have HO2 : Hid (ObI w (Env x N [(B, P.vs, 41), (C, x.vs, 26), (I, [.int .i64 (p : Int)], 3), (A, [.int .i64 (p : Int), .int .i64 (-1)], 34)]) R w2) := HO1.out.kept HEk.out hKc
 clear hKc
 obtain ⟨Gz, hG⟩ : ∃ Gz : Flt, unl false ⟨405, p, -1⟩ = Gz := ⟨_, rfl⟩
 rw [hG]
 have HG : Hid (unl false ⟨405, p, -1⟩ = Gz) := hG
 clear hG
 refine hK.out _ _ (HS.out _ HO2.out.env) (fun hHeld => ?_)
 simp only [Act.put, s1, s2, s3]
 refine rd 15 fun K hK => ?_
 refine wp_store_row 65 _ _ rfl R #[.int .i64 Gz.n, .int .i64 Gz.a, .int .i64 Gz.b] (by rfl) (by rfl) 65 _ HO2.out.ans Tryz.size65 rfl (all53 ..) ?_
 obtain ⟨W5, hW5⟩ : ∃ W5, W5 = w2.setRow R #[.int .i64 Gz.n, .int .i64 Gz.a, .int .i64 Gz.b] := ⟨_, rfl⟩
 have hB5 : Blk W5 R [.int .i64 Gz.n, .int .i64 Gz.a, .int .i64 Gz.b] 65 := by rw [hW5]; exact HO2.out.ans.setRow _
 have k5 : Keeps (fun k => k = R) w2 W5 := by rw [hW5]; exact (Keeps.refl _ _).setRow _ _ fun _ => rfl
 have hlo := HO.out.lo
 have HO5 : Hid (Blk W5 R [.int .i64 Gz.n, .int .i64 Gz.a, .int .i64 Gz.b] 65 ∧ KF w W5) := ⟨hB5, HO2.out.keeps.trans k5 fun k hk e => by omega⟩
 have HE5 : Hid ((Env x N [(B, P.vs, 41), (C, x.vs, 26), (I, [.int .i64 (p : Int)], 3), (A, [.int .i64 (p : Int), .int .i64 (-1)], 34)]) W5) := Env.kept' (HE0.out) HO2.out.env hlo k5
 rw [← hW5]
 clear hW5 hB5 k5 hlo
 refine hK.out _ _ (HS.out _ HE5.out) (fun hHeld => ?_)
 simp only [Act.put, s1, s2, s3]
 refine wpAnyH_done (by kernel_rfl) ?_ _
 clear hHeld
 go_wp2
 (try simp only [Exit.inBlock, Exit.then])
 refine bodyPost_ret (results_cell_row rfl _ _ R 65 _ (0, 0) _ rfl HO5.out.1 Tryz.underlying65 rfl (by kernel_rfl)) rfl ?_
 exact ⟨by rw [HG.out], HO5.out.2⟩
theorem q37 (x : Cfg) (N p : Nat) (P : Par) (B C I A : Nat) (hp : p ≤ x.ps.length) (hsz : P.name.size ≤ 9223372036854775807) : Ask 57 #[.pointer (some ⟨B, 0, none⟩), .pointer (some ⟨C, 0, none⟩), .pointer (some ⟨I, 0, none⟩), .pointer (some ⟨A, 0, none⟩)] (Env x N [(B, P.vs, 41), (C, x.vs, 26), (I, [.int .i64 (p : Int)], 3), (A, [.int .i64 (p : Int), .int .i64 (-1)], 34)]) (unl (nameB P.name && !((x.ps.take p).any fun Q => Q.name.toList == P.name.toList)) ⟨405, p, -1⟩) := by
 cases hn : nameB P.name with
 | true => rw [Bool.true_and]; exact q37t x N p P B C I A hn hp hsz
 | false => rw [Bool.false_and]; exact q37f x N p P B C I A hn hsz
set_option maxHeartbeats 4000000 in
theorem q40t (x : Cfg) (N p : Nat) (P : Par) (B A : Nat) (hb : inR P.action 0 2 = true) : Ask 60 #[.pointer (some ⟨B, 0, none⟩), .pointer (some ⟨A, 0, none⟩)] (Env x N [(B, P.vs, 41), (A, [.int .i64 (p : Int), .int .i64 (-1)], 34)]) (unl (inR P.restarts 0 15) ⟨406, p, -1⟩) := by
 intro w hE
 have HB : Hid (∀ w, Calls Tryz.prog 36 #[.int .i64 P.action, .int .i64 0, .int .i64 2] w fun e w' => e = .returned (.bool true) ∧ KF w w') := fun w => by rw [← hb]; exact within_k _ _ _ w
 clear hb
 have HEk : Hid (∀ w w', (Env x N [(B, P.vs, 41), (A, [.int .i64 (p : Int), .int .i64 (-1)], 34)]) w → KF w w' → (Env x N [(B, P.vs, 41), (A, [.int .i64 (p : Int), .int .i64 (-1)], 34)]) w') := fun _ _ h k => h.kept k
 have HS : Hid (∀ w', (Env x N [(B, P.vs, 41), (A, [.int .i64 (p : Int), .int .i64 (-1)], 34)]) w' → (w'.cell? ⟨B, 0, none⟩ = some (.string P.name) ∧ w'.cell? ⟨B, 1, none⟩ = some (.int .i64 P.entry) ∧ w'.cell? ⟨B, 2, none⟩ = some (.int .i64 P.action) ∧ w'.cell? ⟨B, 3, none⟩ = some (.int .i64 P.restarts) ∧ w'.cell? ⟨B, 4, none⟩ = some (.int .i64 P.inputs) ∧ w'.cell? ⟨B, 5, none⟩ = some (.int .i64 P.outputs) ∧ w'.cell? ⟨B, 6, none⟩ = some (.slice P.ra P.rs.length P.rc) ∧ w'.cell? ⟨B, 7, none⟩ = some (.slice P.pa P.ps.length P.pc) ∧ w'.cell? ⟨A, 0, none⟩ = some (.int .i64 (p : Int)) ∧ w'.cell? ⟨A, 1, none⟩ = some (.int .i64 (-1)))) := fun w' h => ⟨(h.bl _ (.head _)).cell (i := 0) rfl, (h.bl _ (.head _)).cell (i := 1) rfl, (h.bl _ (.head _)).cell (i := 2) rfl, (h.bl _ (.head _)).cell (i := 3) rfl, (h.bl _ (.head _)).cell (i := 4) rfl, (h.bl _ (.head _)).cell (i := 5) rfl, (h.bl _ (.head _)).cell (i := 6) rfl, (h.bl _ (.head _)).cell (i := 7) rfl, (h.bl _ (.tail _ (.head _))).cell (i := 0) rfl, (h.bl _ (.tail _ (.head _))).cell (i := 1) rfl⟩
 obtain ⟨W, hW⟩ : ∃ W, W = w.alloc (.cells #[.int .i64 0, .int .i64 0, .int .i64 0] 65) := ⟨_, rfl⟩
 obtain ⟨R, hR⟩ : ∃ R, R = w.heap.size := ⟨_, rfl⟩
 have HO : Hid (ObI w (Env x N [(B, P.vs, 41), (A, [.int .i64 (p : Int), .int .i64 (-1)], 34)]) R W) := by rw [hW, hR]; exact ⟨hE.kept ((Keeps.refl _ _).alloc _), Blk.new _ _ _, (Keeps.refl _ _).alloc _, Nat.le_refl _⟩
 clear hE
 go_enter Tryz.func60, Tryz.ntmps60
 go_upto_region 1 with fail
 rw [← hW, ← hR]
 clear hW hR
 obtain ⟨c0_0, c0_1, c0_2, c0_3, c0_4, c0_5, c0_6, c0_7, c1_0, c1_1⟩ := HS.out _ HO.out.env
 go_wp2_with fail
 refine (HB.out W).mono ?_
 rintro e w1 ⟨rfl, hKc⟩
 have HO1 : Hid (ObI w (Env x N [(B, P.vs, 41), (A, [.int .i64 (p : Int), .int .i64 (-1)], 34)]) R w1) := HO.out.kept HEk.out hKc
 clear hKc
 clear c0_0 c0_1 c0_2 c0_3 c0_4 c0_5 c0_6 c0_7 c1_0 c1_1
 obtain ⟨c0_0, c0_1, c0_2, c0_3, c0_4, c0_5, c0_6, c0_7, c1_0, c1_1⟩ := HS.out _ HO1.out.env
 go_wp2_with fail
 refine (within_k P.restarts 0 15 w1).mono ?_
 rintro e w2 ⟨rfl, hKc⟩
 have HO2 : Hid (ObI w (Env x N [(B, P.vs, 41), (A, [.int .i64 (p : Int), .int .i64 (-1)], 34)]) R w2) := HO1.out.kept HEk.out hKc
 clear hKc
 clear c0_0 c0_1 c0_2 c0_3 c0_4 c0_5 c0_6 c0_7 c1_0 c1_1
 obtain ⟨c0_0, c0_1, c0_2, c0_3, c0_4, c0_5, c0_6, c0_7, c1_0, c1_1⟩ := HS.out _ HO2.out.env
 go_wp2_with fail
 refine (unless_any (inR P.restarts 0 15) 406 p (-1) w2).mono ?_
 rintro e w3 ⟨rfl, hKc⟩
 have HO3 : Hid (ObI w (Env x N [(B, P.vs, 41), (A, [.int .i64 (p : Int), .int .i64 (-1)], 34)]) R w3) := HO2.out.kept HEk.out hKc
 clear hKc
 clear c0_0 c0_1 c0_2 c0_3 c0_4 c0_5 c0_6 c0_7 c1_0 c1_1
 obtain ⟨c0_0, c0_1, c0_2, c0_3, c0_4, c0_5, c0_6, c0_7, c1_0, c1_1⟩ := HS.out _ HO3.out.env
 obtain ⟨Gz, hG⟩ : ∃ Gz : Flt, unl (inR P.restarts 0 15) ⟨406, p, -1⟩ = Gz := ⟨_, rfl⟩
 have HG : Hid (unl (inR P.restarts 0 15) ⟨406, p, -1⟩ = Gz) := hG
 rw [hG]
 clear hG
 obtain ⟨gn, ga, gb⟩ := Gz
 have m0 := HO3.out.ans.cell (i := 0) rfl
 have m1 := HO3.out.ans.cell (i := 1) rfl
 have m2 := HO3.out.ans.cell (i := 2) rfl
 have n0 := HO3.out.ans.frozen 0
 have n1 := HO3.out.ans.frozen 1
 have n2 := HO3.out.ans.frozen 2
 clear c0_0 c0_1 c0_2 c0_3 c0_4 c0_5 c0_6 c0_7 c1_0 c1_1
 go_wp2
 obtain ⟨hB, hK3⟩ := set3 HO3.out.ans (.int .i64 gn) (.int .i64 ga) (.int .i64 gb)
 obtain ⟨Wb, hWb⟩ : ∃ Wb, Wb = (((w3.setCell ⟨R, 0, none⟩ (.int .i64 gn)).setCell ⟨R, 1, none⟩ (.int .i64 ga)).setCell ⟨R, 2, none⟩ (.int .i64 gb)) := ⟨_, rfl⟩
 rw [← hWb] at hB hK3 ⊢
 (try simp only [Exit.inBlock, Exit.then])
 refine bodyPost_ret (results_cell_row rfl _ _ R 65 _ (0, 0) _ rfl hB Tryz.underlying65 rfl (by kernel_rfl)) rfl ?_
 have hlo := HO.out.lo
 exact ⟨by rw [HG.out], HO3.out.keeps.trans hK3 fun k hk e => by omega⟩
set_option maxHeartbeats 4000000 in
theorem q40f (x : Cfg) (N p : Nat) (P : Par) (B A : Nat) (hb : inR P.action 0 2 = false) : Ask 60 #[.pointer (some ⟨B, 0, none⟩), .pointer (some ⟨A, 0, none⟩)] (Env x N [(B, P.vs, 41), (A, [.int .i64 (p : Int), .int .i64 (-1)], 34)]) (unl (false) ⟨406, p, -1⟩) := by
 intro w hE
 have HB : Hid (∀ w, Calls Tryz.prog 36 #[.int .i64 P.action, .int .i64 0, .int .i64 2] w fun e w' => e = .returned (.bool false) ∧ KF w w') := fun w => by rw [← hb]; exact within_k _ _ _ w
 clear hb
 have HEk : Hid (∀ w w', (Env x N [(B, P.vs, 41), (A, [.int .i64 (p : Int), .int .i64 (-1)], 34)]) w → KF w w' → (Env x N [(B, P.vs, 41), (A, [.int .i64 (p : Int), .int .i64 (-1)], 34)]) w') := fun _ _ h k => h.kept k
 have HS : Hid (∀ w', (Env x N [(B, P.vs, 41), (A, [.int .i64 (p : Int), .int .i64 (-1)], 34)]) w' → (w'.cell? ⟨B, 0, none⟩ = some (.string P.name) ∧ w'.cell? ⟨B, 1, none⟩ = some (.int .i64 P.entry) ∧ w'.cell? ⟨B, 2, none⟩ = some (.int .i64 P.action) ∧ w'.cell? ⟨B, 3, none⟩ = some (.int .i64 P.restarts) ∧ w'.cell? ⟨B, 4, none⟩ = some (.int .i64 P.inputs) ∧ w'.cell? ⟨B, 5, none⟩ = some (.int .i64 P.outputs) ∧ w'.cell? ⟨B, 6, none⟩ = some (.slice P.ra P.rs.length P.rc) ∧ w'.cell? ⟨B, 7, none⟩ = some (.slice P.pa P.ps.length P.pc) ∧ w'.cell? ⟨A, 0, none⟩ = some (.int .i64 (p : Int)) ∧ w'.cell? ⟨A, 1, none⟩ = some (.int .i64 (-1)))) := fun w' h => ⟨(h.bl _ (.head _)).cell (i := 0) rfl, (h.bl _ (.head _)).cell (i := 1) rfl, (h.bl _ (.head _)).cell (i := 2) rfl, (h.bl _ (.head _)).cell (i := 3) rfl, (h.bl _ (.head _)).cell (i := 4) rfl, (h.bl _ (.head _)).cell (i := 5) rfl, (h.bl _ (.head _)).cell (i := 6) rfl, (h.bl _ (.head _)).cell (i := 7) rfl, (h.bl _ (.tail _ (.head _))).cell (i := 0) rfl, (h.bl _ (.tail _ (.head _))).cell (i := 1) rfl⟩
 obtain ⟨W, hW⟩ : ∃ W, W = w.alloc (.cells #[.int .i64 0, .int .i64 0, .int .i64 0] 65) := ⟨_, rfl⟩
 obtain ⟨R, hR⟩ : ∃ R, R = w.heap.size := ⟨_, rfl⟩
 have HO : Hid (ObI w (Env x N [(B, P.vs, 41), (A, [.int .i64 (p : Int), .int .i64 (-1)], 34)]) R W) := by rw [hW, hR]; exact ⟨hE.kept ((Keeps.refl _ _).alloc _), Blk.new _ _ _, (Keeps.refl _ _).alloc _, Nat.le_refl _⟩
 clear hE
 go_enter Tryz.func60, Tryz.ntmps60
 go_upto_region 1 with fail
 rw [← hW, ← hR]
 clear hW hR
 obtain ⟨c0_0, c0_1, c0_2, c0_3, c0_4, c0_5, c0_6, c0_7, c1_0, c1_1⟩ := HS.out _ HO.out.env
 go_wp2_with fail
 refine (HB.out W).mono ?_
 rintro e w1 ⟨rfl, hKc⟩
 have HO1 : Hid (ObI w (Env x N [(B, P.vs, 41), (A, [.int .i64 (p : Int), .int .i64 (-1)], 34)]) R w1) := HO.out.kept HEk.out hKc
 clear hKc
 clear c0_0 c0_1 c0_2 c0_3 c0_4 c0_5 c0_6 c0_7 c1_0 c1_1
 obtain ⟨c0_0, c0_1, c0_2, c0_3, c0_4, c0_5, c0_6, c0_7, c1_0, c1_1⟩ := HS.out _ HO1.out.env
 go_wp2_with fail
 refine (unless_any (false) 406 p (-1) w1).mono ?_
 rintro e w2 ⟨rfl, hKc⟩
 have HO2 : Hid (ObI w (Env x N [(B, P.vs, 41), (A, [.int .i64 (p : Int), .int .i64 (-1)], 34)]) R w2) := HO1.out.kept HEk.out hKc
 clear hKc
 clear c0_0 c0_1 c0_2 c0_3 c0_4 c0_5 c0_6 c0_7 c1_0 c1_1
 obtain ⟨c0_0, c0_1, c0_2, c0_3, c0_4, c0_5, c0_6, c0_7, c1_0, c1_1⟩ := HS.out _ HO2.out.env
 obtain ⟨Gz, hG⟩ : ∃ Gz : Flt, unl (false) ⟨406, p, -1⟩ = Gz := ⟨_, rfl⟩
 have HG : Hid (unl (false) ⟨406, p, -1⟩ = Gz) := hG
 rw [hG]
 clear hG
 obtain ⟨gn, ga, gb⟩ := Gz
 have m0 := HO2.out.ans.cell (i := 0) rfl
 have m1 := HO2.out.ans.cell (i := 1) rfl
 have m2 := HO2.out.ans.cell (i := 2) rfl
 have n0 := HO2.out.ans.frozen 0
 have n1 := HO2.out.ans.frozen 1
 have n2 := HO2.out.ans.frozen 2
 clear c0_0 c0_1 c0_2 c0_3 c0_4 c0_5 c0_6 c0_7 c1_0 c1_1
 go_wp2
 obtain ⟨hB, hK3⟩ := set3 HO2.out.ans (.int .i64 gn) (.int .i64 ga) (.int .i64 gb)
 obtain ⟨Wb, hWb⟩ : ∃ Wb, Wb = (((w2.setCell ⟨R, 0, none⟩ (.int .i64 gn)).setCell ⟨R, 1, none⟩ (.int .i64 ga)).setCell ⟨R, 2, none⟩ (.int .i64 gb)) := ⟨_, rfl⟩
 rw [← hWb] at hB hK3 ⊢
 (try simp only [Exit.inBlock, Exit.then])
 refine bodyPost_ret (results_cell_row rfl _ _ R 65 _ (0, 0) _ rfl hB Tryz.underlying65 rfl (by kernel_rfl)) rfl ?_
 have hlo := HO.out.lo
 exact ⟨by rw [HG.out], HO2.out.keeps.trans hK3 fun k hk e => by omega⟩
theorem q40 (x : Cfg) (N p : Nat) (P : Par) (B A : Nat) : Ask 60 #[.pointer (some ⟨B, 0, none⟩), .pointer (some ⟨A, 0, none⟩)] (Env x N [(B, P.vs, 41), (A, [.int .i64 (p : Int), .int .i64 (-1)], 34)]) (unl (inR P.action 0 2 && inR P.restarts 0 15) ⟨406, p, -1⟩) := by
 cases hn : inR P.action 0 2 with
 | true => rw [Bool.true_and]; exact q40t x N p P B A hn
 | false => rw [Bool.false_and]; exact q40f x N p P B A hn
set_option maxHeartbeats 4000000 in
theorem q41t (x : Cfg) (N p : Nat) (P : Par) (B A : Nat) (hb : inR P.inputs 0 16 = true) : Ask 61 #[.pointer (some ⟨B, 0, none⟩), .pointer (some ⟨A, 0, none⟩)] (Env x N [(B, P.vs, 41), (A, [.int .i64 (p : Int), .int .i64 (-1)], 34)]) (unl (inR P.outputs 0 16) ⟨407, p, -1⟩) := by
 intro w hE
 have HB : Hid (∀ w, Calls Tryz.prog 36 #[.int .i64 P.inputs, .int .i64 0, .int .i64 16] w fun e w' => e = .returned (.bool true) ∧ KF w w') := fun w => by rw [← hb]; exact within_k _ _ _ w
 clear hb
 have HEk : Hid (∀ w w', (Env x N [(B, P.vs, 41), (A, [.int .i64 (p : Int), .int .i64 (-1)], 34)]) w → KF w w' → (Env x N [(B, P.vs, 41), (A, [.int .i64 (p : Int), .int .i64 (-1)], 34)]) w') := fun _ _ h k => h.kept k
 have HS : Hid (∀ w', (Env x N [(B, P.vs, 41), (A, [.int .i64 (p : Int), .int .i64 (-1)], 34)]) w' → (w'.cell? ⟨B, 0, none⟩ = some (.string P.name) ∧ w'.cell? ⟨B, 1, none⟩ = some (.int .i64 P.entry) ∧ w'.cell? ⟨B, 2, none⟩ = some (.int .i64 P.action) ∧ w'.cell? ⟨B, 3, none⟩ = some (.int .i64 P.restarts) ∧ w'.cell? ⟨B, 4, none⟩ = some (.int .i64 P.inputs) ∧ w'.cell? ⟨B, 5, none⟩ = some (.int .i64 P.outputs) ∧ w'.cell? ⟨B, 6, none⟩ = some (.slice P.ra P.rs.length P.rc) ∧ w'.cell? ⟨B, 7, none⟩ = some (.slice P.pa P.ps.length P.pc) ∧ w'.cell? ⟨A, 0, none⟩ = some (.int .i64 (p : Int)) ∧ w'.cell? ⟨A, 1, none⟩ = some (.int .i64 (-1)))) := fun w' h => ⟨(h.bl _ (.head _)).cell (i := 0) rfl, (h.bl _ (.head _)).cell (i := 1) rfl, (h.bl _ (.head _)).cell (i := 2) rfl, (h.bl _ (.head _)).cell (i := 3) rfl, (h.bl _ (.head _)).cell (i := 4) rfl, (h.bl _ (.head _)).cell (i := 5) rfl, (h.bl _ (.head _)).cell (i := 6) rfl, (h.bl _ (.head _)).cell (i := 7) rfl, (h.bl _ (.tail _ (.head _))).cell (i := 0) rfl, (h.bl _ (.tail _ (.head _))).cell (i := 1) rfl⟩
 obtain ⟨W, hW⟩ : ∃ W, W = w.alloc (.cells #[.int .i64 0, .int .i64 0, .int .i64 0] 65) := ⟨_, rfl⟩
 obtain ⟨R, hR⟩ : ∃ R, R = w.heap.size := ⟨_, rfl⟩
 have HO : Hid (ObI w (Env x N [(B, P.vs, 41), (A, [.int .i64 (p : Int), .int .i64 (-1)], 34)]) R W) := by rw [hW, hR]; exact ⟨hE.kept ((Keeps.refl _ _).alloc _), Blk.new _ _ _, (Keeps.refl _ _).alloc _, Nat.le_refl _⟩
 clear hE
 go_enter Tryz.func61, Tryz.ntmps61
 go_upto_region 1 with fail
 rw [← hW, ← hR]
 clear hW hR
 obtain ⟨c0_0, c0_1, c0_2, c0_3, c0_4, c0_5, c0_6, c0_7, c1_0, c1_1⟩ := HS.out _ HO.out.env
 go_wp2_with fail
 refine (HB.out W).mono ?_
 rintro e w1 ⟨rfl, hKc⟩
 have HO1 : Hid (ObI w (Env x N [(B, P.vs, 41), (A, [.int .i64 (p : Int), .int .i64 (-1)], 34)]) R w1) := HO.out.kept HEk.out hKc
 clear hKc
 clear c0_0 c0_1 c0_2 c0_3 c0_4 c0_5 c0_6 c0_7 c1_0 c1_1
 obtain ⟨c0_0, c0_1, c0_2, c0_3, c0_4, c0_5, c0_6, c0_7, c1_0, c1_1⟩ := HS.out _ HO1.out.env
 go_wp2_with fail
 refine (within_k P.outputs 0 16 w1).mono ?_
 rintro e w2 ⟨rfl, hKc⟩
 have HO2 : Hid (ObI w (Env x N [(B, P.vs, 41), (A, [.int .i64 (p : Int), .int .i64 (-1)], 34)]) R w2) := HO1.out.kept HEk.out hKc
 clear hKc
 clear c0_0 c0_1 c0_2 c0_3 c0_4 c0_5 c0_6 c0_7 c1_0 c1_1
 obtain ⟨c0_0, c0_1, c0_2, c0_3, c0_4, c0_5, c0_6, c0_7, c1_0, c1_1⟩ := HS.out _ HO2.out.env
 go_wp2_with fail
 refine (unless_any (inR P.outputs 0 16) 407 p (-1) w2).mono ?_
 rintro e w3 ⟨rfl, hKc⟩
 have HO3 : Hid (ObI w (Env x N [(B, P.vs, 41), (A, [.int .i64 (p : Int), .int .i64 (-1)], 34)]) R w3) := HO2.out.kept HEk.out hKc
 clear hKc
 clear c0_0 c0_1 c0_2 c0_3 c0_4 c0_5 c0_6 c0_7 c1_0 c1_1
 obtain ⟨c0_0, c0_1, c0_2, c0_3, c0_4, c0_5, c0_6, c0_7, c1_0, c1_1⟩ := HS.out _ HO3.out.env
 obtain ⟨Gz, hG⟩ : ∃ Gz : Flt, unl (inR P.outputs 0 16) ⟨407, p, -1⟩ = Gz := ⟨_, rfl⟩
 have HG : Hid (unl (inR P.outputs 0 16) ⟨407, p, -1⟩ = Gz) := hG
 rw [hG]
 clear hG
 obtain ⟨gn, ga, gb⟩ := Gz
 have m0 := HO3.out.ans.cell (i := 0) rfl
 have m1 := HO3.out.ans.cell (i := 1) rfl
 have m2 := HO3.out.ans.cell (i := 2) rfl
 have n0 := HO3.out.ans.frozen 0
 have n1 := HO3.out.ans.frozen 1
 have n2 := HO3.out.ans.frozen 2
 clear c0_0 c0_1 c0_2 c0_3 c0_4 c0_5 c0_6 c0_7 c1_0 c1_1
 go_wp2
 obtain ⟨hB, hK3⟩ := set3 HO3.out.ans (.int .i64 gn) (.int .i64 ga) (.int .i64 gb)
 obtain ⟨Wb, hWb⟩ : ∃ Wb, Wb = (((w3.setCell ⟨R, 0, none⟩ (.int .i64 gn)).setCell ⟨R, 1, none⟩ (.int .i64 ga)).setCell ⟨R, 2, none⟩ (.int .i64 gb)) := ⟨_, rfl⟩
 rw [← hWb] at hB hK3 ⊢
 (try simp only [Exit.inBlock, Exit.then])
 refine bodyPost_ret (results_cell_row rfl _ _ R 65 _ (0, 0) _ rfl hB Tryz.underlying65 rfl (by kernel_rfl)) rfl ?_
 have hlo := HO.out.lo
 exact ⟨by rw [HG.out], HO3.out.keeps.trans hK3 fun k hk e => by omega⟩
set_option maxHeartbeats 4000000 in
theorem q41f (x : Cfg) (N p : Nat) (P : Par) (B A : Nat) (hb : inR P.inputs 0 16 = false) : Ask 61 #[.pointer (some ⟨B, 0, none⟩), .pointer (some ⟨A, 0, none⟩)] (Env x N [(B, P.vs, 41), (A, [.int .i64 (p : Int), .int .i64 (-1)], 34)]) (unl (false) ⟨407, p, -1⟩) := by
 intro w hE
 have HB : Hid (∀ w, Calls Tryz.prog 36 #[.int .i64 P.inputs, .int .i64 0, .int .i64 16] w fun e w' => e = .returned (.bool false) ∧ KF w w') := fun w => by rw [← hb]; exact within_k _ _ _ w
 clear hb
 have HEk : Hid (∀ w w', (Env x N [(B, P.vs, 41), (A, [.int .i64 (p : Int), .int .i64 (-1)], 34)]) w → KF w w' → (Env x N [(B, P.vs, 41), (A, [.int .i64 (p : Int), .int .i64 (-1)], 34)]) w') := fun _ _ h k => h.kept k
 have HS : Hid (∀ w', (Env x N [(B, P.vs, 41), (A, [.int .i64 (p : Int), .int .i64 (-1)], 34)]) w' → (w'.cell? ⟨B, 0, none⟩ = some (.string P.name) ∧ w'.cell? ⟨B, 1, none⟩ = some (.int .i64 P.entry) ∧ w'.cell? ⟨B, 2, none⟩ = some (.int .i64 P.action) ∧ w'.cell? ⟨B, 3, none⟩ = some (.int .i64 P.restarts) ∧ w'.cell? ⟨B, 4, none⟩ = some (.int .i64 P.inputs) ∧ w'.cell? ⟨B, 5, none⟩ = some (.int .i64 P.outputs) ∧ w'.cell? ⟨B, 6, none⟩ = some (.slice P.ra P.rs.length P.rc) ∧ w'.cell? ⟨B, 7, none⟩ = some (.slice P.pa P.ps.length P.pc) ∧ w'.cell? ⟨A, 0, none⟩ = some (.int .i64 (p : Int)) ∧ w'.cell? ⟨A, 1, none⟩ = some (.int .i64 (-1)))) := fun w' h => ⟨(h.bl _ (.head _)).cell (i := 0) rfl, (h.bl _ (.head _)).cell (i := 1) rfl, (h.bl _ (.head _)).cell (i := 2) rfl, (h.bl _ (.head _)).cell (i := 3) rfl, (h.bl _ (.head _)).cell (i := 4) rfl, (h.bl _ (.head _)).cell (i := 5) rfl, (h.bl _ (.head _)).cell (i := 6) rfl, (h.bl _ (.head _)).cell (i := 7) rfl, (h.bl _ (.tail _ (.head _))).cell (i := 0) rfl, (h.bl _ (.tail _ (.head _))).cell (i := 1) rfl⟩
 obtain ⟨W, hW⟩ : ∃ W, W = w.alloc (.cells #[.int .i64 0, .int .i64 0, .int .i64 0] 65) := ⟨_, rfl⟩
 obtain ⟨R, hR⟩ : ∃ R, R = w.heap.size := ⟨_, rfl⟩
 have HO : Hid (ObI w (Env x N [(B, P.vs, 41), (A, [.int .i64 (p : Int), .int .i64 (-1)], 34)]) R W) := by rw [hW, hR]; exact ⟨hE.kept ((Keeps.refl _ _).alloc _), Blk.new _ _ _, (Keeps.refl _ _).alloc _, Nat.le_refl _⟩
 clear hE
 go_enter Tryz.func61, Tryz.ntmps61
 go_upto_region 1 with fail
 rw [← hW, ← hR]
 clear hW hR
 obtain ⟨c0_0, c0_1, c0_2, c0_3, c0_4, c0_5, c0_6, c0_7, c1_0, c1_1⟩ := HS.out _ HO.out.env
 go_wp2_with fail
 refine (HB.out W).mono ?_
 rintro e w1 ⟨rfl, hKc⟩
 have HO1 : Hid (ObI w (Env x N [(B, P.vs, 41), (A, [.int .i64 (p : Int), .int .i64 (-1)], 34)]) R w1) := HO.out.kept HEk.out hKc
 clear hKc
 clear c0_0 c0_1 c0_2 c0_3 c0_4 c0_5 c0_6 c0_7 c1_0 c1_1
 obtain ⟨c0_0, c0_1, c0_2, c0_3, c0_4, c0_5, c0_6, c0_7, c1_0, c1_1⟩ := HS.out _ HO1.out.env
 go_wp2_with fail
 refine (unless_any (false) 407 p (-1) w1).mono ?_
 rintro e w2 ⟨rfl, hKc⟩
 have HO2 : Hid (ObI w (Env x N [(B, P.vs, 41), (A, [.int .i64 (p : Int), .int .i64 (-1)], 34)]) R w2) := HO1.out.kept HEk.out hKc
 clear hKc
 clear c0_0 c0_1 c0_2 c0_3 c0_4 c0_5 c0_6 c0_7 c1_0 c1_1
 obtain ⟨c0_0, c0_1, c0_2, c0_3, c0_4, c0_5, c0_6, c0_7, c1_0, c1_1⟩ := HS.out _ HO2.out.env
 obtain ⟨Gz, hG⟩ : ∃ Gz : Flt, unl (false) ⟨407, p, -1⟩ = Gz := ⟨_, rfl⟩
 have HG : Hid (unl (false) ⟨407, p, -1⟩ = Gz) := hG
 rw [hG]
 clear hG
 obtain ⟨gn, ga, gb⟩ := Gz
 have m0 := HO2.out.ans.cell (i := 0) rfl
 have m1 := HO2.out.ans.cell (i := 1) rfl
 have m2 := HO2.out.ans.cell (i := 2) rfl
 have n0 := HO2.out.ans.frozen 0
 have n1 := HO2.out.ans.frozen 1
 have n2 := HO2.out.ans.frozen 2
 clear c0_0 c0_1 c0_2 c0_3 c0_4 c0_5 c0_6 c0_7 c1_0 c1_1
 go_wp2
 obtain ⟨hB, hK3⟩ := set3 HO2.out.ans (.int .i64 gn) (.int .i64 ga) (.int .i64 gb)
 obtain ⟨Wb, hWb⟩ : ∃ Wb, Wb = (((w2.setCell ⟨R, 0, none⟩ (.int .i64 gn)).setCell ⟨R, 1, none⟩ (.int .i64 ga)).setCell ⟨R, 2, none⟩ (.int .i64 gb)) := ⟨_, rfl⟩
 rw [← hWb] at hB hK3 ⊢
 (try simp only [Exit.inBlock, Exit.then])
 refine bodyPost_ret (results_cell_row rfl _ _ R 65 _ (0, 0) _ rfl hB Tryz.underlying65 rfl (by kernel_rfl)) rfl ?_
 have hlo := HO.out.lo
 exact ⟨by rw [HG.out], HO2.out.keeps.trans hK3 fun k hk e => by omega⟩
theorem q41 (x : Cfg) (N p : Nat) (P : Par) (B A : Nat) : Ask 61 #[.pointer (some ⟨B, 0, none⟩), .pointer (some ⟨A, 0, none⟩)] (Env x N [(B, P.vs, 41), (A, [.int .i64 (p : Int), .int .i64 (-1)], 34)]) (unl (inR P.inputs 0 16 && inR P.outputs 0 16) ⟨407, p, -1⟩) := by
 cases hn : inR P.inputs 0 16 with
 | true => rw [Bool.true_and]; exact q41t x N p P B A hn
 | false => rw [Bool.false_and]; exact q41f x N p P B A hn
set_option maxHeartbeats 4000000 in
theorem q42 (x : Cfg) (N p : Nat) (P : Par) (B A : Nat) : Ask 62 #[.pointer (some ⟨B, 0, none⟩), .pointer (some ⟨A, 0, none⟩)] (Env x N [(B, P.vs, 41), (A, [.int .i64 (p : Int), .int .i64 (-1)], 34)]) (unl (inR (P.rs.length : Int) 1 8) ⟨408, p, -1⟩) := by
 intro w hE
 have HEk : Hid (∀ w w', (Env x N [(B, P.vs, 41), (A, [.int .i64 (p : Int), .int .i64 (-1)], 34)]) w → KF w w' → (Env x N [(B, P.vs, 41), (A, [.int .i64 (p : Int), .int .i64 (-1)], 34)]) w') := fun _ _ h k => h.kept k
 have HS : Hid (∀ w', (Env x N [(B, P.vs, 41), (A, [.int .i64 (p : Int), .int .i64 (-1)], 34)]) w' → (w'.cell? ⟨B, 0, none⟩ = some (.string P.name) ∧ w'.cell? ⟨B, 1, none⟩ = some (.int .i64 P.entry) ∧ w'.cell? ⟨B, 2, none⟩ = some (.int .i64 P.action) ∧ w'.cell? ⟨B, 3, none⟩ = some (.int .i64 P.restarts) ∧ w'.cell? ⟨B, 4, none⟩ = some (.int .i64 P.inputs) ∧ w'.cell? ⟨B, 5, none⟩ = some (.int .i64 P.outputs) ∧ w'.cell? ⟨B, 6, none⟩ = some (.slice P.ra P.rs.length P.rc) ∧ w'.cell? ⟨B, 7, none⟩ = some (.slice P.pa P.ps.length P.pc) ∧ w'.cell? ⟨A, 0, none⟩ = some (.int .i64 (p : Int)) ∧ w'.cell? ⟨A, 1, none⟩ = some (.int .i64 (-1)))) := fun w' h => ⟨(h.bl _ (.head _)).cell (i := 0) rfl, (h.bl _ (.head _)).cell (i := 1) rfl, (h.bl _ (.head _)).cell (i := 2) rfl, (h.bl _ (.head _)).cell (i := 3) rfl, (h.bl _ (.head _)).cell (i := 4) rfl, (h.bl _ (.head _)).cell (i := 5) rfl, (h.bl _ (.head _)).cell (i := 6) rfl, (h.bl _ (.head _)).cell (i := 7) rfl, (h.bl _ (.tail _ (.head _))).cell (i := 0) rfl, (h.bl _ (.tail _ (.head _))).cell (i := 1) rfl⟩
 obtain ⟨W, hW⟩ : ∃ W, W = w.alloc (.cells #[.int .i64 0, .int .i64 0, .int .i64 0] 65) := ⟨_, rfl⟩
 obtain ⟨R, hR⟩ : ∃ R, R = w.heap.size := ⟨_, rfl⟩
 have HO : Hid (ObI w (Env x N [(B, P.vs, 41), (A, [.int .i64 (p : Int), .int .i64 (-1)], 34)]) R W) := by rw [hW, hR]; exact ⟨hE.kept ((Keeps.refl _ _).alloc _), Blk.new _ _ _, (Keeps.refl _ _).alloc _, Nat.le_refl _⟩
 have HE0 : Hid ((Env x N [(B, P.vs, 41), (A, [.int .i64 (p : Int), .int .i64 (-1)], 34)]) w) := hE
 clear hE
 go_enter Tryz.func62, Tryz.ntmps62
 go_upto_region 1 with fail
 rw [← hW, ← hR]
 clear hW hR
 refine wp_region_held_drew (S := (fun w' => w'.cell? ⟨B, 0, none⟩ = some (.string P.name) ∧ w'.cell? ⟨B, 1, none⟩ = some (.int .i64 P.entry) ∧ w'.cell? ⟨B, 2, none⟩ = some (.int .i64 P.action) ∧ w'.cell? ⟨B, 3, none⟩ = some (.int .i64 P.restarts) ∧ w'.cell? ⟨B, 4, none⟩ = some (.int .i64 P.inputs) ∧ w'.cell? ⟨B, 5, none⟩ = some (.int .i64 P.outputs) ∧ w'.cell? ⟨B, 6, none⟩ = some (.slice P.ra P.rs.length P.rc) ∧ w'.cell? ⟨B, 7, none⟩ = some (.slice P.pa P.ps.length P.pc) ∧ w'.cell? ⟨A, 0, none⟩ = some (.int .i64 (p : Int)) ∧ w'.cell? ⟨A, 1, none⟩ = some (.int .i64 (-1)))) Tryz.mixd (HS.out _ (HO.out.env.kept ((Keeps.refl _ _).drew))) (fun hHeld => ?_)
 simp only [t1, t2, List.length_nil, Nat.reduceAdd, t4, Array.replicate_zero, t6, List.append_toArray, List.nil_append, t8]
 refine tk 0 (.pointer (some ⟨B, 6, none⟩)) hHeld ?_
 refine tk 1 (.slice P.ra P.rs.length P.rc) hHeld ?_
 refine tk 2 (.int .i64 P.rs.length) hHeld ?_
 refine tk 4 (.agg #[.int .i64 (p : Int), .int .i64 (-1)]) hHeld ?_
 simp only [Act.put, s1, s2, s3]
 refine rd 3 fun K hK => ?_
 go_simp
 refine (within_k (P.rs.length : Int) 1 8 W.drew).mono ?_
 rintro r w1 ⟨rfl, hKc⟩
 have HO1 : Hid (ObI w (Env x N [(B, P.vs, 41), (A, [.int .i64 (p : Int), .int .i64 (-1)], 34)]) R w1) := HO.out.kept HEk.out (((Keeps.refl _ _).drew).trans hKc fun _ _ h => h)
 clear hKc
 refine hK.out _ _ (HS.out _ HO1.out.env) (fun hHeld => ?_)
 simp only [Act.put, s1, s2, s3]
 refine rd 5 fun K hK => ?_
 go_simp
 refine (unless_any (inR (P.rs.length : Int) 1 8) 408 p (-1) w1).mono ?_
 rintro r w2 ⟨rfl, hKc⟩
 have HO2 : Hid (ObI w (Env x N [(B, P.vs, 41), (A, [.int .i64 (p : Int), .int .i64 (-1)], 34)]) R w2) := HO1.out.kept HEk.out hKc
 clear hKc
 obtain ⟨Gz, hG⟩ : ∃ Gz : Flt, unl (inR (P.rs.length : Int) 1 8) ⟨408, p, -1⟩ = Gz := ⟨_, rfl⟩
 rw [hG]
 have HG : Hid (unl (inR (P.rs.length : Int) 1 8) ⟨408, p, -1⟩ = Gz) := hG
 clear hG
 refine hK.out _ _ (HS.out _ HO2.out.env) (fun hHeld => ?_)
 simp only [Act.put, s1, s2, s3]
 refine rd 6 fun K hK => ?_
 refine wp_store_row 65 _ _ rfl R #[.int .i64 Gz.n, .int .i64 Gz.a, .int .i64 Gz.b] (by rfl) (by rfl) 65 _ HO2.out.ans Tryz.size65 rfl (all53 ..) ?_
 obtain ⟨W5, hW5⟩ : ∃ W5, W5 = w2.setRow R #[.int .i64 Gz.n, .int .i64 Gz.a, .int .i64 Gz.b] := ⟨_, rfl⟩
 have hB5 : Blk W5 R [.int .i64 Gz.n, .int .i64 Gz.a, .int .i64 Gz.b] 65 := by rw [hW5]; exact HO2.out.ans.setRow _
 have k5 : Keeps (fun k => k = R) w2 W5 := by rw [hW5]; exact (Keeps.refl _ _).setRow _ _ fun _ => rfl
 have hlo := HO.out.lo
 have HO5 : Hid (Blk W5 R [.int .i64 Gz.n, .int .i64 Gz.a, .int .i64 Gz.b] 65 ∧ KF w W5) := ⟨hB5, HO2.out.keeps.trans k5 fun k hk e => by omega⟩
 have HE5 : Hid ((Env x N [(B, P.vs, 41), (A, [.int .i64 (p : Int), .int .i64 (-1)], 34)]) W5) := Env.kept' (HE0.out) HO2.out.env hlo k5
 rw [← hW5]
 clear hW5 hB5 k5 hlo
 refine hK.out _ _ (HS.out _ HE5.out) (fun hHeld => ?_)
 simp only [Act.put, s1, s2, s3]
 refine wpAnyH_done (by kernel_rfl) ?_ _
 clear hHeld
 go_wp2
 (try simp only [Exit.inBlock, Exit.then])
 refine bodyPost_ret (results_cell_row rfl _ _ R 65 _ (0, 0) _ rfl HO5.out.1 Tryz.underlying65 rfl (by kernel_rfl)) rfl ?_
 exact ⟨by rw [HG.out], HO5.out.2⟩
set_option maxHeartbeats 4000000 in
theorem q46 (x : Cfg) (N p : Nat) (P : Par) (B A : Nat) (hP : P ∈ x.ps) (hr : ∀ r ∈ P.rs, (1 ≤ r.rights ∧ r.rights ≤ 7) ∧ r.pg.Ok) : Ask 66 #[.pointer (some ⟨B, 0, none⟩), .pointer (some ⟨A, 0, none⟩)] (Env x N [(B, P.vs, 41), (A, [.int .i64 (p : Int), .int .i64 (-1)], 34)]) (unl P.begB ⟨412, p, -1⟩) := by
 intro w hE
 have HM : Hid (∀ w, Env x N [(B, P.vs, 41), (A, [.int .i64 (p : Int), .int .i64 (-1)], 34)] w → Calls Tryz.prog 67 #[P.v] w fun e w' => e = .returned (.bool P.begB) ∧ KF w w') := fun w hE => canBegin_any P w (hE.cin.pin P hP).rseg (hE.cin.pin P hP).rlen hr
 clear hP hr
 have HEk : Hid (∀ w w', (Env x N [(B, P.vs, 41), (A, [.int .i64 (p : Int), .int .i64 (-1)], 34)]) w → KF w w' → (Env x N [(B, P.vs, 41), (A, [.int .i64 (p : Int), .int .i64 (-1)], 34)]) w') := fun _ _ h k => h.kept k
 have HS : Hid (∀ w', (Env x N [(B, P.vs, 41), (A, [.int .i64 (p : Int), .int .i64 (-1)], 34)]) w' → (w'.cell? ⟨B, 0, none⟩ = some (.string P.name) ∧ w'.cell? ⟨B, 1, none⟩ = some (.int .i64 P.entry) ∧ w'.cell? ⟨B, 2, none⟩ = some (.int .i64 P.action) ∧ w'.cell? ⟨B, 3, none⟩ = some (.int .i64 P.restarts) ∧ w'.cell? ⟨B, 4, none⟩ = some (.int .i64 P.inputs) ∧ w'.cell? ⟨B, 5, none⟩ = some (.int .i64 P.outputs) ∧ w'.cell? ⟨B, 6, none⟩ = some (.slice P.ra P.rs.length P.rc) ∧ w'.cell? ⟨B, 7, none⟩ = some (.slice P.pa P.ps.length P.pc) ∧ w'.cell? ⟨A, 0, none⟩ = some (.int .i64 (p : Int)) ∧ w'.cell? ⟨A, 1, none⟩ = some (.int .i64 (-1)))) := fun w' h => ⟨(h.bl _ (.head _)).cell (i := 0) rfl, (h.bl _ (.head _)).cell (i := 1) rfl, (h.bl _ (.head _)).cell (i := 2) rfl, (h.bl _ (.head _)).cell (i := 3) rfl, (h.bl _ (.head _)).cell (i := 4) rfl, (h.bl _ (.head _)).cell (i := 5) rfl, (h.bl _ (.head _)).cell (i := 6) rfl, (h.bl _ (.head _)).cell (i := 7) rfl, (h.bl _ (.tail _ (.head _))).cell (i := 0) rfl, (h.bl _ (.tail _ (.head _))).cell (i := 1) rfl⟩
 obtain ⟨W, hW⟩ : ∃ W, W = w.alloc (.cells #[.int .i64 0, .int .i64 0, .int .i64 0] 65) := ⟨_, rfl⟩
 obtain ⟨R, hR⟩ : ∃ R, R = w.heap.size := ⟨_, rfl⟩
 have HO : Hid (ObI w (Env x N [(B, P.vs, 41), (A, [.int .i64 (p : Int), .int .i64 (-1)], 34)]) R W) := by rw [hW, hR]; exact ⟨hE.kept ((Keeps.refl _ _).alloc _), Blk.new _ _ _, (Keeps.refl _ _).alloc _, Nat.le_refl _⟩
 have HE0 : Hid ((Env x N [(B, P.vs, 41), (A, [.int .i64 (p : Int), .int .i64 (-1)], 34)]) w) := hE
 clear hE
 go_enter Tryz.func66, Tryz.ntmps66
 go_upto_region 1 with fail
 rw [← hW, ← hR]
 clear hW hR
 refine wp_region_held_drew (S := (fun w' => w'.cell? ⟨B, 0, none⟩ = some (.string P.name) ∧ w'.cell? ⟨B, 1, none⟩ = some (.int .i64 P.entry) ∧ w'.cell? ⟨B, 2, none⟩ = some (.int .i64 P.action) ∧ w'.cell? ⟨B, 3, none⟩ = some (.int .i64 P.restarts) ∧ w'.cell? ⟨B, 4, none⟩ = some (.int .i64 P.inputs) ∧ w'.cell? ⟨B, 5, none⟩ = some (.int .i64 P.outputs) ∧ w'.cell? ⟨B, 6, none⟩ = some (.slice P.ra P.rs.length P.rc) ∧ w'.cell? ⟨B, 7, none⟩ = some (.slice P.pa P.ps.length P.pc) ∧ w'.cell? ⟨A, 0, none⟩ = some (.int .i64 (p : Int)) ∧ w'.cell? ⟨A, 1, none⟩ = some (.int .i64 (-1)))) Tryz.mixd (HS.out _ (HO.out.env.kept ((Keeps.refl _ _).drew))) (fun hHeld => ?_)
 simp only [t1, t2, List.length_nil, Nat.reduceAdd, t4, Array.replicate_zero, t6, List.append_toArray, List.nil_append, t8]
 refine tk 0 (.agg #[.string P.name, .int .i64 P.entry, .int .i64 P.action, .int .i64 P.restarts, .int .i64 P.inputs, .int .i64 P.outputs, .slice P.ra P.rs.length P.rc, .slice P.pa P.ps.length P.pc]) hHeld ?_
 refine tk 2 (.agg #[.int .i64 (p : Int), .int .i64 (-1)]) hHeld ?_
 simp only [Act.put, s1, s2, s3]
 refine rd 1 fun K hK => ?_
 go_simp
 refine (HM.out W.drew (HO.out.env.kept ((Keeps.refl _ _).drew))).mono ?_
 rintro r w1 ⟨rfl, hKc⟩
 have HO1 : Hid (ObI w (Env x N [(B, P.vs, 41), (A, [.int .i64 (p : Int), .int .i64 (-1)], 34)]) R w1) := HO.out.kept HEk.out (((Keeps.refl _ _).drew).trans hKc fun _ _ h => h)
 clear hKc
 refine hK.out _ _ (HS.out _ HO1.out.env) (fun hHeld => ?_)
 simp only [Act.put, s1, s2, s3]
 refine rd 3 fun K hK => ?_
 go_simp
 refine (unless_any P.begB 412 p (-1) w1).mono ?_
 rintro r w2 ⟨rfl, hKc⟩
 have HO2 : Hid (ObI w (Env x N [(B, P.vs, 41), (A, [.int .i64 (p : Int), .int .i64 (-1)], 34)]) R w2) := HO1.out.kept HEk.out hKc
 clear hKc
 obtain ⟨Gz, hG⟩ : ∃ Gz : Flt, unl P.begB ⟨412, p, -1⟩ = Gz := ⟨_, rfl⟩
 rw [hG]
 have HG : Hid (unl P.begB ⟨412, p, -1⟩ = Gz) := hG
 clear hG
 refine hK.out _ _ (HS.out _ HO2.out.env) (fun hHeld => ?_)
 simp only [Act.put, s1, s2, s3]
 refine rd 4 fun K hK => ?_
 refine wp_store_row 65 _ _ rfl R #[.int .i64 Gz.n, .int .i64 Gz.a, .int .i64 Gz.b] (by rfl) (by rfl) 65 _ HO2.out.ans Tryz.size65 rfl (all53 ..) ?_
 obtain ⟨W5, hW5⟩ : ∃ W5, W5 = w2.setRow R #[.int .i64 Gz.n, .int .i64 Gz.a, .int .i64 Gz.b] := ⟨_, rfl⟩
 have hB5 : Blk W5 R [.int .i64 Gz.n, .int .i64 Gz.a, .int .i64 Gz.b] 65 := by rw [hW5]; exact HO2.out.ans.setRow _
 have k5 : Keeps (fun k => k = R) w2 W5 := by rw [hW5]; exact (Keeps.refl _ _).setRow _ _ fun _ => rfl
 have hlo := HO.out.lo
 have HO5 : Hid (Blk W5 R [.int .i64 Gz.n, .int .i64 Gz.a, .int .i64 Gz.b] 65 ∧ KF w W5) := ⟨hB5, HO2.out.keeps.trans k5 fun k hk e => by omega⟩
 have HE5 : Hid ((Env x N [(B, P.vs, 41), (A, [.int .i64 (p : Int), .int .i64 (-1)], 34)]) W5) := Env.kept' (HE0.out) HO2.out.env hlo k5
 rw [← hW5]
 clear hW5 hB5 k5 hlo
 refine hK.out _ _ (HS.out _ HE5.out) (fun hHeld => ?_)
 simp only [Act.put, s1, s2, s3]
 refine wpAnyH_done (by kernel_rfl) ?_ _
 clear hHeld
 go_wp2
 (try simp only [Exit.inBlock, Exit.then])
 refine bodyPost_ret (results_cell_row rfl _ _ R 65 _ (0, 0) _ rfl HO5.out.1 Tryz.underlying65 rfl (by kernel_rfl)) rfl ?_
 exact ⟨by rw [HG.out], HO5.out.2⟩
set_option maxHeartbeats 4000000 in
theorem q48 (x : Cfg) (N p : Nat) (P : Par) (B A : Nat) : Ask 68 #[.pointer (some ⟨B, 0, none⟩), .pointer (some ⟨A, 0, none⟩)] (Env x N [(B, P.vs, 41), (A, [.int .i64 (p : Int), .int .i64 (-1)], 34)]) (unl (decide ((P.ps.length : Int) ≤ 8)) ⟨413, p, -1⟩) := by
 intro w hE
 have HEk : Hid (∀ w w', (Env x N [(B, P.vs, 41), (A, [.int .i64 (p : Int), .int .i64 (-1)], 34)]) w → KF w w' → (Env x N [(B, P.vs, 41), (A, [.int .i64 (p : Int), .int .i64 (-1)], 34)]) w') := fun _ _ h k => h.kept k
 have HS : Hid (∀ w', (Env x N [(B, P.vs, 41), (A, [.int .i64 (p : Int), .int .i64 (-1)], 34)]) w' → (w'.cell? ⟨B, 0, none⟩ = some (.string P.name) ∧ w'.cell? ⟨B, 1, none⟩ = some (.int .i64 P.entry) ∧ w'.cell? ⟨B, 2, none⟩ = some (.int .i64 P.action) ∧ w'.cell? ⟨B, 3, none⟩ = some (.int .i64 P.restarts) ∧ w'.cell? ⟨B, 4, none⟩ = some (.int .i64 P.inputs) ∧ w'.cell? ⟨B, 5, none⟩ = some (.int .i64 P.outputs) ∧ w'.cell? ⟨B, 6, none⟩ = some (.slice P.ra P.rs.length P.rc) ∧ w'.cell? ⟨B, 7, none⟩ = some (.slice P.pa P.ps.length P.pc) ∧ w'.cell? ⟨A, 0, none⟩ = some (.int .i64 (p : Int)) ∧ w'.cell? ⟨A, 1, none⟩ = some (.int .i64 (-1)))) := fun w' h => ⟨(h.bl _ (.head _)).cell (i := 0) rfl, (h.bl _ (.head _)).cell (i := 1) rfl, (h.bl _ (.head _)).cell (i := 2) rfl, (h.bl _ (.head _)).cell (i := 3) rfl, (h.bl _ (.head _)).cell (i := 4) rfl, (h.bl _ (.head _)).cell (i := 5) rfl, (h.bl _ (.head _)).cell (i := 6) rfl, (h.bl _ (.head _)).cell (i := 7) rfl, (h.bl _ (.tail _ (.head _))).cell (i := 0) rfl, (h.bl _ (.tail _ (.head _))).cell (i := 1) rfl⟩
 obtain ⟨W, hW⟩ : ∃ W, W = w.alloc (.cells #[.int .i64 0, .int .i64 0, .int .i64 0] 65) := ⟨_, rfl⟩
 obtain ⟨R, hR⟩ : ∃ R, R = w.heap.size := ⟨_, rfl⟩
 have HO : Hid (ObI w (Env x N [(B, P.vs, 41), (A, [.int .i64 (p : Int), .int .i64 (-1)], 34)]) R W) := by rw [hW, hR]; exact ⟨hE.kept ((Keeps.refl _ _).alloc _), Blk.new _ _ _, (Keeps.refl _ _).alloc _, Nat.le_refl _⟩
 clear hE
 go_enter Tryz.func68, Tryz.ntmps68
 go_upto_region 1 with fail
 rw [← hW, ← hR]
 clear hW hR
 obtain ⟨c0_0, c0_1, c0_2, c0_3, c0_4, c0_5, c0_6, c0_7, c1_0, c1_1⟩ := HS.out _ HO.out.env
 go_wp2_with fail
 refine (unless_any (decide ((P.ps.length : Int) ≤ 8)) 413 p (-1) W).mono ?_
 rintro e w1 ⟨rfl, hKc⟩
 have HO1 : Hid (ObI w (Env x N [(B, P.vs, 41), (A, [.int .i64 (p : Int), .int .i64 (-1)], 34)]) R w1) := HO.out.kept HEk.out hKc
 clear hKc
 clear c0_0 c0_1 c0_2 c0_3 c0_4 c0_5 c0_6 c0_7 c1_0 c1_1
 obtain ⟨c0_0, c0_1, c0_2, c0_3, c0_4, c0_5, c0_6, c0_7, c1_0, c1_1⟩ := HS.out _ HO1.out.env
 obtain ⟨Gz, hG⟩ : ∃ Gz : Flt, unl (decide ((P.ps.length : Int) ≤ 8)) ⟨413, p, -1⟩ = Gz := ⟨_, rfl⟩
 have HG : Hid (unl (decide ((P.ps.length : Int) ≤ 8)) ⟨413, p, -1⟩ = Gz) := hG
 rw [hG]
 clear hG
 obtain ⟨gn, ga, gb⟩ := Gz
 have m0 := HO1.out.ans.cell (i := 0) rfl
 have m1 := HO1.out.ans.cell (i := 1) rfl
 have m2 := HO1.out.ans.cell (i := 2) rfl
 have n0 := HO1.out.ans.frozen 0
 have n1 := HO1.out.ans.frozen 1
 have n2 := HO1.out.ans.frozen 2
 clear c0_0 c0_1 c0_2 c0_3 c0_4 c0_5 c0_6 c0_7 c1_0 c1_1
 go_wp2
 obtain ⟨hB, hK3⟩ := set3 HO1.out.ans (.int .i64 gn) (.int .i64 ga) (.int .i64 gb)
 obtain ⟨Wb, hWb⟩ : ∃ Wb, Wb = (((w1.setCell ⟨R, 0, none⟩ (.int .i64 gn)).setCell ⟨R, 1, none⟩ (.int .i64 ga)).setCell ⟨R, 2, none⟩ (.int .i64 gb)) := ⟨_, rfl⟩
 rw [← hWb] at hB hK3 ⊢
 (try simp only [Exit.inBlock, Exit.then])
 refine bodyPost_ret (results_cell_row rfl _ _ R 65 _ (0, 0) _ rfl hB Tryz.underlying65 rfl (by kernel_rfl)) rfl ?_
 have hlo := HO.out.lo
 exact ⟨by rw [HG.out], HO1.out.keeps.trans hK3 fun k hk e => by omega⟩
end Go.Proofs.YtlnmlbkeemahcaaGreat
