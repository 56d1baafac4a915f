import Derived.Test.YtlnmlbkeemahcaaGreatQt
namespace Go.Proofs.YtlnmlbkeemahcaaGreat
open Go.RowKit
set_option linter.unusedVariables false
set_option linter.unusedSimpArgs false
set_option maxRecDepth 6000
set_option maxHeartbeats 4000000 in
theorem q52 (x : Cfg) (N p : Nat) (h : Chn) (B A : Nat) : Ask 72 #[.pointer (some ⟨B, 0, none⟩), .pointer (some ⟨A, 0, none⟩)] (Env x N [(B, [.int .i64 h.kind, .int .i64 h.words, .int .i64 h.depth], 48), (A, [.int .i64 (p : Int), .int .i64 (-1)], 34)]) (unl h.okB ⟨415, p, -1⟩) := by
 intro w hE
 have HEk : Hid (∀ w w', (Env x N [(B, [.int .i64 h.kind, .int .i64 h.words, .int .i64 h.depth], 48), (A, [.int .i64 (p : Int), .int .i64 (-1)], 34)]) w → KF w w' → (Env x N [(B, [.int .i64 h.kind, .int .i64 h.words, .int .i64 h.depth], 48), (A, [.int .i64 (p : Int), .int .i64 (-1)], 34)]) w') := fun _ _ h k => h.kept k
 have HS : Hid (∀ w', (Env x N [(B, [.int .i64 h.kind, .int .i64 h.words, .int .i64 h.depth], 48), (A, [.int .i64 (p : Int), .int .i64 (-1)], 34)]) w' → (w'.cell? ⟨B, 0, none⟩ = some (.int .i64 h.kind) ∧ w'.cell? ⟨B, 1, none⟩ = some (.int .i64 h.words) ∧ w'.cell? ⟨B, 2, none⟩ = some (.int .i64 h.depth) ∧ w'.cell? ⟨A, 0, none⟩ = some (.int .i64 (p : Int)) ∧ w'.cell? ⟨A, 1, none⟩ = some (.int .i64 (-1)))) := fun w' h => ⟨(h.bl _ (.head _)).cell (i := 0) rfl, (h.bl _ (.head _)).cell (i := 1) rfl, (h.bl _ (.head _)).cell (i := 2) rfl, (h.bl _ (.tail _ (.head _))).cell (i := 0) rfl, (h.bl _ (.tail _ (.head _))).cell (i := 1) rfl⟩
 obtain ⟨W, hW⟩ : ∃ W, W = w.alloc (.cells #[.int .i64 0, .int .i64 0, .int .i64 0] 65) := ⟨_, rfl⟩
 obtain ⟨R, hR⟩ : ∃ R, R = w.heap.size := ⟨_, rfl⟩
 have HO : Hid (ObI w (Env x N [(B, [.int .i64 h.kind, .int .i64 h.words, .int .i64 h.depth], 48), (A, [.int .i64 (p : Int), .int .i64 (-1)], 34)]) R W) := by rw [hW, hR]; exact ⟨hE.kept ((Keeps.refl _ _).alloc _), Blk.new _ _ _, (Keeps.refl _ _).alloc _, Nat.le_refl _⟩
 have HE0 : Hid ((Env x N [(B, [.int .i64 h.kind, .int .i64 h.words, .int .i64 h.depth], 48), (A, [.int .i64 (p : Int), .int .i64 (-1)], 34)]) w) := hE
 clear hE
 go_enter Tryz.func72, Tryz.ntmps72
 go_upto_region 1 with fail
 rw [← hW, ← hR]
 clear hW hR
 refine wp_region_held_drew (S := (fun w' => w'.cell? ⟨B, 0, none⟩ = some (.int .i64 h.kind) ∧ w'.cell? ⟨B, 1, none⟩ = some (.int .i64 h.words) ∧ w'.cell? ⟨B, 2, none⟩ = some (.int .i64 h.depth) ∧ w'.cell? ⟨A, 0, none⟩ = some (.int .i64 (p : Int)) ∧ w'.cell? ⟨A, 1, none⟩ = some (.int .i64 (-1)))) Tryz.mixd (HS.out _ (HO.out.env.kept ((Keeps.refl _ _).drew))) (fun hHeld => ?_)
 simp only [t1, t2, List.length_nil, Nat.reduceAdd, t4, Array.replicate_zero, t6, List.append_toArray, List.nil_append, t8]
 refine tk 0 (.agg #[.int .i64 h.kind, .int .i64 h.words, .int .i64 h.depth]) hHeld ?_
 refine tk 2 (.agg #[.int .i64 (p : Int), .int .i64 (-1)]) hHeld ?_
 simp only [Act.put, s1, s2, s3]
 refine rd 1 fun K hK => ?_
 go_simp
 refine (isChannel_any h W.drew).mono ?_
 rintro r w1 ⟨rfl, hKc⟩
 have HO1 : Hid (ObI w (Env x N [(B, [.int .i64 h.kind, .int .i64 h.words, .int .i64 h.depth], 48), (A, [.int .i64 (p : Int), .int .i64 (-1)], 34)]) R w1) := HO.out.kept HEk.out (((Keeps.refl _ _).drew).trans hKc fun _ _ h => h)
 clear hKc
 refine hK.out _ _ (HS.out _ HO1.out.env) (fun hHeld => ?_)
 simp only [Act.put, s1, s2, s3]
 refine rd 3 fun K hK => ?_
 go_simp
 refine (unless_any h.okB 415 p (-1) w1).mono ?_
 rintro r w2 ⟨rfl, hKc⟩
 have HO2 : Hid (ObI w (Env x N [(B, [.int .i64 h.kind, .int .i64 h.words, .int .i64 h.depth], 48), (A, [.int .i64 (p : Int), .int .i64 (-1)], 34)]) R w2) := HO1.out.kept HEk.out hKc
 clear hKc
 obtain ⟨Gz, hG⟩ : ∃ Gz : Flt, unl h.okB ⟨415, p, -1⟩ = Gz := ⟨_, rfl⟩
 rw [hG]
 have HG : Hid (unl h.okB ⟨415, p, -1⟩ = Gz) := hG
 clear hG
 refine hK.out _ _ (HS.out _ HO2.out.env) (fun hHeld => ?_)
 simp only [Act.put, s1, s2, s3]
 refine rd 4 fun K hK => ?_
 refine wp_store_row 65 _ _ rfl R #[.int .i64 Gz.n, .int .i64 Gz.a, .int .i64 Gz.b] (by rfl) (by rfl) 65 _ HO2.out.ans Tryz.size65 rfl (all53 ..) ?_
 obtain ⟨W5, hW5⟩ : ∃ W5, W5 = w2.setRow R #[.int .i64 Gz.n, .int .i64 Gz.a, .int .i64 Gz.b] := ⟨_, rfl⟩
 have hB5 : Blk W5 R [.int .i64 Gz.n, .int .i64 Gz.a, .int .i64 Gz.b] 65 := by rw [hW5]; exact HO2.out.ans.setRow _
 have k5 : Keeps (fun k => k = R) w2 W5 := by rw [hW5]; exact (Keeps.refl _ _).setRow _ _ fun _ => rfl
 have hlo := HO.out.lo
 have HO5 : Hid (Blk W5 R [.int .i64 Gz.n, .int .i64 Gz.a, .int .i64 Gz.b] 65 ∧ KF w W5) := ⟨hB5, HO2.out.keeps.trans k5 fun k hk e => by omega⟩
 have HE5 : Hid ((Env x N [(B, [.int .i64 h.kind, .int .i64 h.words, .int .i64 h.depth], 48), (A, [.int .i64 (p : Int), .int .i64 (-1)], 34)]) W5) := Env.kept' (HE0.out) HO2.out.env hlo k5
 rw [← hW5]
 clear hW5 hB5 k5 hlo
 refine hK.out _ _ (HS.out _ HE5.out) (fun hHeld => ?_)
 simp only [Act.put, s1, s2, s3]
 refine wpAnyH_done (by kernel_rfl) ?_ _
 clear hHeld
 go_wp2
 (try simp only [Exit.inBlock, Exit.then])
 refine bodyPost_ret (results_cell_row rfl _ _ R 65 _ (0, 0) _ rfl HO5.out.1 Tryz.underlying65 rfl (by kernel_rfl)) rfl ?_
 exact ⟨by rw [HG.out], HO5.out.2⟩
set_option maxHeartbeats 4000000 in
theorem q54 (x : Cfg) (N p : Nat) (C I A : Nat) (hp : x.ps.length ≤ 1000) (hpp : ∀ P ∈ x.ps, P.ps.length ≤ 1000) : Ask 74 #[.pointer (some ⟨C, 0, none⟩), .pointer (some ⟨I, 0, none⟩), .pointer (some ⟨A, 0, none⟩)] (Env x N [(C, x.vs, 26), (I, [.int .i64 (p : Int)], 3), (A, [.int .i64 (p : Int), .int .i64 (-1)], 34)]) (unl ((cntQ ⟨p, true⟩ x.ps : Int) == 1) ⟨416, p, -1⟩) := by
 intro w hE
 have HM : Hid (∀ w, Env x N [(C, x.vs, 26), (I, [.int .i64 (p : Int)], 3), (A, [.int .i64 (p : Int), .int .i64 (-1)], 34)] w → Calls Tryz.prog 75 #[x.v, .agg #[.int .i64 (p : Int), .bool true]] w fun e w' => e = .returned (.int .i64 (cntQ ⟨p, true⟩ x.ps : Int)) ∧ KF w w') := fun w hE => countPorts_any x ⟨p, true⟩ w N hE.cin hE.nn hp hpp
 clear hp hpp
 have HEk : Hid (∀ w w', (Env x N [(C, x.vs, 26), (I, [.int .i64 (p : Int)], 3), (A, [.int .i64 (p : Int), .int .i64 (-1)], 34)]) w → KF w w' → (Env x N [(C, x.vs, 26), (I, [.int .i64 (p : Int)], 3), (A, [.int .i64 (p : Int), .int .i64 (-1)], 34)]) w') := fun _ _ h k => h.kept k
 have HS : Hid (∀ w', (Env x N [(C, x.vs, 26), (I, [.int .i64 (p : Int)], 3), (A, [.int .i64 (p : Int), .int .i64 (-1)], 34)]) w' → (w'.cell? ⟨C, 0, none⟩ = some (.int .i64 x.frames) ∧ w'.cell? ⟨C, 1, none⟩ = some (.int .i64 x.major) ∧ w'.cell? ⟨C, 2, none⟩ = some (.int .i64 x.kernel) ∧ w'.cell? ⟨C, 3, none⟩ = some (.int .i64 x.room) ∧ w'.cell? ⟨C, 4, none⟩ = some (.slice x.ca x.cs.length x.cc) ∧ w'.cell? ⟨C, 5, none⟩ = some (.slice x.pa x.ps.length x.pc) ∧ w'.cell? ⟨C, 6, none⟩ = some (.slice x.ha x.hs.length x.hc) ∧ w'.cell? ⟨I, 0, none⟩ = some (.int .i64 (p : Int)) ∧ w'.cell? ⟨A, 0, none⟩ = some (.int .i64 (p : Int)) ∧ w'.cell? ⟨A, 1, none⟩ = some (.int .i64 (-1)))) := fun w' h => ⟨(h.bl _ (.head _)).cell (i := 0) rfl, (h.bl _ (.head _)).cell (i := 1) rfl, (h.bl _ (.head _)).cell (i := 2) rfl, (h.bl _ (.head _)).cell (i := 3) rfl, (h.bl _ (.head _)).cell (i := 4) rfl, (h.bl _ (.head _)).cell (i := 5) rfl, (h.bl _ (.head _)).cell (i := 6) rfl, (h.bl _ (.tail _ (.head _))).cell (i := 0) rfl, (h.bl _ (.tail _ (.tail _ (.head _)))).cell (i := 0) rfl, (h.bl _ (.tail _ (.tail _ (.head _)))).cell (i := 1) rfl⟩
 obtain ⟨W, hW⟩ : ∃ W, W = w.alloc (.cells #[.int .i64 0, .int .i64 0, .int .i64 0] 65) := ⟨_, rfl⟩
 obtain ⟨R, hR⟩ : ∃ R, R = w.heap.size := ⟨_, rfl⟩
 have HO : Hid (ObI w (Env x N [(C, x.vs, 26), (I, [.int .i64 (p : Int)], 3), (A, [.int .i64 (p : Int), .int .i64 (-1)], 34)]) R W) := by rw [hW, hR]; exact ⟨hE.kept ((Keeps.refl _ _).alloc _), Blk.new _ _ _, (Keeps.refl _ _).alloc _, Nat.le_refl _⟩
 have HE0 : Hid ((Env x N [(C, x.vs, 26), (I, [.int .i64 (p : Int)], 3), (A, [.int .i64 (p : Int), .int .i64 (-1)], 34)]) w) := hE
 clear hE
 go_enter Tryz.func74, Tryz.ntmps74
 go_upto_region 1 with fail
 rw [← hW, ← hR]
 clear hW hR
 refine wp_region_held_drew (S := (fun w' => w'.cell? ⟨C, 0, none⟩ = some (.int .i64 x.frames) ∧ w'.cell? ⟨C, 1, none⟩ = some (.int .i64 x.major) ∧ w'.cell? ⟨C, 2, none⟩ = some (.int .i64 x.kernel) ∧ w'.cell? ⟨C, 3, none⟩ = some (.int .i64 x.room) ∧ w'.cell? ⟨C, 4, none⟩ = some (.slice x.ca x.cs.length x.cc) ∧ w'.cell? ⟨C, 5, none⟩ = some (.slice x.pa x.ps.length x.pc) ∧ w'.cell? ⟨C, 6, none⟩ = some (.slice x.ha x.hs.length x.hc) ∧ w'.cell? ⟨I, 0, none⟩ = some (.int .i64 (p : Int)) ∧ w'.cell? ⟨A, 0, none⟩ = some (.int .i64 (p : Int)) ∧ w'.cell? ⟨A, 1, none⟩ = some (.int .i64 (-1)))) Tryz.mixd (HS.out _ (HO.out.env.kept ((Keeps.refl _ _).drew))) (fun hHeld => ?_)
 simp only [t1, t2, List.length_nil, Nat.reduceAdd, t4, Array.replicate_zero, t6, List.append_toArray, List.nil_append, t8]
 refine tk 0 (.agg #[.int .i64 x.frames, .int .i64 x.major, .int .i64 x.kernel, .int .i64 x.room, .slice x.ca x.cs.length x.cc, .slice x.pa x.ps.length x.pc, .slice x.ha x.hs.length x.hc]) hHeld ?_
 refine tk 1 (.int .i64 (p : Int)) hHeld ?_
 refine tk 2 (.agg #[.int .i64 (p : Int), .bool true]) hHeld ?_
 refine tk 5 (.agg #[.int .i64 (p : Int), .int .i64 (-1)]) hHeld ?_
 simp only [Act.put, s1, s2, s3]
 refine rd 3 fun K hK => ?_
 go_simp
 refine (HM.out W.drew (HO.out.env.kept ((Keeps.refl _ _).drew))).mono ?_
 rintro r w1 ⟨rfl, hKc⟩
 have HO1 : Hid (ObI w (Env x N [(C, x.vs, 26), (I, [.int .i64 (p : Int)], 3), (A, [.int .i64 (p : Int), .int .i64 (-1)], 34)]) R w1) := HO.out.kept HEk.out (((Keeps.refl _ _).drew).trans hKc fun _ _ h => h)
 clear hKc
 refine hK.out _ _ (HS.out _ HO1.out.env) (fun hHeld => ?_)
 simp only [Act.put, s1, s2, s3]
 refine tk 4 (.bool ((cntQ ⟨p, true⟩ x.ps : Int) == 1)) hHeld ?_
 simp only [Act.put, s1, s2, s3]
 refine rd 6 fun K hK => ?_
 go_simp
 refine (unless_any ((cntQ ⟨p, true⟩ x.ps : Int) == 1) 416 p (-1) w1).mono ?_
 rintro r w2 ⟨rfl, hKc⟩
 have HO2 : Hid (ObI w (Env x N [(C, x.vs, 26), (I, [.int .i64 (p : Int)], 3), (A, [.int .i64 (p : Int), .int .i64 (-1)], 34)]) R w2) := HO1.out.kept HEk.out hKc
 clear hKc
 obtain ⟨Gz, hG⟩ : ∃ Gz : Flt, unl ((cntQ ⟨p, true⟩ x.ps : Int) == 1) ⟨416, p, -1⟩ = Gz := ⟨_, rfl⟩
 rw [hG]
 have HG : Hid (unl ((cntQ ⟨p, true⟩ x.ps : Int) == 1) ⟨416, p, -1⟩ = Gz) := hG
 clear hG
 refine hK.out _ _ (HS.out _ HO2.out.env) (fun hHeld => ?_)
 simp only [Act.put, s1, s2, s3]
 refine rd 7 fun K hK => ?_
 refine wp_store_row 65 _ _ rfl R #[.int .i64 Gz.n, .int .i64 Gz.a, .int .i64 Gz.b] (by rfl) (by rfl) 65 _ HO2.out.ans Tryz.size65 rfl (all53 ..) ?_
 obtain ⟨W5, hW5⟩ : ∃ W5, W5 = w2.setRow R #[.int .i64 Gz.n, .int .i64 Gz.a, .int .i64 Gz.b] := ⟨_, rfl⟩
 have hB5 : Blk W5 R [.int .i64 Gz.n, .int .i64 Gz.a, .int .i64 Gz.b] 65 := by rw [hW5]; exact HO2.out.ans.setRow _
 have k5 : Keeps (fun k => k = R) w2 W5 := by rw [hW5]; exact (Keeps.refl _ _).setRow _ _ fun _ => rfl
 have hlo := HO.out.lo
 have HO5 : Hid (Blk W5 R [.int .i64 Gz.n, .int .i64 Gz.a, .int .i64 Gz.b] 65 ∧ KF w W5) := ⟨hB5, HO2.out.keeps.trans k5 fun k hk e => by omega⟩
 have HE5 : Hid ((Env x N [(C, x.vs, 26), (I, [.int .i64 (p : Int)], 3), (A, [.int .i64 (p : Int), .int .i64 (-1)], 34)]) W5) := Env.kept' (HE0.out) HO2.out.env hlo k5
 rw [← hW5]
 clear hW5 hB5 k5 hlo
 refine hK.out _ _ (HS.out _ HE5.out) (fun hHeld => ?_)
 simp only [Act.put, s1, s2, s3]
 refine wpAnyH_done (by kernel_rfl) ?_ _
 clear hHeld
 go_wp2
 (try simp only [Exit.inBlock, Exit.then])
 refine bodyPost_ret (results_cell_row rfl _ _ R 65 _ (0, 0) _ rfl HO5.out.1 Tryz.underlying65 rfl (by kernel_rfl)) rfl ?_
 exact ⟨by rw [HG.out], HO5.out.2⟩
set_option maxHeartbeats 4000000 in
theorem q56 (x : Cfg) (N p : Nat) (h : Chn) (C I B A : Nat) (hp : x.ps.length ≤ 1000) (hpp : ∀ P ∈ x.ps, P.ps.length ≤ 1000) : Ask 76 #[.pointer (some ⟨C, 0, none⟩), .pointer (some ⟨I, 0, none⟩), .pointer (some ⟨B, 0, none⟩), .pointer (some ⟨A, 0, none⟩)] (Env x N [(C, x.vs, 26), (I, [.int .i64 (p : Int)], 3), (B, [.int .i64 h.kind, .int .i64 h.words, .int .i64 h.depth], 48), (A, [.int .i64 (p : Int), .int .i64 (-1)], 34)]) (unl (inR (cntQ ⟨p, false⟩ x.ps : Int) 1 h.most) ⟨417, p, -1⟩) := by
 intro w hE
 have HM : Hid (∀ w, Env x N [(C, x.vs, 26), (I, [.int .i64 (p : Int)], 3), (B, [.int .i64 h.kind, .int .i64 h.words, .int .i64 h.depth], 48), (A, [.int .i64 (p : Int), .int .i64 (-1)], 34)] w → Calls Tryz.prog 75 #[x.v, .agg #[.int .i64 (p : Int), .bool false]] w fun e w' => e = .returned (.int .i64 (cntQ ⟨p, false⟩ x.ps : Int)) ∧ KF w w') := fun w hE => countPorts_any x ⟨p, false⟩ w N hE.cin hE.nn hp hpp
 clear hp hpp
 have HEk : Hid (∀ w w', (Env x N [(C, x.vs, 26), (I, [.int .i64 (p : Int)], 3), (B, [.int .i64 h.kind, .int .i64 h.words, .int .i64 h.depth], 48), (A, [.int .i64 (p : Int), .int .i64 (-1)], 34)]) w → KF w w' → (Env x N [(C, x.vs, 26), (I, [.int .i64 (p : Int)], 3), (B, [.int .i64 h.kind, .int .i64 h.words, .int .i64 h.depth], 48), (A, [.int .i64 (p : Int), .int .i64 (-1)], 34)]) w') := fun _ _ h k => h.kept k
 have HS : Hid (∀ w', (Env x N [(C, x.vs, 26), (I, [.int .i64 (p : Int)], 3), (B, [.int .i64 h.kind, .int .i64 h.words, .int .i64 h.depth], 48), (A, [.int .i64 (p : Int), .int .i64 (-1)], 34)]) w' → (w'.cell? ⟨C, 0, none⟩ = some (.int .i64 x.frames) ∧ w'.cell? ⟨C, 1, none⟩ = some (.int .i64 x.major) ∧ w'.cell? ⟨C, 2, none⟩ = some (.int .i64 x.kernel) ∧ w'.cell? ⟨C, 3, none⟩ = some (.int .i64 x.room) ∧ w'.cell? ⟨C, 4, none⟩ = some (.slice x.ca x.cs.length x.cc) ∧ w'.cell? ⟨C, 5, none⟩ = some (.slice x.pa x.ps.length x.pc) ∧ w'.cell? ⟨C, 6, none⟩ = some (.slice x.ha x.hs.length x.hc) ∧ w'.cell? ⟨I, 0, none⟩ = some (.int .i64 (p : Int)) ∧ w'.cell? ⟨B, 0, none⟩ = some (.int .i64 h.kind) ∧ w'.cell? ⟨B, 1, none⟩ = some (.int .i64 h.words) ∧ w'.cell? ⟨B, 2, none⟩ = some (.int .i64 h.depth) ∧ w'.cell? ⟨A, 0, none⟩ = some (.int .i64 (p : Int)) ∧ w'.cell? ⟨A, 1, none⟩ = some (.int .i64 (-1)))) := fun w' h => ⟨(h.bl _ (.head _)).cell (i := 0) rfl, (h.bl _ (.head _)).cell (i := 1) rfl, (h.bl _ (.head _)).cell (i := 2) rfl, (h.bl _ (.head _)).cell (i := 3) rfl, (h.bl _ (.head _)).cell (i := 4) rfl, (h.bl _ (.head _)).cell (i := 5) rfl, (h.bl _ (.head _)).cell (i := 6) rfl, (h.bl _ (.tail _ (.head _))).cell (i := 0) rfl, (h.bl _ (.tail _ (.tail _ (.head _)))).cell (i := 0) rfl, (h.bl _ (.tail _ (.tail _ (.head _)))).cell (i := 1) rfl, (h.bl _ (.tail _ (.tail _ (.head _)))).cell (i := 2) rfl, (h.bl _ (.tail _ (.tail _ (.tail _ (.head _))))).cell (i := 0) rfl, (h.bl _ (.tail _ (.tail _ (.tail _ (.head _))))).cell (i := 1) rfl⟩
 obtain ⟨W, hW⟩ : ∃ W, W = w.alloc (.cells #[.int .i64 0, .int .i64 0, .int .i64 0] 65) := ⟨_, rfl⟩
 obtain ⟨R, hR⟩ : ∃ R, R = w.heap.size := ⟨_, rfl⟩
 have HO : Hid (ObI w (Env x N [(C, x.vs, 26), (I, [.int .i64 (p : Int)], 3), (B, [.int .i64 h.kind, .int .i64 h.words, .int .i64 h.depth], 48), (A, [.int .i64 (p : Int), .int .i64 (-1)], 34)]) R W) := by rw [hW, hR]; exact ⟨hE.kept ((Keeps.refl _ _).alloc _), Blk.new _ _ _, (Keeps.refl _ _).alloc _, Nat.le_refl _⟩
 have HE0 : Hid ((Env x N [(C, x.vs, 26), (I, [.int .i64 (p : Int)], 3), (B, [.int .i64 h.kind, .int .i64 h.words, .int .i64 h.depth], 48), (A, [.int .i64 (p : Int), .int .i64 (-1)], 34)]) w) := hE
 clear hE
 go_enter Tryz.func76, Tryz.ntmps76
 go_upto_region 1 with fail
 rw [← hW, ← hR]
 clear hW hR
 refine wp_region_held_drew (S := (fun w' => w'.cell? ⟨C, 0, none⟩ = some (.int .i64 x.frames) ∧ w'.cell? ⟨C, 1, none⟩ = some (.int .i64 x.major) ∧ w'.cell? ⟨C, 2, none⟩ = some (.int .i64 x.kernel) ∧ w'.cell? ⟨C, 3, none⟩ = some (.int .i64 x.room) ∧ w'.cell? ⟨C, 4, none⟩ = some (.slice x.ca x.cs.length x.cc) ∧ w'.cell? ⟨C, 5, none⟩ = some (.slice x.pa x.ps.length x.pc) ∧ w'.cell? ⟨C, 6, none⟩ = some (.slice x.ha x.hs.length x.hc) ∧ w'.cell? ⟨I, 0, none⟩ = some (.int .i64 (p : Int)) ∧ w'.cell? ⟨B, 0, none⟩ = some (.int .i64 h.kind) ∧ w'.cell? ⟨B, 1, none⟩ = some (.int .i64 h.words) ∧ w'.cell? ⟨B, 2, none⟩ = some (.int .i64 h.depth) ∧ w'.cell? ⟨A, 0, none⟩ = some (.int .i64 (p : Int)) ∧ w'.cell? ⟨A, 1, none⟩ = some (.int .i64 (-1)))) Tryz.mixd (HS.out _ (HO.out.env.kept ((Keeps.refl _ _).drew))) (fun hHeld => ?_)
 simp only [t1, t2, List.length_nil, Nat.reduceAdd, t4, Array.replicate_zero, t6, List.append_toArray, List.nil_append, t8]
 refine tk 0 (.agg #[.int .i64 x.frames, .int .i64 x.major, .int .i64 x.kernel, .int .i64 x.room, .slice x.ca x.cs.length x.cc, .slice x.pa x.ps.length x.pc, .slice x.ha x.hs.length x.hc]) hHeld ?_
 refine tk 1 (.int .i64 (p : Int)) hHeld ?_
 refine tk 2 (.agg #[.int .i64 (p : Int), .bool false]) hHeld ?_
 refine tk 4 (.agg #[.int .i64 h.kind, .int .i64 h.words, .int .i64 h.depth]) hHeld ?_
 refine tk 7 (.agg #[.int .i64 (p : Int), .int .i64 (-1)]) hHeld ?_
 simp only [Act.put, s1, s2, s3]
 refine rd 3 fun K hK => ?_
 go_simp
 refine (HM.out W.drew (HO.out.env.kept ((Keeps.refl _ _).drew))).mono ?_
 rintro r w1 ⟨rfl, hKc⟩
 have HO1 : Hid (ObI w (Env x N [(C, x.vs, 26), (I, [.int .i64 (p : Int)], 3), (B, [.int .i64 h.kind, .int .i64 h.words, .int .i64 h.depth], 48), (A, [.int .i64 (p : Int), .int .i64 (-1)], 34)]) R w1) := HO.out.kept HEk.out (((Keeps.refl _ _).drew).trans hKc fun _ _ h => h)
 clear hKc
 refine hK.out _ _ (HS.out _ HO1.out.env) (fun hHeld => ?_)
 simp only [Act.put, s1, s2, s3]
 refine rd 5 fun K hK => ?_
 go_simp
 refine (mostDests_any h w1).mono ?_
 rintro r w2 ⟨rfl, hKc⟩
 have HO2 : Hid (ObI w (Env x N [(C, x.vs, 26), (I, [.int .i64 (p : Int)], 3), (B, [.int .i64 h.kind, .int .i64 h.words, .int .i64 h.depth], 48), (A, [.int .i64 (p : Int), .int .i64 (-1)], 34)]) R w2) := HO1.out.kept HEk.out hKc
 clear hKc
 refine hK.out _ _ (HS.out _ HO2.out.env) (fun hHeld => ?_)
 simp only [Act.put, s1, s2, s3]
 refine rd 6 fun K hK => ?_
 go_simp
 refine (within_k (cntQ ⟨p, false⟩ x.ps : Int) 1 h.most w2).mono ?_
 rintro r w3 ⟨rfl, hKc⟩
 have HO3 : Hid (ObI w (Env x N [(C, x.vs, 26), (I, [.int .i64 (p : Int)], 3), (B, [.int .i64 h.kind, .int .i64 h.words, .int .i64 h.depth], 48), (A, [.int .i64 (p : Int), .int .i64 (-1)], 34)]) R w3) := HO2.out.kept HEk.out hKc
 clear hKc
 refine hK.out _ _ (HS.out _ HO3.out.env) (fun hHeld => ?_)
 simp only [Act.put, s1, s2, s3]
 refine rd 8 fun K hK => ?_
 go_simp
 refine (unless_any (inR (cntQ ⟨p, false⟩ x.ps : Int) 1 h.most) 417 p (-1) w3).mono ?_
 rintro r w4 ⟨rfl, hKc⟩
 have HO4 : Hid (ObI w (Env x N [(C, x.vs, 26), (I, [.int .i64 (p : Int)], 3), (B, [.int .i64 h.kind, .int .i64 h.words, .int .i64 h.depth], 48), (A, [.int .i64 (p : Int), .int .i64 (-1)], 34)]) R w4) := HO3.out.kept HEk.out hKc
 clear hKc
 obtain ⟨Gz, hG⟩ : ∃ Gz : Flt, unl (inR (cntQ ⟨p, false⟩ x.ps : Int) 1 h.most) ⟨417, p, -1⟩ = Gz := ⟨_, rfl⟩
 rw [hG]
 have HG : Hid (unl (inR (cntQ ⟨p, false⟩ x.ps : Int) 1 h.most) ⟨417, p, -1⟩ = Gz) := hG
 clear hG
 refine hK.out _ _ (HS.out _ HO4.out.env) (fun hHeld => ?_)
 simp only [Act.put, s1, s2, s3]
 refine rd 9 fun K hK => ?_
 refine wp_store_row 65 _ _ rfl R #[.int .i64 Gz.n, .int .i64 Gz.a, .int .i64 Gz.b] (by rfl) (by rfl) 65 _ HO4.out.ans Tryz.size65 rfl (all53 ..) ?_
 obtain ⟨W5, hW5⟩ : ∃ W5, W5 = w4.setRow R #[.int .i64 Gz.n, .int .i64 Gz.a, .int .i64 Gz.b] := ⟨_, rfl⟩
 have hB5 : Blk W5 R [.int .i64 Gz.n, .int .i64 Gz.a, .int .i64 Gz.b] 65 := by rw [hW5]; exact HO4.out.ans.setRow _
 have k5 : Keeps (fun k => k = R) w4 W5 := by rw [hW5]; exact (Keeps.refl _ _).setRow _ _ fun _ => rfl
 have hlo := HO.out.lo
 have HO5 : Hid (Blk W5 R [.int .i64 Gz.n, .int .i64 Gz.a, .int .i64 Gz.b] 65 ∧ KF w W5) := ⟨hB5, HO4.out.keeps.trans k5 fun k hk e => by omega⟩
 have HE5 : Hid ((Env x N [(C, x.vs, 26), (I, [.int .i64 (p : Int)], 3), (B, [.int .i64 h.kind, .int .i64 h.words, .int .i64 h.depth], 48), (A, [.int .i64 (p : Int), .int .i64 (-1)], 34)]) W5) := Env.kept' (HE0.out) HO4.out.env hlo k5
 rw [← hW5]
 clear hW5 hB5 k5 hlo
 refine hK.out _ _ (HS.out _ HE5.out) (fun hHeld => ?_)
 simp only [Act.put, s1, s2, s3]
 refine wpAnyH_done (by kernel_rfl) ?_ _
 clear hHeld
 go_wp2
 (try simp only [Exit.inBlock, Exit.then])
 refine bodyPost_ret (results_cell_row rfl _ _ R 65 _ (0, 0) _ rfl HO5.out.1 Tryz.underlying65 rfl (by kernel_rfl)) rfl ?_
 exact ⟨by rw [HG.out], HO5.out.2⟩
def chnF (x : Cfg) (p : Nat) (h : Chn) : List Flt :=
 [unl h.okB ⟨415, p, -1⟩,
  unl ((cntQ ⟨p, true⟩ x.ps : Int) == 1) ⟨416, p, -1⟩,
  unl (inR (cntQ ⟨p, false⟩ x.ps : Int) 1 h.most) ⟨417, p, -1⟩]
theorem chnQs (x : Cfg) (N p : Nat) (h : Chn) (B C I A : Nat) (hp : x.ps.length ≤ 1000) (hpp : ∀ P ∈ x.ps, P.ps.length ≤ 1000) (L : List (Nat × List Value × TypeId)) (hL : L = [(A, [.int .i64 (p : Int), .int .i64 (-1)], 34), (B, [.int .i64 h.kind, .int .i64 h.words, .int .i64 h.depth], 48), (I, [.int .i64 (p : Int)], 3), (C, x.vs, 26)]) :
  Qs [(72, #[.pointer (some ⟨B, 0, none⟩), .pointer (some ⟨A, 0, none⟩)], unl h.okB ⟨415, p, -1⟩),
    (74, #[.pointer (some ⟨C, 0, none⟩), .pointer (some ⟨I, 0, none⟩), .pointer (some ⟨A, 0, none⟩)], unl ((cntQ ⟨p, true⟩ x.ps : Int) == 1) ⟨416, p, -1⟩),
    (76, #[.pointer (some ⟨C, 0, none⟩), .pointer (some ⟨I, 0, none⟩), .pointer (some ⟨B, 0, none⟩), .pointer (some ⟨A, 0, none⟩)], unl (inR (cntQ ⟨p, false⟩ x.ps : Int) 1 h.most) ⟨417, p, -1⟩)] (Env x N L) := by
 refine ⟨fun _ _ h k => h.kept k, fun q hq args w => ?_, fun j q hj hpr => ?_, by simp⟩
 ·
  simp only [List.mem_cons, List.not_mem_nil, or_false] at hq
  rcases hq with rfl | rfl | rfl
  ·
   exact enter_fn Tryz.func72 rfl rfl args w
  ·
   exact enter_fn Tryz.func74 rfl rfl args w
  ·
   exact enter_fn Tryz.func76 rfl rfl args w
 ·
  match j, hj with
  | 0, hj =>
   cases hj
   exact (q52 x N p h B A).of fun w h => h.sub fun b hb => by rw [hL]; simp only [List.mem_cons, List.not_mem_nil, or_false] at hb ⊢; rcases hb with h | h <;> simp [h]
  | 1, hj =>
   cases hj
   exact (q54 x N p C I A hp hpp).of fun w h => h.sub fun b hb => by rw [hL]; simp only [List.mem_cons, List.not_mem_nil, or_false] at hb ⊢; rcases hb with h | h | h <;> simp [h]
  | 2, hj =>
   cases hj
   exact (q56 x N p h C I B A hp hpp).of fun w h => h.sub fun b hb => by rw [hL]; simp only [List.mem_cons, List.not_mem_nil, or_false] at hb ⊢; rcases hb with h | h | h | h <;> simp [h]
  | j + 3, hj => simp at hj
set_option maxHeartbeats 8000000 in
theorem channelQuestions_any (x : Cfg) (N p : Nat) (h : Chn) (hP : x.hs[p]? = some h) (hp : x.ps.length ≤ 1000) (hpp : ∀ P ∈ x.ps, P.ps.length ≤ 1000) :
  Makes 47 #[x.v, .int .i64 (p : Int)] (Env x N []) (firstF (chnF x p h)) := by
 intro w hE
 have hPlt := (List.getElem?_eq_some_iff.1 hP).1
 obtain ⟨g0, o0, hpa, hc0⟩ := hE.cin.chn hP
 obtain ⟨W, hW⟩ : ∃ W, W = (x.laid w).alloc (.cells #[.int .i64 (p : Int)] 3) := ⟨_, rfl⟩
 obtain ⟨C, hC⟩ : ∃ C, C = w.heap.size := ⟨_, rfl⟩
 obtain ⟨I, hI⟩ : ∃ I, I = w.heap.size + 1 := ⟨_, rfl⟩
 have hE1 : Env x N [(C, x.vs, 26)] (x.laid w) := by rw [hC]; exact hE.box _ _
 have hE2 : Env x N [(I, [.int .i64 (p : Int)], 3), (C, x.vs, 26)] W := by
  have := hE1.box [.int .i64 (p : Int)] 3
  rw [hW, hI]
  simpa [Cfg.laid] using this
 have HO : Hid (Env x N [(I, [.int .i64 (p : Int)], 3), (C, x.vs, 26)] W ∧ KF w W) := ⟨hE2, by rw [hW]; exact ((Keeps.refl _ _).alloc _).alloc _⟩
 obtain ⟨PL, hPL⟩ : ∃ PL, x.hs.length = PL := ⟨_, rfl⟩
 obtain ⟨W1, hW1⟩ : ∃ W1, W1 = W.alloc (.cells #[.int .i64 h.kind, .int .i64 h.words, .int .i64 h.depth] 48) := ⟨_, rfl⟩
 obtain ⟨B, hB⟩ : ∃ B, B = W.heap.size := ⟨_, rfl⟩
 have HO1 : Hid (Env x N ((B, [.int .i64 h.kind, .int .i64 h.words, .int .i64 h.depth], 48) :: [(I, [.int .i64 (p : Int)], 3), (C, x.vs, 26)]) W1 ∧ KF w W1) := by rw [hW1, hB]; exact ⟨HO.out.1.box _ _, HO.out.2.trans ((Keeps.refl (fun _ => False) _).alloc _) fun _ _ h => h⟩
 have j0 := (HO1.out.1.bl _ (.tail _ (.head _))).cell (i := 0) rfl
 obtain ⟨W2, hW2⟩ : ∃ W2, W2 = W1.alloc (.cells #[.int .i64 (p : Int), .int .i64 (-1)] 34) := ⟨_, rfl⟩
 obtain ⟨A, hA⟩ : ∃ A, A = W1.heap.size := ⟨_, rfl⟩
 have HO2 : Hid (Env x N ((A, [.int .i64 (p : Int), .int .i64 (-1)], 34) :: (B, [.int .i64 h.kind, .int .i64 h.words, .int .i64 h.depth], 48) :: [(I, [.int .i64 (p : Int)], 3), (C, x.vs, 26)]) W2 ∧ KF w W2) := by rw [hW2, hA]; exact ⟨HO1.out.1.box _ _, HO1.out.2.trans ((Keeps.refl (fun _ => False) _).alloc _) fun _ _ h => h⟩
 have HF : Hid (MkP (firstF (chnF x p h)) w (.returned (.slice (some ⟨W2.heap.size, 0, none⟩) 3 3)) (W2.alloc (.cells #[.func (.func 72) #[] #[.pointer (some ⟨B, 0, none⟩), .pointer (some ⟨A, 0, none⟩)], .func (.func 74) #[] #[.pointer (some ⟨C, 0, none⟩), .pointer (some ⟨I, 0, none⟩), .pointer (some ⟨A, 0, none⟩)], .func (.func 76) #[] #[.pointer (some ⟨C, 0, none⟩), .pointer (some ⟨I, 0, none⟩), .pointer (some ⟨B, 0, none⟩), .pointer (some ⟨A, 0, none⟩)]] 81))) := by
  exact MkP.of (chnQs x N p h B C I A hp hpp _ rfl) (HO2.out.2.trans ((Keeps.refl (fun _ => False) _).alloc _) fun _ _ h => h) (Blk.new _ _ _) (HO2.out.1.kept ((Keeps.refl _ _).alloc _)) rfl rfl
 have hb1 : (PL : Int) ≤ x.hc ∧ (x.hc : Int) ≤ 9223372036854775807 := by have := hE.cin.hlen; unfold maxLen at this; omega
 rw [hPL] at hPlt
 have c6 : W.cell? ⟨C, 6, none⟩ = some (.slice (some ⟨g0, o0, none⟩) PL x.hc) := by have := (hE2.bl _ (.tail _ (.head _))).cell (i := 6) rfl; rw [hpa, hPL] at this; exact this
 have i0 := (hE2.bl _ (.head _)).cell (i := 0) rfl
 obtain ⟨g2, o2, e2, hc2⟩ := hE2.cin.chn hP
 rw [hpa] at e2
 cases e2
 have p0 := hc2 0 _ rfl
 rw [Nat.add_zero] at p0
 have p1 := hc2 1 _ rfl
 have p2 := hc2 2 _ rfl
 dsimp only at i0
 clear hE hE1 hE2 hc0 hc2 hpa hPL hP hp hpp
 unfold Cfg.laid at hW
 dsimp only at j0
 go_enter Tryz.func47, Tryz.ntmps47
 go_upto_region 1 with fail
 rw [← hW, ← hI, ← hC]
 clear hW hI hC
 go_upto_region 2 with fail
 rw [← hW1, ← hB]
 clear hW1 hB c6 i0 p0 p1 p2
 go_upto_region 3 with fail
 rw [← hW2, ← hA]
 clear hW2 hA j0
 go_wp2
 go_ret
 exact HF.out
end Go.Proofs.YtlnmlbkeemahcaaGreat
