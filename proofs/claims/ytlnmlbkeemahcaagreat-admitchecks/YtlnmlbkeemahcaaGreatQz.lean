import Derived.Test.YtlnmlbkeemahcaaGreatQy
namespace Go.Proofs.YtlnmlbkeemahcaaGreat
open Go.RowKit
set_option linter.unusedVariables false
set_option linter.unusedSimpArgs false
set_option maxRecDepth 6000
def parF' (x : Cfg) (p : Nat) : List Flt := match x.ps[p]? with | some P => parF x p P | none => []
def chnF' (x : Cfg) (p : Nat) : List Flt := match x.hs[p]? with | some h => chnF x p h | none => []
def corF' (x : Cfg) (p : Nat) : List Flt := match x.cs[p]? with | some X => corF x p X | none => []
def parsF (x : Cfg) : Flt := firstF ((List.range x.ps.length).map fun p => firstF (parF' x p))
def chnsF (x : Cfg) : Flt := firstF ((List.range x.hs.length).map fun p => firstF (chnF' x p))
def corsF (x : Cfg) : Flt := firstF ((List.range x.cs.length).map fun p => firstF (corF' x p))
theorem parF_mem {x : Cfg} {p : Nat} {P : Par} (hP : x.ps[p]? = some P) (h : (firstF (parF' x p)).n = 0) : ∀ f ∈ parF x p P, f.n = 0 := by
 unfold parF' at h
 rw [hP] at h
 exact firstF_eq0.1 h
theorem parF_rgns {x : Cfg} {p : Nat} {P : Par} (hP : x.ps[p]? = some P) (h : (firstF (parF' x p)).n = 0) : ∀ r ∈ P.rs, r.okB x.frames = true :=
 rgnsF_ok (p := p) (parF_mem hP h _ (by simp [parF]))
theorem parF_ports {x : Cfg} {p : Nat} {P : Par} (hP : x.ps[p]? = some P) (h : (firstF (parF' x p)).n = 0) : P.ps.length ≤ 8 := by
 have := (unl_n (by simp)).1 (parF_mem hP h (unl (decide ((P.ps.length : Int) ≤ 8)) ⟨413, p, -1⟩) (by simp [parF]))
 rw [decide_eq_true_eq] at this
 omega
theorem parsF_at {x : Cfg} (h : (parsF x).n = 0) {p : Nat} {P : Par} (hP : x.ps[p]? = some P) : (firstF (parF' x p)).n = 0 :=
 firstF_eq0.1 h _ (List.mem_map.2 ⟨p, List.mem_range.2 (List.getElem?_eq_some_iff.1 hP).1, rfl⟩)
theorem parsF_rgns {x : Cfg} (h : (parsF x).n = 0) : ∀ P ∈ x.ps, ∀ r ∈ P.rs, r.okB x.frames = true := by
 intro P hP
 obtain ⟨p, hp⟩ := List.getElem?_of_mem hP
 exact parF_rgns hp (parsF_at h hp)
theorem parsF_ports {x : Cfg} (h : (parsF x).n = 0) : ∀ P ∈ x.ps, P.ps.length ≤ 8 := by
 intro P hP
 obtain ⟨p, hp⟩ := List.getElem?_of_mem hP
 exact parF_ports hp (parsF_at h hp)
set_option maxHeartbeats 4000000 in
theorem q14 (x : Cfg) (N C A : Nat) : Ask 34 #[.pointer (some ⟨C, 0, none⟩), .pointer (some ⟨A, 0, none⟩)] (Env x N [(C, x.vs, 26), (A, [.int .i64 (-1), .int .i64 (-1)], 34)]) (unl (inR x.frames 1 1024) ⟨400, -1, -1⟩) := by
 intro w hE
 have HEk : Hid (∀ w w', (Env x N [(C, x.vs, 26), (A, [.int .i64 (-1), .int .i64 (-1)], 34)]) w → KF w w' → (Env x N [(C, x.vs, 26), (A, [.int .i64 (-1), .int .i64 (-1)], 34)]) w') := fun _ _ h k => h.kept k
 have HS : Hid (∀ w', (Env x N [(C, x.vs, 26), (A, [.int .i64 (-1), .int .i64 (-1)], 34)]) w' → (w'.cell? ⟨C, 0, none⟩ = some (.int .i64 x.frames) ∧ w'.cell? ⟨C, 1, none⟩ = some (.int .i64 x.major) ∧ w'.cell? ⟨C, 2, none⟩ = some (.int .i64 x.kernel) ∧ w'.cell? ⟨C, 3, none⟩ = some (.int .i64 x.room) ∧ w'.cell? ⟨C, 4, none⟩ = some (.slice x.ca x.cs.length x.cc) ∧ w'.cell? ⟨C, 5, none⟩ = some (.slice x.pa x.ps.length x.pc) ∧ w'.cell? ⟨C, 6, none⟩ = some (.slice x.ha x.hs.length x.hc) ∧ w'.cell? ⟨A, 0, none⟩ = some (.int .i64 (-1)) ∧ w'.cell? ⟨A, 1, none⟩ = some (.int .i64 (-1)))) := fun w' h => ⟨(h.bl _ (.head _)).cell (i := 0) rfl, (h.bl _ (.head _)).cell (i := 1) rfl, (h.bl _ (.head _)).cell (i := 2) rfl, (h.bl _ (.head _)).cell (i := 3) rfl, (h.bl _ (.head _)).cell (i := 4) rfl, (h.bl _ (.head _)).cell (i := 5) rfl, (h.bl _ (.head _)).cell (i := 6) rfl, (h.bl _ (.tail _ (.head _))).cell (i := 0) rfl, (h.bl _ (.tail _ (.head _))).cell (i := 1) rfl⟩
 obtain ⟨W, hW⟩ : ∃ W, W = w.alloc (.cells #[.int .i64 0, .int .i64 0, .int .i64 0] 65) := ⟨_, rfl⟩
 obtain ⟨R, hR⟩ : ∃ R, R = w.heap.size := ⟨_, rfl⟩
 have HO : Hid (ObI w (Env x N [(C, x.vs, 26), (A, [.int .i64 (-1), .int .i64 (-1)], 34)]) R W) := by rw [hW, hR]; exact ⟨hE.kept ((Keeps.refl _ _).alloc _), Blk.new _ _ _, (Keeps.refl _ _).alloc _, Nat.le_refl _⟩
 have HE0 : Hid ((Env x N [(C, x.vs, 26), (A, [.int .i64 (-1), .int .i64 (-1)], 34)]) w) := hE
 clear hE
 go_enter Tryz.func34, Tryz.ntmps34
 go_upto_region 1 with fail
 rw [← hW, ← hR]
 clear hW hR
 refine wp_region_held_drew (S := (fun w' => w'.cell? ⟨C, 0, none⟩ = some (.int .i64 x.frames) ∧ w'.cell? ⟨C, 1, none⟩ = some (.int .i64 x.major) ∧ w'.cell? ⟨C, 2, none⟩ = some (.int .i64 x.kernel) ∧ w'.cell? ⟨C, 3, none⟩ = some (.int .i64 x.room) ∧ w'.cell? ⟨C, 4, none⟩ = some (.slice x.ca x.cs.length x.cc) ∧ w'.cell? ⟨C, 5, none⟩ = some (.slice x.pa x.ps.length x.pc) ∧ w'.cell? ⟨C, 6, none⟩ = some (.slice x.ha x.hs.length x.hc) ∧ w'.cell? ⟨A, 0, none⟩ = some (.int .i64 (-1)) ∧ w'.cell? ⟨A, 1, none⟩ = some (.int .i64 (-1)))) Tryz.mixd (HS.out _ (HO.out.env.kept ((Keeps.refl _ _).drew))) (fun hHeld => ?_)
 simp only [t1, t2, List.length_nil, Nat.reduceAdd, t4, Array.replicate_zero, t6, List.append_toArray, List.nil_append, t8]
 refine tk 0 (.pointer (some ⟨C, 0, none⟩)) hHeld ?_
 refine tk 1 (.int .i64 x.frames) hHeld ?_
 refine tk 3 (.agg #[.int .i64 (-1), .int .i64 (-1)]) hHeld ?_
 simp only [Act.put, s1, s2, s3]
 refine rd 2 fun K hK => ?_
 go_simp
 refine ((within_k x.frames 1 1024 W.drew)).mono ?_
 rintro r w1 ⟨rfl, hKc⟩
 have HO1 : Hid (ObI w (Env x N [(C, x.vs, 26), (A, [.int .i64 (-1), .int .i64 (-1)], 34)]) R w1) := HO.out.kept HEk.out (((Keeps.refl _ _).drew).trans hKc fun _ _ h => h)
 clear hKc
 refine hK.out _ _ (HS.out _ HO1.out.env) (fun hHeld => ?_)
 simp only [Act.put, s1, s2, s3]
 refine rd 4 fun K hK => ?_
 go_simp
 refine ((unless_any (inR x.frames 1 1024) 400 (-1) (-1) w1)).mono ?_
 rintro r w2 ⟨rfl, hKc⟩
 have HO2 : Hid (ObI w (Env x N [(C, x.vs, 26), (A, [.int .i64 (-1), .int .i64 (-1)], 34)]) R w2) := HO1.out.kept HEk.out hKc
 clear hKc
 obtain ⟨Gz, hG⟩ : ∃ Gz : Flt, unl (inR x.frames 1 1024) ⟨400, -1, -1⟩ = Gz := ⟨_, rfl⟩
 rw [hG]
 have HG : Hid (unl (inR x.frames 1 1024) ⟨400, -1, -1⟩ = Gz) := hG
 clear hG
 refine hK.out _ _ (HS.out _ HO2.out.env) (fun hHeld => ?_)
 simp only [Act.put, s1, s2, s3]
 refine rd 5 fun K hK => ?_
 refine wp_store_row 65 _ _ rfl R #[.int .i64 Gz.n, .int .i64 Gz.a, .int .i64 Gz.b] (by rfl) (by rfl) 65 _ HO2.out.ans Tryz.size65 rfl (all53 ..) ?_
 obtain ⟨W5, hW5⟩ : ∃ W5, W5 = w2.setRow R #[.int .i64 Gz.n, .int .i64 Gz.a, .int .i64 Gz.b] := ⟨_, rfl⟩
 have hB5 : Blk W5 R [.int .i64 Gz.n, .int .i64 Gz.a, .int .i64 Gz.b] 65 := by rw [hW5]; exact HO2.out.ans.setRow _
 have k5 : Keeps (fun k => k = R) w2 W5 := by rw [hW5]; exact (Keeps.refl _ _).setRow _ _ fun _ => rfl
 have hlo := HO.out.lo
 have HO5 : Hid (Blk W5 R [.int .i64 Gz.n, .int .i64 Gz.a, .int .i64 Gz.b] 65 ∧ KF w W5) := ⟨hB5, HO2.out.keeps.trans k5 fun k hk e => by omega⟩
 have HE5 : Hid ((Env x N [(C, x.vs, 26), (A, [.int .i64 (-1), .int .i64 (-1)], 34)]) W5) := Env.kept' (HE0.out) HO2.out.env hlo k5
 rw [← hW5]
 clear hW5 hB5 k5 hlo
 refine hK.out _ _ (HS.out _ HE5.out) (fun hHeld => ?_)
 simp only [Act.put, s1, s2, s3]
 refine wpAnyH_done (by kernel_rfl) ?_ _
 clear hHeld
 go_wp2
 (try simp only [Exit.inBlock, Exit.then])
 refine bodyPost_ret (results_cell_row rfl _ _ R 65 _ (0, 0) _ rfl HO5.out.1 Tryz.underlying65 rfl (by kernel_rfl)) rfl ?_
 exact ⟨by rw [HG.out], HO5.out.2⟩
set_option maxHeartbeats 4000000 in
theorem q17 (x : Cfg) (N C A : Nat) : Ask 37 #[.pointer (some ⟨C, 0, none⟩), .pointer (some ⟨A, 0, none⟩)] (Env x N [(C, x.vs, 26), (A, [.int .i64 (-1), .int .i64 (-1)], 34)]) (unl (inR x.major 1 16384) ⟨401, -1, -1⟩) := by
 intro w hE
 have HEk : Hid (∀ w w', (Env x N [(C, x.vs, 26), (A, [.int .i64 (-1), .int .i64 (-1)], 34)]) w → KF w w' → (Env x N [(C, x.vs, 26), (A, [.int .i64 (-1), .int .i64 (-1)], 34)]) w') := fun _ _ h k => h.kept k
 have HS : Hid (∀ w', (Env x N [(C, x.vs, 26), (A, [.int .i64 (-1), .int .i64 (-1)], 34)]) w' → (w'.cell? ⟨C, 0, none⟩ = some (.int .i64 x.frames) ∧ w'.cell? ⟨C, 1, none⟩ = some (.int .i64 x.major) ∧ w'.cell? ⟨C, 2, none⟩ = some (.int .i64 x.kernel) ∧ w'.cell? ⟨C, 3, none⟩ = some (.int .i64 x.room) ∧ w'.cell? ⟨C, 4, none⟩ = some (.slice x.ca x.cs.length x.cc) ∧ w'.cell? ⟨C, 5, none⟩ = some (.slice x.pa x.ps.length x.pc) ∧ w'.cell? ⟨C, 6, none⟩ = some (.slice x.ha x.hs.length x.hc) ∧ w'.cell? ⟨A, 0, none⟩ = some (.int .i64 (-1)) ∧ w'.cell? ⟨A, 1, none⟩ = some (.int .i64 (-1)))) := fun w' h => ⟨(h.bl _ (.head _)).cell (i := 0) rfl, (h.bl _ (.head _)).cell (i := 1) rfl, (h.bl _ (.head _)).cell (i := 2) rfl, (h.bl _ (.head _)).cell (i := 3) rfl, (h.bl _ (.head _)).cell (i := 4) rfl, (h.bl _ (.head _)).cell (i := 5) rfl, (h.bl _ (.head _)).cell (i := 6) rfl, (h.bl _ (.tail _ (.head _))).cell (i := 0) rfl, (h.bl _ (.tail _ (.head _))).cell (i := 1) rfl⟩
 obtain ⟨W, hW⟩ : ∃ W, W = w.alloc (.cells #[.int .i64 0, .int .i64 0, .int .i64 0] 65) := ⟨_, rfl⟩
 obtain ⟨R, hR⟩ : ∃ R, R = w.heap.size := ⟨_, rfl⟩
 have HO : Hid (ObI w (Env x N [(C, x.vs, 26), (A, [.int .i64 (-1), .int .i64 (-1)], 34)]) R W) := by rw [hW, hR]; exact ⟨hE.kept ((Keeps.refl _ _).alloc _), Blk.new _ _ _, (Keeps.refl _ _).alloc _, Nat.le_refl _⟩
 have HE0 : Hid ((Env x N [(C, x.vs, 26), (A, [.int .i64 (-1), .int .i64 (-1)], 34)]) w) := hE
 clear hE
 go_enter Tryz.func37, Tryz.ntmps37
 go_upto_region 1 with fail
 rw [← hW, ← hR]
 clear hW hR
 refine wp_region_held_drew (S := (fun w' => w'.cell? ⟨C, 0, none⟩ = some (.int .i64 x.frames) ∧ w'.cell? ⟨C, 1, none⟩ = some (.int .i64 x.major) ∧ w'.cell? ⟨C, 2, none⟩ = some (.int .i64 x.kernel) ∧ w'.cell? ⟨C, 3, none⟩ = some (.int .i64 x.room) ∧ w'.cell? ⟨C, 4, none⟩ = some (.slice x.ca x.cs.length x.cc) ∧ w'.cell? ⟨C, 5, none⟩ = some (.slice x.pa x.ps.length x.pc) ∧ w'.cell? ⟨C, 6, none⟩ = some (.slice x.ha x.hs.length x.hc) ∧ w'.cell? ⟨A, 0, none⟩ = some (.int .i64 (-1)) ∧ w'.cell? ⟨A, 1, none⟩ = some (.int .i64 (-1)))) Tryz.mixd (HS.out _ (HO.out.env.kept ((Keeps.refl _ _).drew))) (fun hHeld => ?_)
 simp only [t1, t2, List.length_nil, Nat.reduceAdd, t4, Array.replicate_zero, t6, List.append_toArray, List.nil_append, t8]
 refine tk 0 (.pointer (some ⟨C, 1, none⟩)) hHeld ?_
 refine tk 1 (.int .i64 x.major) hHeld ?_
 refine tk 3 (.agg #[.int .i64 (-1), .int .i64 (-1)]) hHeld ?_
 simp only [Act.put, s1, s2, s3]
 refine rd 2 fun K hK => ?_
 go_simp
 refine ((within_k x.major 1 16384 W.drew)).mono ?_
 rintro r w1 ⟨rfl, hKc⟩
 have HO1 : Hid (ObI w (Env x N [(C, x.vs, 26), (A, [.int .i64 (-1), .int .i64 (-1)], 34)]) R w1) := HO.out.kept HEk.out (((Keeps.refl _ _).drew).trans hKc fun _ _ h => h)
 clear hKc
 refine hK.out _ _ (HS.out _ HO1.out.env) (fun hHeld => ?_)
 simp only [Act.put, s1, s2, s3]
 refine rd 4 fun K hK => ?_
 go_simp
 refine ((unless_any (inR x.major 1 16384) 401 (-1) (-1) w1)).mono ?_
 rintro r w2 ⟨rfl, hKc⟩
 have HO2 : Hid (ObI w (Env x N [(C, x.vs, 26), (A, [.int .i64 (-1), .int .i64 (-1)], 34)]) R w2) := HO1.out.kept HEk.out hKc
 clear hKc
 obtain ⟨Gz, hG⟩ : ∃ Gz : Flt, unl (inR x.major 1 16384) ⟨401, -1, -1⟩ = Gz := ⟨_, rfl⟩
 rw [hG]
 have HG : Hid (unl (inR x.major 1 16384) ⟨401, -1, -1⟩ = Gz) := hG
 clear hG
 refine hK.out _ _ (HS.out _ HO2.out.env) (fun hHeld => ?_)
 simp only [Act.put, s1, s2, s3]
 refine rd 5 fun K hK => ?_
 refine wp_store_row 65 _ _ rfl R #[.int .i64 Gz.n, .int .i64 Gz.a, .int .i64 Gz.b] (by rfl) (by rfl) 65 _ HO2.out.ans Tryz.size65 rfl (all53 ..) ?_
 obtain ⟨W5, hW5⟩ : ∃ W5, W5 = w2.setRow R #[.int .i64 Gz.n, .int .i64 Gz.a, .int .i64 Gz.b] := ⟨_, rfl⟩
 have hB5 : Blk W5 R [.int .i64 Gz.n, .int .i64 Gz.a, .int .i64 Gz.b] 65 := by rw [hW5]; exact HO2.out.ans.setRow _
 have k5 : Keeps (fun k => k = R) w2 W5 := by rw [hW5]; exact (Keeps.refl _ _).setRow _ _ fun _ => rfl
 have hlo := HO.out.lo
 have HO5 : Hid (Blk W5 R [.int .i64 Gz.n, .int .i64 Gz.a, .int .i64 Gz.b] 65 ∧ KF w W5) := ⟨hB5, HO2.out.keeps.trans k5 fun k hk e => by omega⟩
 have HE5 : Hid ((Env x N [(C, x.vs, 26), (A, [.int .i64 (-1), .int .i64 (-1)], 34)]) W5) := Env.kept' (HE0.out) HO2.out.env hlo k5
 rw [← hW5]
 clear hW5 hB5 k5 hlo
 refine hK.out _ _ (HS.out _ HE5.out) (fun hHeld => ?_)
 simp only [Act.put, s1, s2, s3]
 refine wpAnyH_done (by kernel_rfl) ?_ _
 clear hHeld
 go_wp2
 (try simp only [Exit.inBlock, Exit.then])
 refine bodyPost_ret (results_cell_row rfl _ _ R 65 _ (0, 0) _ rfl HO5.out.1 Tryz.underlying65 rfl (by kernel_rfl)) rfl ?_
 exact ⟨by rw [HG.out], HO5.out.2⟩
set_option maxHeartbeats 4000000 in
theorem q18 (x : Cfg) (N C A : Nat) : Ask 38 #[.pointer (some ⟨C, 0, none⟩), .pointer (some ⟨A, 0, none⟩)] (Env x N [(C, x.vs, 26), (A, [.int .i64 (-1), .int .i64 (-1)], 34)]) (unl (inR (x.cs.length : Int) 1 4) ⟨402, -1, -1⟩) := by
 intro w hE
 have HEk : Hid (∀ w w', (Env x N [(C, x.vs, 26), (A, [.int .i64 (-1), .int .i64 (-1)], 34)]) w → KF w w' → (Env x N [(C, x.vs, 26), (A, [.int .i64 (-1), .int .i64 (-1)], 34)]) w') := fun _ _ h k => h.kept k
 have HS : Hid (∀ w', (Env x N [(C, x.vs, 26), (A, [.int .i64 (-1), .int .i64 (-1)], 34)]) w' → (w'.cell? ⟨C, 0, none⟩ = some (.int .i64 x.frames) ∧ w'.cell? ⟨C, 1, none⟩ = some (.int .i64 x.major) ∧ w'.cell? ⟨C, 2, none⟩ = some (.int .i64 x.kernel) ∧ w'.cell? ⟨C, 3, none⟩ = some (.int .i64 x.room) ∧ w'.cell? ⟨C, 4, none⟩ = some (.slice x.ca x.cs.length x.cc) ∧ w'.cell? ⟨C, 5, none⟩ = some (.slice x.pa x.ps.length x.pc) ∧ w'.cell? ⟨C, 6, none⟩ = some (.slice x.ha x.hs.length x.hc) ∧ w'.cell? ⟨A, 0, none⟩ = some (.int .i64 (-1)) ∧ w'.cell? ⟨A, 1, none⟩ = some (.int .i64 (-1)))) := fun w' h => ⟨(h.bl _ (.head _)).cell (i := 0) rfl, (h.bl _ (.head _)).cell (i := 1) rfl, (h.bl _ (.head _)).cell (i := 2) rfl, (h.bl _ (.head _)).cell (i := 3) rfl, (h.bl _ (.head _)).cell (i := 4) rfl, (h.bl _ (.head _)).cell (i := 5) rfl, (h.bl _ (.head _)).cell (i := 6) rfl, (h.bl _ (.tail _ (.head _))).cell (i := 0) rfl, (h.bl _ (.tail _ (.head _))).cell (i := 1) rfl⟩
 obtain ⟨W, hW⟩ : ∃ W, W = w.alloc (.cells #[.int .i64 0, .int .i64 0, .int .i64 0] 65) := ⟨_, rfl⟩
 obtain ⟨R, hR⟩ : ∃ R, R = w.heap.size := ⟨_, rfl⟩
 have HO : Hid (ObI w (Env x N [(C, x.vs, 26), (A, [.int .i64 (-1), .int .i64 (-1)], 34)]) R W) := by rw [hW, hR]; exact ⟨hE.kept ((Keeps.refl _ _).alloc _), Blk.new _ _ _, (Keeps.refl _ _).alloc _, Nat.le_refl _⟩
 have HE0 : Hid ((Env x N [(C, x.vs, 26), (A, [.int .i64 (-1), .int .i64 (-1)], 34)]) w) := hE
 clear hE
 go_enter Tryz.func38, Tryz.ntmps38
 go_upto_region 1 with fail
 rw [← hW, ← hR]
 clear hW hR
 refine wp_region_held_drew (S := (fun w' => w'.cell? ⟨C, 0, none⟩ = some (.int .i64 x.frames) ∧ w'.cell? ⟨C, 1, none⟩ = some (.int .i64 x.major) ∧ w'.cell? ⟨C, 2, none⟩ = some (.int .i64 x.kernel) ∧ w'.cell? ⟨C, 3, none⟩ = some (.int .i64 x.room) ∧ w'.cell? ⟨C, 4, none⟩ = some (.slice x.ca x.cs.length x.cc) ∧ w'.cell? ⟨C, 5, none⟩ = some (.slice x.pa x.ps.length x.pc) ∧ w'.cell? ⟨C, 6, none⟩ = some (.slice x.ha x.hs.length x.hc) ∧ w'.cell? ⟨A, 0, none⟩ = some (.int .i64 (-1)) ∧ w'.cell? ⟨A, 1, none⟩ = some (.int .i64 (-1)))) Tryz.mixd (HS.out _ (HO.out.env.kept ((Keeps.refl _ _).drew))) (fun hHeld => ?_)
 simp only [t1, t2, List.length_nil, Nat.reduceAdd, t4, Array.replicate_zero, t6, List.append_toArray, List.nil_append, t8]
 refine tk 0 (.pointer (some ⟨C, 4, none⟩)) hHeld ?_
 refine tk 1 (.slice x.ca x.cs.length x.cc) hHeld ?_
 refine tk 2 (.int .i64 x.cs.length) hHeld ?_
 refine tk 4 (.agg #[.int .i64 (-1), .int .i64 (-1)]) hHeld ?_
 simp only [Act.put, s1, s2, s3]
 refine rd 3 fun K hK => ?_
 go_simp
 refine ((within_k (x.cs.length : Int) 1 4 W.drew)).mono ?_
 rintro r w1 ⟨rfl, hKc⟩
 have HO1 : Hid (ObI w (Env x N [(C, x.vs, 26), (A, [.int .i64 (-1), .int .i64 (-1)], 34)]) R w1) := HO.out.kept HEk.out (((Keeps.refl _ _).drew).trans hKc fun _ _ h => h)
 clear hKc
 refine hK.out _ _ (HS.out _ HO1.out.env) (fun hHeld => ?_)
 simp only [Act.put, s1, s2, s3]
 refine rd 5 fun K hK => ?_
 go_simp
 refine ((unless_any (inR (x.cs.length : Int) 1 4) 402 (-1) (-1) w1)).mono ?_
 rintro r w2 ⟨rfl, hKc⟩
 have HO2 : Hid (ObI w (Env x N [(C, x.vs, 26), (A, [.int .i64 (-1), .int .i64 (-1)], 34)]) R w2) := HO1.out.kept HEk.out hKc
 clear hKc
 obtain ⟨Gz, hG⟩ : ∃ Gz : Flt, unl (inR (x.cs.length : Int) 1 4) ⟨402, -1, -1⟩ = Gz := ⟨_, rfl⟩
 rw [hG]
 have HG : Hid (unl (inR (x.cs.length : Int) 1 4) ⟨402, -1, -1⟩ = Gz) := hG
 clear hG
 refine hK.out _ _ (HS.out _ HO2.out.env) (fun hHeld => ?_)
 simp only [Act.put, s1, s2, s3]
 refine rd 6 fun K hK => ?_
 refine wp_store_row 65 _ _ rfl R #[.int .i64 Gz.n, .int .i64 Gz.a, .int .i64 Gz.b] (by rfl) (by rfl) 65 _ HO2.out.ans Tryz.size65 rfl (all53 ..) ?_
 obtain ⟨W5, hW5⟩ : ∃ W5, W5 = w2.setRow R #[.int .i64 Gz.n, .int .i64 Gz.a, .int .i64 Gz.b] := ⟨_, rfl⟩
 have hB5 : Blk W5 R [.int .i64 Gz.n, .int .i64 Gz.a, .int .i64 Gz.b] 65 := by rw [hW5]; exact HO2.out.ans.setRow _
 have k5 : Keeps (fun k => k = R) w2 W5 := by rw [hW5]; exact (Keeps.refl _ _).setRow _ _ fun _ => rfl
 have hlo := HO.out.lo
 have HO5 : Hid (Blk W5 R [.int .i64 Gz.n, .int .i64 Gz.a, .int .i64 Gz.b] 65 ∧ KF w W5) := ⟨hB5, HO2.out.keeps.trans k5 fun k hk e => by omega⟩
 have HE5 : Hid ((Env x N [(C, x.vs, 26), (A, [.int .i64 (-1), .int .i64 (-1)], 34)]) W5) := Env.kept' (HE0.out) HO2.out.env hlo k5
 rw [← hW5]
 clear hW5 hB5 k5 hlo
 refine hK.out _ _ (HS.out _ HE5.out) (fun hHeld => ?_)
 simp only [Act.put, s1, s2, s3]
 refine wpAnyH_done (by kernel_rfl) ?_ _
 clear hHeld
 go_wp2
 (try simp only [Exit.inBlock, Exit.then])
 refine bodyPost_ret (results_cell_row rfl _ _ R 65 _ (0, 0) _ rfl HO5.out.1 Tryz.underlying65 rfl (by kernel_rfl)) rfl ?_
 exact ⟨by rw [HG.out], HO5.out.2⟩
set_option maxHeartbeats 4000000 in
theorem q19 (x : Cfg) (N C A : Nat) : Ask 39 #[.pointer (some ⟨C, 0, none⟩), .pointer (some ⟨A, 0, none⟩)] (Env x N [(C, x.vs, 26), (A, [.int .i64 (-1), .int .i64 (-1)], 34)]) (unl (inR (x.ps.length : Int) 1 8) ⟨403, -1, -1⟩) := by
 intro w hE
 have HEk : Hid (∀ w w', (Env x N [(C, x.vs, 26), (A, [.int .i64 (-1), .int .i64 (-1)], 34)]) w → KF w w' → (Env x N [(C, x.vs, 26), (A, [.int .i64 (-1), .int .i64 (-1)], 34)]) w') := fun _ _ h k => h.kept k
 have HS : Hid (∀ w', (Env x N [(C, x.vs, 26), (A, [.int .i64 (-1), .int .i64 (-1)], 34)]) w' → (w'.cell? ⟨C, 0, none⟩ = some (.int .i64 x.frames) ∧ w'.cell? ⟨C, 1, none⟩ = some (.int .i64 x.major) ∧ w'.cell? ⟨C, 2, none⟩ = some (.int .i64 x.kernel) ∧ w'.cell? ⟨C, 3, none⟩ = some (.int .i64 x.room) ∧ w'.cell? ⟨C, 4, none⟩ = some (.slice x.ca x.cs.length x.cc) ∧ w'.cell? ⟨C, 5, none⟩ = some (.slice x.pa x.ps.length x.pc) ∧ w'.cell? ⟨C, 6, none⟩ = some (.slice x.ha x.hs.length x.hc) ∧ w'.cell? ⟨A, 0, none⟩ = some (.int .i64 (-1)) ∧ w'.cell? ⟨A, 1, none⟩ = some (.int .i64 (-1)))) := fun w' h => ⟨(h.bl _ (.head _)).cell (i := 0) rfl, (h.bl _ (.head _)).cell (i := 1) rfl, (h.bl _ (.head _)).cell (i := 2) rfl, (h.bl _ (.head _)).cell (i := 3) rfl, (h.bl _ (.head _)).cell (i := 4) rfl, (h.bl _ (.head _)).cell (i := 5) rfl, (h.bl _ (.head _)).cell (i := 6) rfl, (h.bl _ (.tail _ (.head _))).cell (i := 0) rfl, (h.bl _ (.tail _ (.head _))).cell (i := 1) rfl⟩
 obtain ⟨W, hW⟩ : ∃ W, W = w.alloc (.cells #[.int .i64 0, .int .i64 0, .int .i64 0] 65) := ⟨_, rfl⟩
 obtain ⟨R, hR⟩ : ∃ R, R = w.heap.size := ⟨_, rfl⟩
 have HO : Hid (ObI w (Env x N [(C, x.vs, 26), (A, [.int .i64 (-1), .int .i64 (-1)], 34)]) R W) := by rw [hW, hR]; exact ⟨hE.kept ((Keeps.refl _ _).alloc _), Blk.new _ _ _, (Keeps.refl _ _).alloc _, Nat.le_refl _⟩
 have HE0 : Hid ((Env x N [(C, x.vs, 26), (A, [.int .i64 (-1), .int .i64 (-1)], 34)]) w) := hE
 clear hE
 go_enter Tryz.func39, Tryz.ntmps39
 go_upto_region 1 with fail
 rw [← hW, ← hR]
 clear hW hR
 refine wp_region_held_drew (S := (fun w' => w'.cell? ⟨C, 0, none⟩ = some (.int .i64 x.frames) ∧ w'.cell? ⟨C, 1, none⟩ = some (.int .i64 x.major) ∧ w'.cell? ⟨C, 2, none⟩ = some (.int .i64 x.kernel) ∧ w'.cell? ⟨C, 3, none⟩ = some (.int .i64 x.room) ∧ w'.cell? ⟨C, 4, none⟩ = some (.slice x.ca x.cs.length x.cc) ∧ w'.cell? ⟨C, 5, none⟩ = some (.slice x.pa x.ps.length x.pc) ∧ w'.cell? ⟨C, 6, none⟩ = some (.slice x.ha x.hs.length x.hc) ∧ w'.cell? ⟨A, 0, none⟩ = some (.int .i64 (-1)) ∧ w'.cell? ⟨A, 1, none⟩ = some (.int .i64 (-1)))) Tryz.mixd (HS.out _ (HO.out.env.kept ((Keeps.refl _ _).drew))) (fun hHeld => ?_)
 simp only [t1, t2, List.length_nil, Nat.reduceAdd, t4, Array.replicate_zero, t6, List.append_toArray, List.nil_append, t8]
 refine tk 0 (.pointer (some ⟨C, 5, none⟩)) hHeld ?_
 refine tk 1 (.slice x.pa x.ps.length x.pc) hHeld ?_
 refine tk 2 (.int .i64 x.ps.length) hHeld ?_
 refine tk 4 (.agg #[.int .i64 (-1), .int .i64 (-1)]) hHeld ?_
 simp only [Act.put, s1, s2, s3]
 refine rd 3 fun K hK => ?_
 go_simp
 refine ((within_k (x.ps.length : Int) 1 8 W.drew)).mono ?_
 rintro r w1 ⟨rfl, hKc⟩
 have HO1 : Hid (ObI w (Env x N [(C, x.vs, 26), (A, [.int .i64 (-1), .int .i64 (-1)], 34)]) R w1) := HO.out.kept HEk.out (((Keeps.refl _ _).drew).trans hKc fun _ _ h => h)
 clear hKc
 refine hK.out _ _ (HS.out _ HO1.out.env) (fun hHeld => ?_)
 simp only [Act.put, s1, s2, s3]
 refine rd 5 fun K hK => ?_
 go_simp
 refine ((unless_any (inR (x.ps.length : Int) 1 8) 403 (-1) (-1) w1)).mono ?_
 rintro r w2 ⟨rfl, hKc⟩
 have HO2 : Hid (ObI w (Env x N [(C, x.vs, 26), (A, [.int .i64 (-1), .int .i64 (-1)], 34)]) R w2) := HO1.out.kept HEk.out hKc
 clear hKc
 obtain ⟨Gz, hG⟩ : ∃ Gz : Flt, unl (inR (x.ps.length : Int) 1 8) ⟨403, -1, -1⟩ = Gz := ⟨_, rfl⟩
 rw [hG]
 have HG : Hid (unl (inR (x.ps.length : Int) 1 8) ⟨403, -1, -1⟩ = Gz) := hG
 clear hG
 refine hK.out _ _ (HS.out _ HO2.out.env) (fun hHeld => ?_)
 simp only [Act.put, s1, s2, s3]
 refine rd 6 fun K hK => ?_
 refine wp_store_row 65 _ _ rfl R #[.int .i64 Gz.n, .int .i64 Gz.a, .int .i64 Gz.b] (by rfl) (by rfl) 65 _ HO2.out.ans Tryz.size65 rfl (all53 ..) ?_
 obtain ⟨W5, hW5⟩ : ∃ W5, W5 = w2.setRow R #[.int .i64 Gz.n, .int .i64 Gz.a, .int .i64 Gz.b] := ⟨_, rfl⟩
 have hB5 : Blk W5 R [.int .i64 Gz.n, .int .i64 Gz.a, .int .i64 Gz.b] 65 := by rw [hW5]; exact HO2.out.ans.setRow _
 have k5 : Keeps (fun k => k = R) w2 W5 := by rw [hW5]; exact (Keeps.refl _ _).setRow _ _ fun _ => rfl
 have hlo := HO.out.lo
 have HO5 : Hid (Blk W5 R [.int .i64 Gz.n, .int .i64 Gz.a, .int .i64 Gz.b] 65 ∧ KF w W5) := ⟨hB5, HO2.out.keeps.trans k5 fun k hk e => by omega⟩
 have HE5 : Hid ((Env x N [(C, x.vs, 26), (A, [.int .i64 (-1), .int .i64 (-1)], 34)]) W5) := Env.kept' (HE0.out) HO2.out.env hlo k5
 rw [← hW5]
 clear hW5 hB5 k5 hlo
 refine hK.out _ _ (HS.out _ HE5.out) (fun hHeld => ?_)
 simp only [Act.put, s1, s2, s3]
 refine wpAnyH_done (by kernel_rfl) ?_ _
 clear hHeld
 go_wp2
 (try simp only [Exit.inBlock, Exit.then])
 refine bodyPost_ret (results_cell_row rfl _ _ R 65 _ (0, 0) _ rfl HO5.out.1 Tryz.underlying65 rfl (by kernel_rfl)) rfl ?_
 exact ⟨by rw [HG.out], HO5.out.2⟩
set_option maxHeartbeats 4000000 in
theorem q20 (x : Cfg) (N C A : Nat) : Ask 40 #[.pointer (some ⟨C, 0, none⟩), .pointer (some ⟨A, 0, none⟩)] (Env x N [(C, x.vs, 26), (A, [.int .i64 (-1), .int .i64 (-1)], 34)]) (unl (decide ((x.hs.length : Int) ≤ 16)) ⟨404, -1, -1⟩) := by
 intro w hE
 have HEk : Hid (∀ w w', (Env x N [(C, x.vs, 26), (A, [.int .i64 (-1), .int .i64 (-1)], 34)]) w → KF w w' → (Env x N [(C, x.vs, 26), (A, [.int .i64 (-1), .int .i64 (-1)], 34)]) w') := fun _ _ h k => h.kept k
 have HS : Hid (∀ w', (Env x N [(C, x.vs, 26), (A, [.int .i64 (-1), .int .i64 (-1)], 34)]) w' → (w'.cell? ⟨C, 0, none⟩ = some (.int .i64 x.frames) ∧ w'.cell? ⟨C, 1, none⟩ = some (.int .i64 x.major) ∧ w'.cell? ⟨C, 2, none⟩ = some (.int .i64 x.kernel) ∧ w'.cell? ⟨C, 3, none⟩ = some (.int .i64 x.room) ∧ w'.cell? ⟨C, 4, none⟩ = some (.slice x.ca x.cs.length x.cc) ∧ w'.cell? ⟨C, 5, none⟩ = some (.slice x.pa x.ps.length x.pc) ∧ w'.cell? ⟨C, 6, none⟩ = some (.slice x.ha x.hs.length x.hc) ∧ w'.cell? ⟨A, 0, none⟩ = some (.int .i64 (-1)) ∧ w'.cell? ⟨A, 1, none⟩ = some (.int .i64 (-1)))) := fun w' h => ⟨(h.bl _ (.head _)).cell (i := 0) rfl, (h.bl _ (.head _)).cell (i := 1) rfl, (h.bl _ (.head _)).cell (i := 2) rfl, (h.bl _ (.head _)).cell (i := 3) rfl, (h.bl _ (.head _)).cell (i := 4) rfl, (h.bl _ (.head _)).cell (i := 5) rfl, (h.bl _ (.head _)).cell (i := 6) rfl, (h.bl _ (.tail _ (.head _))).cell (i := 0) rfl, (h.bl _ (.tail _ (.head _))).cell (i := 1) rfl⟩
 obtain ⟨W, hW⟩ : ∃ W, W = w.alloc (.cells #[.int .i64 0, .int .i64 0, .int .i64 0] 65) := ⟨_, rfl⟩
 obtain ⟨R, hR⟩ : ∃ R, R = w.heap.size := ⟨_, rfl⟩
 have HO : Hid (ObI w (Env x N [(C, x.vs, 26), (A, [.int .i64 (-1), .int .i64 (-1)], 34)]) R W) := by rw [hW, hR]; exact ⟨hE.kept ((Keeps.refl _ _).alloc _), Blk.new _ _ _, (Keeps.refl _ _).alloc _, Nat.le_refl _⟩
 clear hE
 go_enter Tryz.func40, Tryz.ntmps40
 go_upto_region 1 with fail
 rw [← hW, ← hR]
 clear hW hR
 obtain ⟨c0_0, c0_1, c0_2, c0_3, c0_4, c0_5, c0_6, c1_0, c1_1⟩ := HS.out _ HO.out.env
 go_wp2_with fail
 refine (unless_any (decide ((x.hs.length : Int) ≤ 16)) 404 (-1) (-1) W).mono ?_
 rintro e w1 ⟨rfl, hKc⟩
 have HO1 : Hid (ObI w (Env x N [(C, x.vs, 26), (A, [.int .i64 (-1), .int .i64 (-1)], 34)]) R w1) := HO.out.kept HEk.out hKc
 clear hKc
 clear c0_0 c0_1 c0_2 c0_3 c0_4 c0_5 c0_6 c1_0 c1_1
 obtain ⟨c0_0, c0_1, c0_2, c0_3, c0_4, c0_5, c0_6, c1_0, c1_1⟩ := HS.out _ HO1.out.env
 obtain ⟨Gz, hG⟩ : ∃ Gz : Flt, unl (decide ((x.hs.length : Int) ≤ 16)) ⟨404, -1, -1⟩ = Gz := ⟨_, rfl⟩
 have HG : Hid (unl (decide ((x.hs.length : Int) ≤ 16)) ⟨404, -1, -1⟩ = Gz) := hG
 rw [hG]
 clear hG
 obtain ⟨gn, ga, gb⟩ := Gz
 have m0 := HO1.out.ans.cell (i := 0) rfl
 have m1 := HO1.out.ans.cell (i := 1) rfl
 have m2 := HO1.out.ans.cell (i := 2) rfl
 have n0 := HO1.out.ans.frozen 0
 have n1 := HO1.out.ans.frozen 1
 have n2 := HO1.out.ans.frozen 2
 clear c0_0 c0_1 c0_2 c0_3 c0_4 c0_5 c0_6 c1_0 c1_1
 go_wp2
 obtain ⟨hB, hK3⟩ := set3 HO1.out.ans (.int .i64 gn) (.int .i64 ga) (.int .i64 gb)
 obtain ⟨Wb, hWb⟩ : ∃ Wb, Wb = (((w1.setCell ⟨R, 0, none⟩ (.int .i64 gn)).setCell ⟨R, 1, none⟩ (.int .i64 ga)).setCell ⟨R, 2, none⟩ (.int .i64 gb)) := ⟨_, rfl⟩
 rw [← hWb] at hB hK3 ⊢
 (try simp only [Exit.inBlock, Exit.then])
 refine bodyPost_ret (results_cell_row rfl _ _ R 65 _ (0, 0) _ rfl hB Tryz.underlying65 rfl (by kernel_rfl)) rfl ?_
 have hlo := HO.out.lo
 exact ⟨by rw [HG.out], HO1.out.keeps.trans hK3 fun k hk e => by omega⟩
set_option maxHeartbeats 1000000 in
theorem mk23 (x : Cfg) (N p C : Nat) (v : Flt) (hM : Makes 44 #[x.v, .int .i64 (p : Int)] (Env x N []) v) :
  Makes 43 (#[.int .i64 (p : Int)] ++ #[.pointer (some ⟨C, 0, none⟩)]) (Env x N [(C, x.vs, 26)]) v := by
 intro w hE
 have HM : Hid (Calls Tryz.prog 44 #[x.v, .int .i64 (p : Int)] w (MkP v w)) := hM w (hE.sub fun b hb => by cases hb)
 have c0 := (hE.bl _ (.head _)).cell (i := 0) rfl
 have c1 := (hE.bl _ (.head _)).cell (i := 1) rfl
 have c2 := (hE.bl _ (.head _)).cell (i := 2) rfl
 have c3 := (hE.bl _ (.head _)).cell (i := 3) rfl
 have c4 := (hE.bl _ (.head _)).cell (i := 4) rfl
 have c5 := (hE.bl _ (.head _)).cell (i := 5) rfl
 have c6 := (hE.bl _ (.head _)).cell (i := 6) rfl
 dsimp only at c0 c1 c2 c3 c4 c5 c6
 clear hE hM
 simp only [List.append_toArray, List.cons_append, List.nil_append]
 go_enter Tryz.func43, Tryz.ntmps43
 go_wp2_with fail
 refine HM.out.mono ?_
 rintro e w1 ⟨k, g, t, qs, E', rfl, hB, hE', hQ, hv⟩
 have HX : Hid (MkP v w (.returned (.slice (some ⟨g, 0, none⟩) qs.length qs.length)) w1) := ⟨k, g, t, qs, E', rfl, hB, hE', hQ, hv⟩
 obtain ⟨n, hn⟩ : ∃ n, qs.length = n := ⟨_, rfl⟩
 rw [hn] at HX ⊢
 clear k hB hE' hQ hv hn c0 c1 c2 c3 c4 c5 c6 HM
 go_wp2
 go_ret
 exact HX.out
set_option maxHeartbeats 1000000 in
theorem mk26 (x : Cfg) (N p C : Nat) (v : Flt) (hM : Makes 47 #[x.v, .int .i64 (p : Int)] (Env x N []) v) :
  Makes 46 (#[.int .i64 (p : Int)] ++ #[.pointer (some ⟨C, 0, none⟩)]) (Env x N [(C, x.vs, 26)]) v := by
 intro w hE
 have HM : Hid (Calls Tryz.prog 47 #[x.v, .int .i64 (p : Int)] w (MkP v w)) := hM w (hE.sub fun b hb => by cases hb)
 have c0 := (hE.bl _ (.head _)).cell (i := 0) rfl
 have c1 := (hE.bl _ (.head _)).cell (i := 1) rfl
 have c2 := (hE.bl _ (.head _)).cell (i := 2) rfl
 have c3 := (hE.bl _ (.head _)).cell (i := 3) rfl
 have c4 := (hE.bl _ (.head _)).cell (i := 4) rfl
 have c5 := (hE.bl _ (.head _)).cell (i := 5) rfl
 have c6 := (hE.bl _ (.head _)).cell (i := 6) rfl
 dsimp only at c0 c1 c2 c3 c4 c5 c6
 clear hE hM
 simp only [List.append_toArray, List.cons_append, List.nil_append]
 go_enter Tryz.func46, Tryz.ntmps46
 go_wp2_with fail
 refine HM.out.mono ?_
 rintro e w1 ⟨k, g, t, qs, E', rfl, hB, hE', hQ, hv⟩
 have HX : Hid (MkP v w (.returned (.slice (some ⟨g, 0, none⟩) qs.length qs.length)) w1) := ⟨k, g, t, qs, E', rfl, hB, hE', hQ, hv⟩
 obtain ⟨n, hn⟩ : ∃ n, qs.length = n := ⟨_, rfl⟩
 rw [hn] at HX ⊢
 clear k hB hE' hQ hv hn c0 c1 c2 c3 c4 c5 c6 HM
 go_wp2
 go_ret
 exact HX.out
set_option maxHeartbeats 1000000 in
theorem mk29 (x : Cfg) (N p C : Nat) (v : Flt) (hM : Makes 50 #[x.v, .int .i64 (p : Int)] (Env x N []) v) :
  Makes 49 (#[.int .i64 (p : Int)] ++ #[.pointer (some ⟨C, 0, none⟩)]) (Env x N [(C, x.vs, 26)]) v := by
 intro w hE
 have HM : Hid (Calls Tryz.prog 50 #[x.v, .int .i64 (p : Int)] w (MkP v w)) := hM w (hE.sub fun b hb => by cases hb)
 have c0 := (hE.bl _ (.head _)).cell (i := 0) rfl
 have c1 := (hE.bl _ (.head _)).cell (i := 1) rfl
 have c2 := (hE.bl _ (.head _)).cell (i := 2) rfl
 have c3 := (hE.bl _ (.head _)).cell (i := 3) rfl
 have c4 := (hE.bl _ (.head _)).cell (i := 4) rfl
 have c5 := (hE.bl _ (.head _)).cell (i := 5) rfl
 have c6 := (hE.bl _ (.head _)).cell (i := 6) rfl
 dsimp only at c0 c1 c2 c3 c4 c5 c6
 clear hE hM
 simp only [List.append_toArray, List.cons_append, List.nil_append]
 go_enter Tryz.func49, Tryz.ntmps49
 go_wp2_with fail
 refine HM.out.mono ?_
 rintro e w1 ⟨k, g, t, qs, E', rfl, hB, hE', hQ, hv⟩
 have HX : Hid (MkP v w (.returned (.slice (some ⟨g, 0, none⟩) qs.length qs.length)) w1) := ⟨k, g, t, qs, E', rfl, hB, hE', hQ, hv⟩
 obtain ⟨n, hn⟩ : ∃ n, qs.length = n := ⟨_, rfl⟩
 rw [hn] at HX ⊢
 clear k hB hE' hQ hv hn c0 c1 c2 c3 c4 c5 c6 HM
 go_wp2
 go_ret
 exact HX.out
set_option maxHeartbeats 4000000 in
theorem q21 (x : Cfg) (N C : Nat) (h1 : 1 ≤ x.frames) (h2 : x.frames ≤ 1024) (hl : x.ps.length ≤ 16) : Ask 41 #[.pointer (some ⟨C, 0, none⟩)] (Env x N [(C, x.vs, 26)]) (parsF x) := by
 intro w hE
 have HM : Hid (∀ w, Env x N [(C, x.vs, 26)] w → Calls Tryz.prog 42 #[.int .i64 (x.ps.length : Int), .func (.func 43) #[] #[.pointer (some ⟨C, 0, none⟩)]] w fun e w' => e = .returned (parsF x).v ∧ KF w w') := fun w hE => by
  have := oneByOne_any x.ps.length 43 #[.pointer (some ⟨C, 0, none⟩)] (Env x N [(C, x.vs, 26)]) (fun p => firstF (parF' x p)) (by omega) (fun args w => enter_fn Tryz.func43 rfl rfl args w) (fun _ _ h k => h.kept k) (fun i hi hpr => by
   obtain ⟨P, hP⟩ : ∃ P, x.ps[i]? = some P := ⟨_, List.getElem?_eq_getElem hi⟩
   refine mk23 x N i C _ ?_
   (try dsimp only)
   unfold parF'
   rw [hP]
   refine partitionQuestions_any x N i P hP h1 h2 fun Q hQ => ?_
   obtain ⟨j, hj⟩ := List.getElem?_of_mem hQ
   rw [List.getElem?_take] at hj
   split at hj
   ·
    rename_i hji
    exact parF_rgns hj (hpr j hji)
   ·
    cases hj) w hE
  exact this
 clear hl h1 h2
 have HEk : Hid (∀ w w', (Env x N [(C, x.vs, 26)]) w → KF w w' → (Env x N [(C, x.vs, 26)]) w') := fun _ _ h k => h.kept k
 have HS : Hid (∀ w', (Env x N [(C, x.vs, 26)]) w' → (w'.cell? ⟨C, 0, none⟩ = some (.int .i64 x.frames) ∧ w'.cell? ⟨C, 1, none⟩ = some (.int .i64 x.major) ∧ w'.cell? ⟨C, 2, none⟩ = some (.int .i64 x.kernel) ∧ w'.cell? ⟨C, 3, none⟩ = some (.int .i64 x.room) ∧ w'.cell? ⟨C, 4, none⟩ = some (.slice x.ca x.cs.length x.cc) ∧ w'.cell? ⟨C, 5, none⟩ = some (.slice x.pa x.ps.length x.pc) ∧ w'.cell? ⟨C, 6, none⟩ = some (.slice x.ha x.hs.length x.hc))) := fun w' h => ⟨(h.bl _ (.head _)).cell (i := 0) rfl, (h.bl _ (.head _)).cell (i := 1) rfl, (h.bl _ (.head _)).cell (i := 2) rfl, (h.bl _ (.head _)).cell (i := 3) rfl, (h.bl _ (.head _)).cell (i := 4) rfl, (h.bl _ (.head _)).cell (i := 5) rfl, (h.bl _ (.head _)).cell (i := 6) rfl⟩
 obtain ⟨W, hW⟩ : ∃ W, W = w.alloc (.cells #[.int .i64 0, .int .i64 0, .int .i64 0] 65) := ⟨_, rfl⟩
 obtain ⟨R, hR⟩ : ∃ R, R = w.heap.size := ⟨_, rfl⟩
 have HO : Hid (ObI w (Env x N [(C, x.vs, 26)]) R W) := by rw [hW, hR]; exact ⟨hE.kept ((Keeps.refl _ _).alloc _), Blk.new _ _ _, (Keeps.refl _ _).alloc _, Nat.le_refl _⟩
 clear hE
 go_enter Tryz.func41, Tryz.ntmps41
 go_upto_region 1 with fail
 rw [← hW, ← hR]
 clear hW hR
 obtain ⟨c0_0, c0_1, c0_2, c0_3, c0_4, c0_5, c0_6⟩ := HS.out _ HO.out.env
 go_wp2_with fail
 refine (HM.out W HO.out.env).mono ?_
 rintro e w1 ⟨rfl, hKc⟩
 have HO1 : Hid (ObI w (Env x N [(C, x.vs, 26)]) R w1) := HO.out.kept HEk.out hKc
 clear hKc
 clear c0_0 c0_1 c0_2 c0_3 c0_4 c0_5 c0_6
 obtain ⟨c0_0, c0_1, c0_2, c0_3, c0_4, c0_5, c0_6⟩ := HS.out _ HO1.out.env
 obtain ⟨Gz, hG⟩ : ∃ Gz : Flt, parsF x = Gz := ⟨_, rfl⟩
 have HG : Hid (parsF x = Gz) := hG
 rw [hG]
 clear hG
 obtain ⟨gn, ga, gb⟩ := Gz
 have m0 := HO1.out.ans.cell (i := 0) rfl
 have m1 := HO1.out.ans.cell (i := 1) rfl
 have m2 := HO1.out.ans.cell (i := 2) rfl
 have n0 := HO1.out.ans.frozen 0
 have n1 := HO1.out.ans.frozen 1
 have n2 := HO1.out.ans.frozen 2
 clear c0_0 c0_1 c0_2 c0_3 c0_4 c0_5 c0_6
 go_wp2
 obtain ⟨hB, hK3⟩ := set3 HO1.out.ans (.int .i64 gn) (.int .i64 ga) (.int .i64 gb)
 obtain ⟨Wb, hWb⟩ : ∃ Wb, Wb = (((w1.setCell ⟨R, 0, none⟩ (.int .i64 gn)).setCell ⟨R, 1, none⟩ (.int .i64 ga)).setCell ⟨R, 2, none⟩ (.int .i64 gb)) := ⟨_, rfl⟩
 rw [← hWb] at hB hK3 ⊢
 (try simp only [Exit.inBlock, Exit.then])
 refine bodyPost_ret (results_cell_row rfl _ _ R 65 _ (0, 0) _ rfl hB Tryz.underlying65 rfl (by kernel_rfl)) rfl ?_
 have hlo := HO.out.lo
 exact ⟨by rw [HG.out], HO1.out.keeps.trans hK3 fun k hk e => by omega⟩
set_option maxHeartbeats 4000000 in
theorem q25 (x : Cfg) (N C : Nat) (hp : x.ps.length ≤ 1000) (hpp : ∀ P ∈ x.ps, P.ps.length ≤ 1000) (hl : x.hs.length ≤ 16) : Ask 45 #[.pointer (some ⟨C, 0, none⟩)] (Env x N [(C, x.vs, 26)]) (chnsF x) := by
 intro w hE
 have HM : Hid (∀ w, Env x N [(C, x.vs, 26)] w → Calls Tryz.prog 42 #[.int .i64 (x.hs.length : Int), .func (.func 46) #[] #[.pointer (some ⟨C, 0, none⟩)]] w fun e w' => e = .returned (chnsF x).v ∧ KF w w') := fun w hE => by
  have := oneByOne_any x.hs.length 46 #[.pointer (some ⟨C, 0, none⟩)] (Env x N [(C, x.vs, 26)]) (fun p => firstF (chnF' x p)) (by omega) (fun args w => enter_fn Tryz.func46 rfl rfl args w) (fun _ _ h k => h.kept k) (fun i hi hpr => by
   obtain ⟨P, hP⟩ : ∃ P, x.hs[i]? = some P := ⟨_, List.getElem?_eq_getElem hi⟩
   refine mk26 x N i C _ ?_
   (try dsimp only)
   unfold chnF'
   rw [hP]
   exact channelQuestions_any x N i P hP hp hpp) w hE
  exact this
 clear hl hp hpp
 have HEk : Hid (∀ w w', (Env x N [(C, x.vs, 26)]) w → KF w w' → (Env x N [(C, x.vs, 26)]) w') := fun _ _ h k => h.kept k
 have HS : Hid (∀ w', (Env x N [(C, x.vs, 26)]) w' → (w'.cell? ⟨C, 0, none⟩ = some (.int .i64 x.frames) ∧ w'.cell? ⟨C, 1, none⟩ = some (.int .i64 x.major) ∧ w'.cell? ⟨C, 2, none⟩ = some (.int .i64 x.kernel) ∧ w'.cell? ⟨C, 3, none⟩ = some (.int .i64 x.room) ∧ w'.cell? ⟨C, 4, none⟩ = some (.slice x.ca x.cs.length x.cc) ∧ w'.cell? ⟨C, 5, none⟩ = some (.slice x.pa x.ps.length x.pc) ∧ w'.cell? ⟨C, 6, none⟩ = some (.slice x.ha x.hs.length x.hc))) := fun w' h => ⟨(h.bl _ (.head _)).cell (i := 0) rfl, (h.bl _ (.head _)).cell (i := 1) rfl, (h.bl _ (.head _)).cell (i := 2) rfl, (h.bl _ (.head _)).cell (i := 3) rfl, (h.bl _ (.head _)).cell (i := 4) rfl, (h.bl _ (.head _)).cell (i := 5) rfl, (h.bl _ (.head _)).cell (i := 6) rfl⟩
 obtain ⟨W, hW⟩ : ∃ W, W = w.alloc (.cells #[.int .i64 0, .int .i64 0, .int .i64 0] 65) := ⟨_, rfl⟩
 obtain ⟨R, hR⟩ : ∃ R, R = w.heap.size := ⟨_, rfl⟩
 have HO : Hid (ObI w (Env x N [(C, x.vs, 26)]) R W) := by rw [hW, hR]; exact ⟨hE.kept ((Keeps.refl _ _).alloc _), Blk.new _ _ _, (Keeps.refl _ _).alloc _, Nat.le_refl _⟩
 clear hE
 go_enter Tryz.func45, Tryz.ntmps45
 go_upto_region 1 with fail
 rw [← hW, ← hR]
 clear hW hR
 obtain ⟨c0_0, c0_1, c0_2, c0_3, c0_4, c0_5, c0_6⟩ := HS.out _ HO.out.env
 go_wp2_with fail
 refine (HM.out W HO.out.env).mono ?_
 rintro e w1 ⟨rfl, hKc⟩
 have HO1 : Hid (ObI w (Env x N [(C, x.vs, 26)]) R w1) := HO.out.kept HEk.out hKc
 clear hKc
 clear c0_0 c0_1 c0_2 c0_3 c0_4 c0_5 c0_6
 obtain ⟨c0_0, c0_1, c0_2, c0_3, c0_4, c0_5, c0_6⟩ := HS.out _ HO1.out.env
 obtain ⟨Gz, hG⟩ : ∃ Gz : Flt, chnsF x = Gz := ⟨_, rfl⟩
 have HG : Hid (chnsF x = Gz) := hG
 rw [hG]
 clear hG
 obtain ⟨gn, ga, gb⟩ := Gz
 have m0 := HO1.out.ans.cell (i := 0) rfl
 have m1 := HO1.out.ans.cell (i := 1) rfl
 have m2 := HO1.out.ans.cell (i := 2) rfl
 have n0 := HO1.out.ans.frozen 0
 have n1 := HO1.out.ans.frozen 1
 have n2 := HO1.out.ans.frozen 2
 clear c0_0 c0_1 c0_2 c0_3 c0_4 c0_5 c0_6
 go_wp2
 obtain ⟨hB, hK3⟩ := set3 HO1.out.ans (.int .i64 gn) (.int .i64 ga) (.int .i64 gb)
 obtain ⟨Wb, hWb⟩ : ∃ Wb, Wb = (((w1.setCell ⟨R, 0, none⟩ (.int .i64 gn)).setCell ⟨R, 1, none⟩ (.int .i64 ga)).setCell ⟨R, 2, none⟩ (.int .i64 gb)) := ⟨_, rfl⟩
 rw [← hWb] at hB hK3 ⊢
 (try simp only [Exit.inBlock, Exit.then])
 refine bodyPost_ret (results_cell_row rfl _ _ R 65 _ (0, 0) _ rfl hB Tryz.underlying65 rfl (by kernel_rfl)) rfl ?_
 have hlo := HO.out.lo
 exact ⟨by rw [HG.out], HO1.out.keeps.trans hK3 fun k hk e => by omega⟩
set_option maxHeartbeats 4000000 in
theorem q28 (x : Cfg) (N C : Nat)  (hl : x.cs.length ≤ 16) : Ask 48 #[.pointer (some ⟨C, 0, none⟩)] (Env x N [(C, x.vs, 26)]) (corsF x) := by
 intro w hE
 have HM : Hid (∀ w, Env x N [(C, x.vs, 26)] w → Calls Tryz.prog 42 #[.int .i64 (x.cs.length : Int), .func (.func 49) #[] #[.pointer (some ⟨C, 0, none⟩)]] w fun e w' => e = .returned (corsF x).v ∧ KF w w') := fun w hE => by
  have := oneByOne_any x.cs.length 49 #[.pointer (some ⟨C, 0, none⟩)] (Env x N [(C, x.vs, 26)]) (fun p => firstF (corF' x p)) (by omega) (fun args w => enter_fn Tryz.func49 rfl rfl args w) (fun _ _ h k => h.kept k) (fun i hi hpr => by
   obtain ⟨P, hP⟩ : ∃ P, x.cs[i]? = some P := ⟨_, List.getElem?_eq_getElem hi⟩
   refine mk29 x N i C _ ?_
   (try dsimp only)
   unfold corF'
   rw [hP]
   exact coreQuestions_any x N i P hP) w hE
  exact this
 clear hl 
 have HEk : Hid (∀ w w', (Env x N [(C, x.vs, 26)]) w → KF w w' → (Env x N [(C, x.vs, 26)]) w') := fun _ _ h k => h.kept k
 have HS : Hid (∀ w', (Env x N [(C, x.vs, 26)]) w' → (w'.cell? ⟨C, 0, none⟩ = some (.int .i64 x.frames) ∧ w'.cell? ⟨C, 1, none⟩ = some (.int .i64 x.major) ∧ w'.cell? ⟨C, 2, none⟩ = some (.int .i64 x.kernel) ∧ w'.cell? ⟨C, 3, none⟩ = some (.int .i64 x.room) ∧ w'.cell? ⟨C, 4, none⟩ = some (.slice x.ca x.cs.length x.cc) ∧ w'.cell? ⟨C, 5, none⟩ = some (.slice x.pa x.ps.length x.pc) ∧ w'.cell? ⟨C, 6, none⟩ = some (.slice x.ha x.hs.length x.hc))) := fun w' h => ⟨(h.bl _ (.head _)).cell (i := 0) rfl, (h.bl _ (.head _)).cell (i := 1) rfl, (h.bl _ (.head _)).cell (i := 2) rfl, (h.bl _ (.head _)).cell (i := 3) rfl, (h.bl _ (.head _)).cell (i := 4) rfl, (h.bl _ (.head _)).cell (i := 5) rfl, (h.bl _ (.head _)).cell (i := 6) rfl⟩
 obtain ⟨W, hW⟩ : ∃ W, W = w.alloc (.cells #[.int .i64 0, .int .i64 0, .int .i64 0] 65) := ⟨_, rfl⟩
 obtain ⟨R, hR⟩ : ∃ R, R = w.heap.size := ⟨_, rfl⟩
 have HO : Hid (ObI w (Env x N [(C, x.vs, 26)]) R W) := by rw [hW, hR]; exact ⟨hE.kept ((Keeps.refl _ _).alloc _), Blk.new _ _ _, (Keeps.refl _ _).alloc _, Nat.le_refl _⟩
 clear hE
 go_enter Tryz.func48, Tryz.ntmps48
 go_upto_region 1 with fail
 rw [← hW, ← hR]
 clear hW hR
 obtain ⟨c0_0, c0_1, c0_2, c0_3, c0_4, c0_5, c0_6⟩ := HS.out _ HO.out.env
 go_wp2_with fail
 refine (HM.out W HO.out.env).mono ?_
 rintro e w1 ⟨rfl, hKc⟩
 have HO1 : Hid (ObI w (Env x N [(C, x.vs, 26)]) R w1) := HO.out.kept HEk.out hKc
 clear hKc
 clear c0_0 c0_1 c0_2 c0_3 c0_4 c0_5 c0_6
 obtain ⟨c0_0, c0_1, c0_2, c0_3, c0_4, c0_5, c0_6⟩ := HS.out _ HO1.out.env
 obtain ⟨Gz, hG⟩ : ∃ Gz : Flt, corsF x = Gz := ⟨_, rfl⟩
 have HG : Hid (corsF x = Gz) := hG
 rw [hG]
 clear hG
 obtain ⟨gn, ga, gb⟩ := Gz
 have m0 := HO1.out.ans.cell (i := 0) rfl
 have m1 := HO1.out.ans.cell (i := 1) rfl
 have m2 := HO1.out.ans.cell (i := 2) rfl
 have n0 := HO1.out.ans.frozen 0
 have n1 := HO1.out.ans.frozen 1
 have n2 := HO1.out.ans.frozen 2
 clear c0_0 c0_1 c0_2 c0_3 c0_4 c0_5 c0_6
 go_wp2
 obtain ⟨hB, hK3⟩ := set3 HO1.out.ans (.int .i64 gn) (.int .i64 ga) (.int .i64 gb)
 obtain ⟨Wb, hWb⟩ : ∃ Wb, Wb = (((w1.setCell ⟨R, 0, none⟩ (.int .i64 gn)).setCell ⟨R, 1, none⟩ (.int .i64 ga)).setCell ⟨R, 2, none⟩ (.int .i64 gb)) := ⟨_, rfl⟩
 rw [← hWb] at hB hK3 ⊢
 (try simp only [Exit.inBlock, Exit.then])
 refine bodyPost_ret (results_cell_row rfl _ _ R 65 _ (0, 0) _ rfl hB Tryz.underlying65 rfl (by kernel_rfl)) rfl ?_
 have hlo := HO.out.lo
 exact ⟨by rw [HG.out], HO1.out.keeps.trans hK3 fun k hk e => by omega⟩
set_option maxHeartbeats 4000000 in
theorem q31 (x : Cfg) (N C A : Nat) (h1 : 1 ≤ x.frames) (h2 : x.frames ≤ 1024) (hrs : ∀ P ∈ x.ps, ∀ r ∈ P.rs, r.okB x.frames = true) : Ask 51 #[.pointer (some ⟨C, 0, none⟩), .pointer (some ⟨A, 0, none⟩)] (Env x N [(C, x.vs, 26), (A, [.int .i64 (-1), .int .i64 (-1)], 34)]) (unl x.kerB ⟨423, -1, -1⟩) := by
 intro w hE
 have HM : Hid (∀ w, Env x N [(C, x.vs, 26), (A, [.int .i64 (-1), .int .i64 (-1)], 34)] w → Calls Tryz.prog 52 #[x.v] w fun e w' => e = .returned (.bool x.kerB) ∧ KF w w') := fun w hE => hasKernel_any x w N hE.cin hE.nn h1 h2 hrs
 clear h1 h2 hrs
 have HEk : Hid (∀ w w', (Env x N [(C, x.vs, 26), (A, [.int .i64 (-1), .int .i64 (-1)], 34)]) w → KF w w' → (Env x N [(C, x.vs, 26), (A, [.int .i64 (-1), .int .i64 (-1)], 34)]) w') := fun _ _ h k => h.kept k
 have HS : Hid (∀ w', (Env x N [(C, x.vs, 26), (A, [.int .i64 (-1), .int .i64 (-1)], 34)]) w' → (w'.cell? ⟨C, 0, none⟩ = some (.int .i64 x.frames) ∧ w'.cell? ⟨C, 1, none⟩ = some (.int .i64 x.major) ∧ w'.cell? ⟨C, 2, none⟩ = some (.int .i64 x.kernel) ∧ w'.cell? ⟨C, 3, none⟩ = some (.int .i64 x.room) ∧ w'.cell? ⟨C, 4, none⟩ = some (.slice x.ca x.cs.length x.cc) ∧ w'.cell? ⟨C, 5, none⟩ = some (.slice x.pa x.ps.length x.pc) ∧ w'.cell? ⟨C, 6, none⟩ = some (.slice x.ha x.hs.length x.hc) ∧ w'.cell? ⟨A, 0, none⟩ = some (.int .i64 (-1)) ∧ w'.cell? ⟨A, 1, none⟩ = some (.int .i64 (-1)))) := fun w' h => ⟨(h.bl _ (.head _)).cell (i := 0) rfl, (h.bl _ (.head _)).cell (i := 1) rfl, (h.bl _ (.head _)).cell (i := 2) rfl, (h.bl _ (.head _)).cell (i := 3) rfl, (h.bl _ (.head _)).cell (i := 4) rfl, (h.bl _ (.head _)).cell (i := 5) rfl, (h.bl _ (.head _)).cell (i := 6) rfl, (h.bl _ (.tail _ (.head _))).cell (i := 0) rfl, (h.bl _ (.tail _ (.head _))).cell (i := 1) rfl⟩
 obtain ⟨W, hW⟩ : ∃ W, W = w.alloc (.cells #[.int .i64 0, .int .i64 0, .int .i64 0] 65) := ⟨_, rfl⟩
 obtain ⟨R, hR⟩ : ∃ R, R = w.heap.size := ⟨_, rfl⟩
 have HO : Hid (ObI w (Env x N [(C, x.vs, 26), (A, [.int .i64 (-1), .int .i64 (-1)], 34)]) R W) := by rw [hW, hR]; exact ⟨hE.kept ((Keeps.refl _ _).alloc _), Blk.new _ _ _, (Keeps.refl _ _).alloc _, Nat.le_refl _⟩
 have HE0 : Hid ((Env x N [(C, x.vs, 26), (A, [.int .i64 (-1), .int .i64 (-1)], 34)]) w) := hE
 clear hE
 go_enter Tryz.func51, Tryz.ntmps51
 go_upto_region 1 with fail
 rw [← hW, ← hR]
 clear hW hR
 refine wp_region_held_drew (S := (fun w' => w'.cell? ⟨C, 0, none⟩ = some (.int .i64 x.frames) ∧ w'.cell? ⟨C, 1, none⟩ = some (.int .i64 x.major) ∧ w'.cell? ⟨C, 2, none⟩ = some (.int .i64 x.kernel) ∧ w'.cell? ⟨C, 3, none⟩ = some (.int .i64 x.room) ∧ w'.cell? ⟨C, 4, none⟩ = some (.slice x.ca x.cs.length x.cc) ∧ w'.cell? ⟨C, 5, none⟩ = some (.slice x.pa x.ps.length x.pc) ∧ w'.cell? ⟨C, 6, none⟩ = some (.slice x.ha x.hs.length x.hc) ∧ w'.cell? ⟨A, 0, none⟩ = some (.int .i64 (-1)) ∧ w'.cell? ⟨A, 1, none⟩ = some (.int .i64 (-1)))) Tryz.mixd (HS.out _ (HO.out.env.kept ((Keeps.refl _ _).drew))) (fun hHeld => ?_)
 simp only [t1, t2, List.length_nil, Nat.reduceAdd, t4, Array.replicate_zero, t6, List.append_toArray, List.nil_append, t8]
 refine tk 0 (.agg #[.int .i64 x.frames, .int .i64 x.major, .int .i64 x.kernel, .int .i64 x.room, .slice x.ca x.cs.length x.cc, .slice x.pa x.ps.length x.pc, .slice x.ha x.hs.length x.hc]) hHeld ?_
 refine tk 2 (.agg #[.int .i64 (-1), .int .i64 (-1)]) hHeld ?_
 simp only [Act.put, s1, s2, s3]
 refine rd 1 fun K hK => ?_
 go_simp
 refine (HM.out W.drew (HO.out.env.kept ((Keeps.refl _ _).drew))).mono ?_
 rintro r w1 ⟨rfl, hKc⟩
 have HO1 : Hid (ObI w (Env x N [(C, x.vs, 26), (A, [.int .i64 (-1), .int .i64 (-1)], 34)]) R w1) := HO.out.kept HEk.out (((Keeps.refl _ _).drew).trans hKc fun _ _ h => h)
 clear hKc
 refine hK.out _ _ (HS.out _ HO1.out.env) (fun hHeld => ?_)
 simp only [Act.put, s1, s2, s3]
 refine rd 3 fun K hK => ?_
 go_simp
 refine (unless_any x.kerB 423 (-1) (-1) w1).mono ?_
 rintro r w2 ⟨rfl, hKc⟩
 have HO2 : Hid (ObI w (Env x N [(C, x.vs, 26), (A, [.int .i64 (-1), .int .i64 (-1)], 34)]) R w2) := HO1.out.kept HEk.out hKc
 clear hKc
 obtain ⟨Gz, hG⟩ : ∃ Gz : Flt, unl x.kerB ⟨423, -1, -1⟩ = Gz := ⟨_, rfl⟩
 rw [hG]
 have HG : Hid (unl x.kerB ⟨423, -1, -1⟩ = Gz) := hG
 clear hG
 refine hK.out _ _ (HS.out _ HO2.out.env) (fun hHeld => ?_)
 simp only [Act.put, s1, s2, s3]
 refine rd 4 fun K hK => ?_
 refine wp_store_row 65 _ _ rfl R #[.int .i64 Gz.n, .int .i64 Gz.a, .int .i64 Gz.b] (by rfl) (by rfl) 65 _ HO2.out.ans Tryz.size65 rfl (all53 ..) ?_
 obtain ⟨W5, hW5⟩ : ∃ W5, W5 = w2.setRow R #[.int .i64 Gz.n, .int .i64 Gz.a, .int .i64 Gz.b] := ⟨_, rfl⟩
 have hB5 : Blk W5 R [.int .i64 Gz.n, .int .i64 Gz.a, .int .i64 Gz.b] 65 := by rw [hW5]; exact HO2.out.ans.setRow _
 have k5 : Keeps (fun k => k = R) w2 W5 := by rw [hW5]; exact (Keeps.refl _ _).setRow _ _ fun _ => rfl
 have hlo := HO.out.lo
 have HO5 : Hid (Blk W5 R [.int .i64 Gz.n, .int .i64 Gz.a, .int .i64 Gz.b] 65 ∧ KF w W5) := ⟨hB5, HO2.out.keeps.trans k5 fun k hk e => by omega⟩
 have HE5 : Hid ((Env x N [(C, x.vs, 26), (A, [.int .i64 (-1), .int .i64 (-1)], 34)]) W5) := Env.kept' (HE0.out) HO2.out.env hlo k5
 rw [← hW5]
 clear hW5 hB5 k5 hlo
 refine hK.out _ _ (HS.out _ HE5.out) (fun hHeld => ?_)
 simp only [Act.put, s1, s2, s3]
 refine wpAnyH_done (by kernel_rfl) ?_ _
 clear hHeld
 go_wp2
 (try simp only [Exit.inBlock, Exit.then])
 refine bodyPost_ret (results_cell_row rfl _ _ R 65 _ (0, 0) _ rfl HO5.out.1 Tryz.underlying65 rfl (by kernel_rfl)) rfl ?_
 exact ⟨by rw [HG.out], HO5.out.2⟩
def cfgF (x : Cfg) : List Flt :=
 [unl (inR x.frames 1 1024) ⟨400, -1, -1⟩,
  unl (inR x.major 1 16384) ⟨401, -1, -1⟩,
  unl (inR (x.cs.length : Int) 1 4) ⟨402, -1, -1⟩,
  unl (inR (x.ps.length : Int) 1 8) ⟨403, -1, -1⟩,
  unl (decide ((x.hs.length : Int) ≤ 16)) ⟨404, -1, -1⟩,
  parsF x,
  chnsF x,
  corsF x,
  unl x.kerB ⟨423, -1, -1⟩]
def chk (x : Cfg) : Flt := firstF (cfgF x)
set_option maxHeartbeats 1000000 in
theorem cfgQs (x : Cfg) (N C A : Nat) (L : List (Nat × List Value × TypeId)) (hL : L = [(A, [.int .i64 (-1), .int .i64 (-1)], 34), (C, x.vs, 26)]) :
  Qs [(34, #[.pointer (some ⟨C, 0, none⟩), .pointer (some ⟨A, 0, none⟩)], unl (inR x.frames 1 1024) ⟨400, -1, -1⟩),
    (37, #[.pointer (some ⟨C, 0, none⟩), .pointer (some ⟨A, 0, none⟩)], unl (inR x.major 1 16384) ⟨401, -1, -1⟩),
    (38, #[.pointer (some ⟨C, 0, none⟩), .pointer (some ⟨A, 0, none⟩)], unl (inR (x.cs.length : Int) 1 4) ⟨402, -1, -1⟩),
    (39, #[.pointer (some ⟨C, 0, none⟩), .pointer (some ⟨A, 0, none⟩)], unl (inR (x.ps.length : Int) 1 8) ⟨403, -1, -1⟩),
    (40, #[.pointer (some ⟨C, 0, none⟩), .pointer (some ⟨A, 0, none⟩)], unl (decide ((x.hs.length : Int) ≤ 16)) ⟨404, -1, -1⟩),
    (41, #[.pointer (some ⟨C, 0, none⟩)], parsF x),
    (45, #[.pointer (some ⟨C, 0, none⟩)], chnsF x),
    (48, #[.pointer (some ⟨C, 0, none⟩)], corsF x),
    (51, #[.pointer (some ⟨C, 0, none⟩), .pointer (some ⟨A, 0, none⟩)], unl x.kerB ⟨423, -1, -1⟩)] (Env x N L) := by
 refine ⟨fun _ _ h k => h.kept k, fun q hq args w => ?_, fun j q hj hpr => ?_, by simp⟩
 ·
  simp only [List.mem_cons, List.not_mem_nil, or_false] at hq
  rcases hq with rfl | rfl | rfl | rfl | rfl | rfl | rfl | rfl | rfl
  ·
   exact enter_fn Tryz.func34 rfl rfl args w
  ·
   exact enter_fn Tryz.func37 rfl rfl args w
  ·
   exact enter_fn Tryz.func38 rfl rfl args w
  ·
   exact enter_fn Tryz.func39 rfl rfl args w
  ·
   exact enter_fn Tryz.func40 rfl rfl args w
  ·
   exact enter_fn Tryz.func41 rfl rfl args w
  ·
   exact enter_fn Tryz.func45 rfl rfl args w
  ·
   exact enter_fn Tryz.func48 rfl rfl args w
  ·
   exact enter_fn Tryz.func51 rfl rfl args w
 ·
  have k0 : 0 < j → 1 ≤ x.frames ∧ x.frames ≤ 1024 := fun h => inR_iff.1 ((unl_n (by simp)).1 (qs_prev hpr 0 h rfl))
  have k2 : 2 < j → x.cs.length ≤ 4 := fun h => by have := inR_iff.1 ((unl_n (by simp)).1 (qs_prev hpr 2 h rfl)); omega
  have k3 : 3 < j → x.ps.length ≤ 8 := fun h => by have := inR_iff.1 ((unl_n (by simp)).1 (qs_prev hpr 3 h rfl)); omega
  have k4 : 4 < j → x.hs.length ≤ 16 := fun h => by have := (unl_n (by simp)).1 (qs_prev hpr 4 h rfl); rw [decide_eq_true_eq] at this; omega
  have k5 : 5 < j → (parsF x).n = 0 := fun h => qs_prev hpr 5 h rfl
  match j, hj with
  | 0, hj =>
   cases hj
   exact (q14 x N C A).of fun w h => h.sub fun b hb => by rw [hL]; simp only [List.mem_cons, List.not_mem_nil, or_false] at hb ⊢; rcases hb with h | h <;> simp [h]
  | 1, hj =>
   cases hj
   exact (q17 x N C A).of fun w h => h.sub fun b hb => by rw [hL]; simp only [List.mem_cons, List.not_mem_nil, or_false] at hb ⊢; rcases hb with h | h <;> simp [h]
  | 2, hj =>
   cases hj
   exact (q18 x N C A).of fun w h => h.sub fun b hb => by rw [hL]; simp only [List.mem_cons, List.not_mem_nil, or_false] at hb ⊢; rcases hb with h | h <;> simp [h]
  | 3, hj =>
   cases hj
   exact (q19 x N C A).of fun w h => h.sub fun b hb => by rw [hL]; simp only [List.mem_cons, List.not_mem_nil, or_false] at hb ⊢; rcases hb with h | h <;> simp [h]
  | 4, hj =>
   cases hj
   exact (q20 x N C A).of fun w h => h.sub fun b hb => by rw [hL]; simp only [List.mem_cons, List.not_mem_nil, or_false] at hb ⊢; rcases hb with h | h <;> simp [h]
  | 5, hj =>
   cases hj
   exact (q21 x N C (k0 (by omega)).1 (k0 (by omega)).2 (by have := k3 (by omega); omega)).of fun w h => h.sub fun b hb => by rw [hL]; simp only [List.mem_cons, List.not_mem_nil, or_false] at hb ⊢; simp [hb]
  | 6, hj =>
   cases hj
   exact (q25 x N C (by have := k3 (by omega); omega) (fun P hP => by have := parsF_ports (k5 (by omega)) P hP; omega) (k4 (by omega))).of fun w h => h.sub fun b hb => by rw [hL]; simp only [List.mem_cons, List.not_mem_nil, or_false] at hb ⊢; simp [hb]
  | 7, hj =>
   cases hj
   exact (q28 x N C (by have := k2 (by omega); omega)).of fun w h => h.sub fun b hb => by rw [hL]; simp only [List.mem_cons, List.not_mem_nil, or_false] at hb ⊢; simp [hb]
  | 8, hj =>
   cases hj
   exact (q31 x N C A (k0 (by omega)).1 (k0 (by omega)).2 (parsF_rgns (k5 (by omega)))).of fun w h => h.sub fun b hb => by rw [hL]; simp only [List.mem_cons, List.not_mem_nil, or_false] at hb ⊢; rcases hb with h | h <;> simp [h]
  | j + 9, hj => simp at hj
end Go.Proofs.YtlnmlbkeemahcaaGreat
