import Derived.Test.YtlnmlbkeemahcaaGreatQr
namespace Go.Proofs.YtlnmlbkeemahcaaGreat
open Go.RowKit
set_option linter.unusedVariables false
set_option linter.unusedSimpArgs false
set_option maxRecDepth 6000
set_option maxHeartbeats 1000000 in
theorem mk44 (x : Cfg) (N p i C I : Nat) (v : Flt) (hM : Makes 65 #[x.v, .int .i64 (p : Int), .int .i64 (i : Int)] (Env x N []) v) :
  Makes 64 (#[.int .i64 (i : Int)] ++ #[.pointer (some ⟨C, 0, none⟩), .pointer (some ⟨I, 0, none⟩)]) (Env x N [(C, x.vs, 26), (I, [.int .i64 (p : Int)], 3)]) v := by
 intro w hE
 have HM : Hid (Calls Tryz.prog 65 #[x.v, .int .i64 (p : Int), .int .i64 (i : Int)] w (MkP v w)) := hM w (hE.sub fun b hb => by cases hb)
 have c0 := (hE.bl _ (.head _)).cell (i := 0) rfl
 have c1 := (hE.bl _ (.head _)).cell (i := 1) rfl
 have c2 := (hE.bl _ (.head _)).cell (i := 2) rfl
 have c3 := (hE.bl _ (.head _)).cell (i := 3) rfl
 have c4 := (hE.bl _ (.head _)).cell (i := 4) rfl
 have c5 := (hE.bl _ (.head _)).cell (i := 5) rfl
 have c6 := (hE.bl _ (.head _)).cell (i := 6) rfl
 have d0 := (hE.bl _ (.tail _ (.head _))).cell (i := 0) rfl
 dsimp only at c0 c1 c2 c3 c4 c5 c6 d0
 clear hE hM
 simp only [List.append_toArray, List.cons_append, List.nil_append]
 go_enter Tryz.func64, Tryz.ntmps64
 go_wp2_with fail
 refine HM.out.mono ?_
 rintro e w1 ⟨k, g, t, qs, E', rfl, hB, hE', hQ, hv⟩
 have HX : Hid (MkP v w (.returned (.slice (some ⟨g, 0, none⟩) qs.length qs.length)) w1) := ⟨k, g, t, qs, E', rfl, hB, hE', hQ, hv⟩
 obtain ⟨n, hn⟩ : ∃ n, qs.length = n := ⟨_, rfl⟩
 rw [hn] at HX ⊢
 clear k hB hE' hQ hv hn c0 c1 c2 c3 c4 c5 c6 d0 HM
 go_wp2
 go_ret
 exact HX.out
set_option maxHeartbeats 1000000 in
theorem mk50 (x : Cfg) (N p i C I : Nat) (v : Flt) (hM : Makes 71 #[x.v, .int .i64 (p : Int), .int .i64 (i : Int)] (Env x N []) v) :
  Makes 70 (#[.int .i64 (i : Int)] ++ #[.pointer (some ⟨C, 0, none⟩), .pointer (some ⟨I, 0, none⟩)]) (Env x N [(C, x.vs, 26), (I, [.int .i64 (p : Int)], 3)]) v := by
 intro w hE
 have HM : Hid (Calls Tryz.prog 71 #[x.v, .int .i64 (p : Int), .int .i64 (i : Int)] w (MkP v w)) := hM w (hE.sub fun b hb => by cases hb)
 have c0 := (hE.bl _ (.head _)).cell (i := 0) rfl
 have c1 := (hE.bl _ (.head _)).cell (i := 1) rfl
 have c2 := (hE.bl _ (.head _)).cell (i := 2) rfl
 have c3 := (hE.bl _ (.head _)).cell (i := 3) rfl
 have c4 := (hE.bl _ (.head _)).cell (i := 4) rfl
 have c5 := (hE.bl _ (.head _)).cell (i := 5) rfl
 have c6 := (hE.bl _ (.head _)).cell (i := 6) rfl
 have d0 := (hE.bl _ (.tail _ (.head _))).cell (i := 0) rfl
 dsimp only at c0 c1 c2 c3 c4 c5 c6 d0
 clear hE hM
 simp only [List.append_toArray, List.cons_append, List.nil_append]
 go_enter Tryz.func70, Tryz.ntmps70
 go_wp2_with fail
 refine HM.out.mono ?_
 rintro e w1 ⟨k, g, t, qs, E', rfl, hB, hE', hQ, hv⟩
 have HX : Hid (MkP v w (.returned (.slice (some ⟨g, 0, none⟩) qs.length qs.length)) w1) := ⟨k, g, t, qs, E', rfl, hB, hE', hQ, hv⟩
 obtain ⟨n, hn⟩ : ∃ n, qs.length = n := ⟨_, rfl⟩
 rw [hn] at HX ⊢
 clear k hB hE' hQ hv hn c0 c1 c2 c3 c4 c5 c6 d0 HM
 go_wp2
 go_ret
 exact HX.out
def rgnF' (x : Cfg) (p : Nat) (P : Par) (i : Nat) : List Flt := match P.rs[i]? with | some r => rgnF x p P i r | none => []
def prtF' (x : Cfg) (p : Nat) (P : Par) (q : Nat) : List Flt := match P.ps[q]? with | some t => prtF x p q t | none => []
theorem rgnF_ok {x : Cfg} {p : Nat} {P : Par} {i : Nat} {r : Rgn} (hr : P.rs[i]? = some r) (h : (firstF (rgnF' x p P i)).n = 0) : r.okB x.frames = true := by
 unfold rgnF' at h
 rw [hr] at h
 exact (unl_n (by simp)).1 (firstF_eq0.1 h _ (List.mem_cons_self ..))
def rgnsF (x : Cfg) (p : Nat) (P : Par) : Flt := firstF ((List.range P.rs.length).map fun i => firstF (rgnF' x p P i))
def prtsF (x : Cfg) (p : Nat) (P : Par) : Flt := firstF ((List.range P.ps.length).map fun q => firstF (prtF' x p P q))
theorem rgnsF_ok {x : Cfg} {p : Nat} {P : Par} (h : (rgnsF x p P).n = 0) : ∀ r ∈ P.rs, r.okB x.frames = true := by
 intro r hr
 obtain ⟨i, hi⟩ := List.getElem?_of_mem hr
 have hlt := (List.getElem?_eq_some_iff.1 hi).1
 exact rgnF_ok hi (firstF_eq0.1 h _ (List.mem_map.2 ⟨i, List.mem_range.2 hlt, rfl⟩))
set_option maxHeartbeats 4000000 in
theorem q43 (x : Cfg) (N p : Nat) (P : Par) (B C I : Nat) (hP : x.ps[p]? = some P) (h1 : 1 ≤ x.frames) (h2 : x.frames ≤ 1024) (hpv : ∀ Q ∈ x.ps.take p, ∀ s ∈ Q.rs, s.okB x.frames = true) (hl : P.rs.length ≤ 8) : Ask 63 #[.pointer (some ⟨B, 0, none⟩), .pointer (some ⟨C, 0, none⟩), .pointer (some ⟨I, 0, none⟩)] (Env x N [(B, P.vs, 41), (C, x.vs, 26), (I, [.int .i64 (p : Int)], 3)]) (rgnsF x p P) := by
 intro w hE
 have HM : Hid (∀ w, Env x N [(B, P.vs, 41), (C, x.vs, 26), (I, [.int .i64 (p : Int)], 3)] w → Calls Tryz.prog 42 #[.int .i64 (P.rs.length : Int), .func (.func 64) #[] #[.pointer (some ⟨C, 0, none⟩), .pointer (some ⟨I, 0, none⟩)]] w fun e w' => e = .returned (rgnsF x p P).v ∧ KF w w') := fun w hE => by
  have := oneByOne_any P.rs.length 64 #[.pointer (some ⟨C, 0, none⟩), .pointer (some ⟨I, 0, none⟩)] (Env x N [(C, x.vs, 26), (I, [.int .i64 (p : Int)], 3)]) (fun i => firstF (rgnF' x p P i)) (by omega) (fun args w => enter_fn Tryz.func64 rfl rfl args w) (fun _ _ h k => h.kept k) (fun i hi hpr => by
   obtain ⟨r, hr⟩ : ∃ r, P.rs[i]? = some r := ⟨_, List.getElem?_eq_getElem hi⟩
   refine mk44 x N p i C I _ ?_
   (try dsimp only)
   unfold rgnF'
   rw [hr]
   refine regionQuestions_any x N p i P r hP hr h1 h2 (fun s hs => ?_) hpv
   obtain ⟨j, hj⟩ := List.getElem?_of_mem hs
   rw [List.getElem?_take] at hj
   split at hj
   ·
    rename_i hji
    exact rgnF_ok hj (hpr j hji)
   ·
    cases hj) w (hE.sub fun b hb => by simp only [List.mem_cons, List.not_mem_nil, or_false] at hb ⊢; rcases hb with h | h <;> simp [h])
  exact this
 clear hP h1 h2 hpv hl
 have HEk : Hid (∀ w w', (Env x N [(B, P.vs, 41), (C, x.vs, 26), (I, [.int .i64 (p : Int)], 3)]) w → KF w w' → (Env x N [(B, P.vs, 41), (C, x.vs, 26), (I, [.int .i64 (p : Int)], 3)]) w') := fun _ _ h k => h.kept k
 have HS : Hid (∀ w', (Env x N [(B, P.vs, 41), (C, x.vs, 26), (I, [.int .i64 (p : Int)], 3)]) w' → (w'.cell? ⟨B, 0, none⟩ = some (.string P.name) ∧ w'.cell? ⟨B, 1, none⟩ = some (.int .i64 P.entry) ∧ w'.cell? ⟨B, 2, none⟩ = some (.int .i64 P.action) ∧ w'.cell? ⟨B, 3, none⟩ = some (.int .i64 P.restarts) ∧ w'.cell? ⟨B, 4, none⟩ = some (.int .i64 P.inputs) ∧ w'.cell? ⟨B, 5, none⟩ = some (.int .i64 P.outputs) ∧ w'.cell? ⟨B, 6, none⟩ = some (.slice P.ra P.rs.length P.rc) ∧ w'.cell? ⟨B, 7, none⟩ = some (.slice P.pa P.ps.length P.pc) ∧ w'.cell? ⟨C, 0, none⟩ = some (.int .i64 x.frames) ∧ w'.cell? ⟨C, 1, none⟩ = some (.int .i64 x.major) ∧ w'.cell? ⟨C, 2, none⟩ = some (.int .i64 x.kernel) ∧ w'.cell? ⟨C, 3, none⟩ = some (.int .i64 x.room) ∧ w'.cell? ⟨C, 4, none⟩ = some (.slice x.ca x.cs.length x.cc) ∧ w'.cell? ⟨C, 5, none⟩ = some (.slice x.pa x.ps.length x.pc) ∧ w'.cell? ⟨C, 6, none⟩ = some (.slice x.ha x.hs.length x.hc) ∧ w'.cell? ⟨I, 0, none⟩ = some (.int .i64 (p : Int)))) := fun w' h => ⟨(h.bl _ (.head _)).cell (i := 0) rfl, (h.bl _ (.head _)).cell (i := 1) rfl, (h.bl _ (.head _)).cell (i := 2) rfl, (h.bl _ (.head _)).cell (i := 3) rfl, (h.bl _ (.head _)).cell (i := 4) rfl, (h.bl _ (.head _)).cell (i := 5) rfl, (h.bl _ (.head _)).cell (i := 6) rfl, (h.bl _ (.head _)).cell (i := 7) rfl, (h.bl _ (.tail _ (.head _))).cell (i := 0) rfl, (h.bl _ (.tail _ (.head _))).cell (i := 1) rfl, (h.bl _ (.tail _ (.head _))).cell (i := 2) rfl, (h.bl _ (.tail _ (.head _))).cell (i := 3) rfl, (h.bl _ (.tail _ (.head _))).cell (i := 4) rfl, (h.bl _ (.tail _ (.head _))).cell (i := 5) rfl, (h.bl _ (.tail _ (.head _))).cell (i := 6) rfl, (h.bl _ (.tail _ (.tail _ (.head _)))).cell (i := 0) rfl⟩
 obtain ⟨W, hW⟩ : ∃ W, W = w.alloc (.cells #[.int .i64 0, .int .i64 0, .int .i64 0] 65) := ⟨_, rfl⟩
 obtain ⟨R, hR⟩ : ∃ R, R = w.heap.size := ⟨_, rfl⟩
 have HO : Hid (ObI w (Env x N [(B, P.vs, 41), (C, x.vs, 26), (I, [.int .i64 (p : Int)], 3)]) R W) := by rw [hW, hR]; exact ⟨hE.kept ((Keeps.refl _ _).alloc _), Blk.new _ _ _, (Keeps.refl _ _).alloc _, Nat.le_refl _⟩
 clear hE
 go_enter Tryz.func63, Tryz.ntmps63
 go_upto_region 1 with fail
 rw [← hW, ← hR]
 clear hW hR
 obtain ⟨c0_0, c0_1, c0_2, c0_3, c0_4, c0_5, c0_6, c0_7, c1_0, c1_1, c1_2, c1_3, c1_4, c1_5, c1_6, c2_0⟩ := HS.out _ HO.out.env
 go_wp2_with fail
 refine (HM.out W HO.out.env).mono ?_
 rintro e w1 ⟨rfl, hKc⟩
 have HO1 : Hid (ObI w (Env x N [(B, P.vs, 41), (C, x.vs, 26), (I, [.int .i64 (p : Int)], 3)]) R w1) := HO.out.kept HEk.out hKc
 clear hKc
 clear c0_0 c0_1 c0_2 c0_3 c0_4 c0_5 c0_6 c0_7 c1_0 c1_1 c1_2 c1_3 c1_4 c1_5 c1_6 c2_0
 obtain ⟨c0_0, c0_1, c0_2, c0_3, c0_4, c0_5, c0_6, c0_7, c1_0, c1_1, c1_2, c1_3, c1_4, c1_5, c1_6, c2_0⟩ := HS.out _ HO1.out.env
 obtain ⟨Gz, hG⟩ : ∃ Gz : Flt, rgnsF x p P = Gz := ⟨_, rfl⟩
 have HG : Hid (rgnsF x p P = Gz) := hG
 rw [hG]
 clear hG
 obtain ⟨gn, ga, gb⟩ := Gz
 have m0 := HO1.out.ans.cell (i := 0) rfl
 have m1 := HO1.out.ans.cell (i := 1) rfl
 have m2 := HO1.out.ans.cell (i := 2) rfl
 have n0 := HO1.out.ans.frozen 0
 have n1 := HO1.out.ans.frozen 1
 have n2 := HO1.out.ans.frozen 2
 clear c0_0 c0_1 c0_2 c0_3 c0_4 c0_5 c0_6 c0_7 c1_0 c1_1 c1_2 c1_3 c1_4 c1_5 c1_6 c2_0
 go_wp2
 obtain ⟨hB, hK3⟩ := set3 HO1.out.ans (.int .i64 gn) (.int .i64 ga) (.int .i64 gb)
 obtain ⟨Wb, hWb⟩ : ∃ Wb, Wb = (((w1.setCell ⟨R, 0, none⟩ (.int .i64 gn)).setCell ⟨R, 1, none⟩ (.int .i64 ga)).setCell ⟨R, 2, none⟩ (.int .i64 gb)) := ⟨_, rfl⟩
 rw [← hWb] at hB hK3 ⊢
 (try simp only [Exit.inBlock, Exit.then])
 refine bodyPost_ret (results_cell_row rfl _ _ R 65 _ (0, 0) _ rfl hB Tryz.underlying65 rfl (by kernel_rfl)) rfl ?_
 have hlo := HO.out.lo
 exact ⟨by rw [HG.out], HO1.out.keeps.trans hK3 fun k hk e => by omega⟩
set_option maxHeartbeats 4000000 in
theorem q49 (x : Cfg) (N p : Nat) (P : Par) (B C I : Nat) (hP : x.ps[p]? = some P) (hl : P.ps.length ≤ 8) : Ask 69 #[.pointer (some ⟨B, 0, none⟩), .pointer (some ⟨C, 0, none⟩), .pointer (some ⟨I, 0, none⟩)] (Env x N [(B, P.vs, 41), (C, x.vs, 26), (I, [.int .i64 (p : Int)], 3)]) (prtsF x p P) := by
 intro w hE
 have HM : Hid (∀ w, Env x N [(B, P.vs, 41), (C, x.vs, 26), (I, [.int .i64 (p : Int)], 3)] w → Calls Tryz.prog 42 #[.int .i64 (P.ps.length : Int), .func (.func 70) #[] #[.pointer (some ⟨C, 0, none⟩), .pointer (some ⟨I, 0, none⟩)]] w fun e w' => e = .returned (prtsF x p P).v ∧ KF w w') := fun w hE => by
  have := oneByOne_any P.ps.length 70 #[.pointer (some ⟨C, 0, none⟩), .pointer (some ⟨I, 0, none⟩)] (Env x N [(C, x.vs, 26), (I, [.int .i64 (p : Int)], 3)]) (fun q => firstF (prtF' x p P q)) (by omega) (fun args w => enter_fn Tryz.func70 rfl rfl args w) (fun _ _ h k => h.kept k) (fun i hi hpr => by
   obtain ⟨t, ht⟩ : ∃ t, P.ps[i]? = some t := ⟨_, List.getElem?_eq_getElem hi⟩
   refine mk50 x N p i C I _ ?_
   (try dsimp only)
   unfold prtF'
   rw [ht]
   exact portQuestions_any x N p i P t hP ht) w (hE.sub fun b hb => by simp only [List.mem_cons, List.not_mem_nil, or_false] at hb ⊢; rcases hb with h | h <;> simp [h])
  exact this
 clear hP hl
 have HEk : Hid (∀ w w', (Env x N [(B, P.vs, 41), (C, x.vs, 26), (I, [.int .i64 (p : Int)], 3)]) w → KF w w' → (Env x N [(B, P.vs, 41), (C, x.vs, 26), (I, [.int .i64 (p : Int)], 3)]) w') := fun _ _ h k => h.kept k
 have HS : Hid (∀ w', (Env x N [(B, P.vs, 41), (C, x.vs, 26), (I, [.int .i64 (p : Int)], 3)]) w' → (w'.cell? ⟨B, 0, none⟩ = some (.string P.name) ∧ w'.cell? ⟨B, 1, none⟩ = some (.int .i64 P.entry) ∧ w'.cell? ⟨B, 2, none⟩ = some (.int .i64 P.action) ∧ w'.cell? ⟨B, 3, none⟩ = some (.int .i64 P.restarts) ∧ w'.cell? ⟨B, 4, none⟩ = some (.int .i64 P.inputs) ∧ w'.cell? ⟨B, 5, none⟩ = some (.int .i64 P.outputs) ∧ w'.cell? ⟨B, 6, none⟩ = some (.slice P.ra P.rs.length P.rc) ∧ w'.cell? ⟨B, 7, none⟩ = some (.slice P.pa P.ps.length P.pc) ∧ w'.cell? ⟨C, 0, none⟩ = some (.int .i64 x.frames) ∧ w'.cell? ⟨C, 1, none⟩ = some (.int .i64 x.major) ∧ w'.cell? ⟨C, 2, none⟩ = some (.int .i64 x.kernel) ∧ w'.cell? ⟨C, 3, none⟩ = some (.int .i64 x.room) ∧ w'.cell? ⟨C, 4, none⟩ = some (.slice x.ca x.cs.length x.cc) ∧ w'.cell? ⟨C, 5, none⟩ = some (.slice x.pa x.ps.length x.pc) ∧ w'.cell? ⟨C, 6, none⟩ = some (.slice x.ha x.hs.length x.hc) ∧ w'.cell? ⟨I, 0, none⟩ = some (.int .i64 (p : Int)))) := fun w' h => ⟨(h.bl _ (.head _)).cell (i := 0) rfl, (h.bl _ (.head _)).cell (i := 1) rfl, (h.bl _ (.head _)).cell (i := 2) rfl, (h.bl _ (.head _)).cell (i := 3) rfl, (h.bl _ (.head _)).cell (i := 4) rfl, (h.bl _ (.head _)).cell (i := 5) rfl, (h.bl _ (.head _)).cell (i := 6) rfl, (h.bl _ (.head _)).cell (i := 7) rfl, (h.bl _ (.tail _ (.head _))).cell (i := 0) rfl, (h.bl _ (.tail _ (.head _))).cell (i := 1) rfl, (h.bl _ (.tail _ (.head _))).cell (i := 2) rfl, (h.bl _ (.tail _ (.head _))).cell (i := 3) rfl, (h.bl _ (.tail _ (.head _))).cell (i := 4) rfl, (h.bl _ (.tail _ (.head _))).cell (i := 5) rfl, (h.bl _ (.tail _ (.head _))).cell (i := 6) rfl, (h.bl _ (.tail _ (.tail _ (.head _)))).cell (i := 0) rfl⟩
 obtain ⟨W, hW⟩ : ∃ W, W = w.alloc (.cells #[.int .i64 0, .int .i64 0, .int .i64 0] 65) := ⟨_, rfl⟩
 obtain ⟨R, hR⟩ : ∃ R, R = w.heap.size := ⟨_, rfl⟩
 have HO : Hid (ObI w (Env x N [(B, P.vs, 41), (C, x.vs, 26), (I, [.int .i64 (p : Int)], 3)]) R W) := by rw [hW, hR]; exact ⟨hE.kept ((Keeps.refl _ _).alloc _), Blk.new _ _ _, (Keeps.refl _ _).alloc _, Nat.le_refl _⟩
 clear hE
 go_enter Tryz.func69, Tryz.ntmps69
 go_upto_region 1 with fail
 rw [← hW, ← hR]
 clear hW hR
 obtain ⟨c0_0, c0_1, c0_2, c0_3, c0_4, c0_5, c0_6, c0_7, c1_0, c1_1, c1_2, c1_3, c1_4, c1_5, c1_6, c2_0⟩ := HS.out _ HO.out.env
 go_wp2_with fail
 refine (HM.out W HO.out.env).mono ?_
 rintro e w1 ⟨rfl, hKc⟩
 have HO1 : Hid (ObI w (Env x N [(B, P.vs, 41), (C, x.vs, 26), (I, [.int .i64 (p : Int)], 3)]) R w1) := HO.out.kept HEk.out hKc
 clear hKc
 clear c0_0 c0_1 c0_2 c0_3 c0_4 c0_5 c0_6 c0_7 c1_0 c1_1 c1_2 c1_3 c1_4 c1_5 c1_6 c2_0
 obtain ⟨c0_0, c0_1, c0_2, c0_3, c0_4, c0_5, c0_6, c0_7, c1_0, c1_1, c1_2, c1_3, c1_4, c1_5, c1_6, c2_0⟩ := HS.out _ HO1.out.env
 obtain ⟨Gz, hG⟩ : ∃ Gz : Flt, prtsF x p P = Gz := ⟨_, rfl⟩
 have HG : Hid (prtsF x p P = Gz) := hG
 rw [hG]
 clear hG
 obtain ⟨gn, ga, gb⟩ := Gz
 have m0 := HO1.out.ans.cell (i := 0) rfl
 have m1 := HO1.out.ans.cell (i := 1) rfl
 have m2 := HO1.out.ans.cell (i := 2) rfl
 have n0 := HO1.out.ans.frozen 0
 have n1 := HO1.out.ans.frozen 1
 have n2 := HO1.out.ans.frozen 2
 clear c0_0 c0_1 c0_2 c0_3 c0_4 c0_5 c0_6 c0_7 c1_0 c1_1 c1_2 c1_3 c1_4 c1_5 c1_6 c2_0
 go_wp2
 obtain ⟨hB, hK3⟩ := set3 HO1.out.ans (.int .i64 gn) (.int .i64 ga) (.int .i64 gb)
 obtain ⟨Wb, hWb⟩ : ∃ Wb, Wb = (((w1.setCell ⟨R, 0, none⟩ (.int .i64 gn)).setCell ⟨R, 1, none⟩ (.int .i64 ga)).setCell ⟨R, 2, none⟩ (.int .i64 gb)) := ⟨_, rfl⟩
 rw [← hWb] at hB hK3 ⊢
 (try simp only [Exit.inBlock, Exit.then])
 refine bodyPost_ret (results_cell_row rfl _ _ R 65 _ (0, 0) _ rfl hB Tryz.underlying65 rfl (by kernel_rfl)) rfl ?_
 have hlo := HO.out.lo
 exact ⟨by rw [HG.out], HO1.out.keeps.trans hK3 fun k hk e => by omega⟩
def parF (x : Cfg) (p : Nat) (P : Par) : List Flt :=
 [unl (nameB P.name && !((x.ps.take p).any fun Q => Q.name.toList == P.name.toList)) ⟨405, p, -1⟩,
  unl (inR P.action 0 2 && inR P.restarts 0 15) ⟨406, p, -1⟩,
  unl (inR P.inputs 0 16 && inR P.outputs 0 16) ⟨407, p, -1⟩,
  unl (inR (P.rs.length : Int) 1 8) ⟨408, p, -1⟩,
  rgnsF x p P,
  unl P.begB ⟨412, p, -1⟩,
  unl (decide ((P.ps.length : Int) ≤ 8)) ⟨413, p, -1⟩,
  prtsF x p P]
set_option maxHeartbeats 1000000 in
theorem parQs (x : Cfg) (N p : Nat) (P : Par) (B C I A : Nat) (hP : x.ps[p]? = some P) (hsz : P.name.size ≤ 9223372036854775807) (h1 : 1 ≤ x.frames) (h2 : x.frames ≤ 1024) (hpv : ∀ Q ∈ x.ps.take p, ∀ s ∈ Q.rs, s.okB x.frames = true) (L : List (Nat × List Value × TypeId)) (hL : L = [(A, [.int .i64 (p : Int), .int .i64 (-1)], 34), (B, P.vs, 41), (I, [.int .i64 (p : Int)], 3), (C, x.vs, 26)]) :
  Qs [(57, #[.pointer (some ⟨B, 0, none⟩), .pointer (some ⟨C, 0, none⟩), .pointer (some ⟨I, 0, none⟩), .pointer (some ⟨A, 0, none⟩)], unl (nameB P.name && !((x.ps.take p).any fun Q => Q.name.toList == P.name.toList)) ⟨405, p, -1⟩),
    (60, #[.pointer (some ⟨B, 0, none⟩), .pointer (some ⟨A, 0, none⟩)], unl (inR P.action 0 2 && inR P.restarts 0 15) ⟨406, p, -1⟩),
    (61, #[.pointer (some ⟨B, 0, none⟩), .pointer (some ⟨A, 0, none⟩)], unl (inR P.inputs 0 16 && inR P.outputs 0 16) ⟨407, p, -1⟩),
    (62, #[.pointer (some ⟨B, 0, none⟩), .pointer (some ⟨A, 0, none⟩)], unl (inR (P.rs.length : Int) 1 8) ⟨408, p, -1⟩),
    (63, #[.pointer (some ⟨B, 0, none⟩), .pointer (some ⟨C, 0, none⟩), .pointer (some ⟨I, 0, none⟩)], rgnsF x p P),
    (66, #[.pointer (some ⟨B, 0, none⟩), .pointer (some ⟨A, 0, none⟩)], unl P.begB ⟨412, p, -1⟩),
    (68, #[.pointer (some ⟨B, 0, none⟩), .pointer (some ⟨A, 0, none⟩)], unl (decide ((P.ps.length : Int) ≤ 8)) ⟨413, p, -1⟩),
    (69, #[.pointer (some ⟨B, 0, none⟩), .pointer (some ⟨C, 0, none⟩), .pointer (some ⟨I, 0, none⟩)], prtsF x p P)] (Env x N L) := by
 have hp := (List.getElem?_eq_some_iff.1 hP).1
 have hPm := List.mem_of_getElem? hP
 refine ⟨fun _ _ h k => h.kept k, fun q hq args w => ?_, fun j q hj hpr => ?_, by simp⟩
 ·
  simp only [List.mem_cons, List.not_mem_nil, or_false] at hq
  rcases hq with rfl | rfl | rfl | rfl | rfl | rfl | rfl | rfl
  ·
   exact enter_fn Tryz.func57 rfl rfl args w
  ·
   exact enter_fn Tryz.func60 rfl rfl args w
  ·
   exact enter_fn Tryz.func61 rfl rfl args w
  ·
   exact enter_fn Tryz.func62 rfl rfl args w
  ·
   exact enter_fn Tryz.func63 rfl rfl args w
  ·
   exact enter_fn Tryz.func66 rfl rfl args w
  ·
   exact enter_fn Tryz.func68 rfl rfl args w
  ·
   exact enter_fn Tryz.func69 rfl rfl args w
 ·
  have hok3 : 3 < j → inR (P.rs.length : Int) 1 8 = true := fun h => (unl_n (by simp)).1 (qs_prev hpr 3 h rfl)
  have hok4 : 4 < j → ∀ r ∈ P.rs, r.okB x.frames = true := fun h => rgnsF_ok (qs_prev hpr 4 h rfl)
  have hok6 : 6 < j → decide ((P.ps.length : Int) ≤ 8) = true := fun h => (unl_n (by simp)).1 (qs_prev hpr 6 h rfl)
  match j, hj with
  | 0, hj =>
   cases hj
   exact (q37 x N p P B C I A (Nat.le_of_lt hp) hsz).of fun w h => h.sub fun b hb => by rw [hL]; simp only [List.mem_cons, List.not_mem_nil, or_false] at hb ⊢; rcases hb with h | h | h | h <;> simp [h]
  | 1, hj =>
   cases hj
   exact (q40 x N p P B A).of fun w h => h.sub fun b hb => by rw [hL]; simp only [List.mem_cons, List.not_mem_nil, or_false] at hb ⊢; rcases hb with h | h <;> simp [h]
  | 2, hj =>
   cases hj
   exact (q41 x N p P B A).of fun w h => h.sub fun b hb => by rw [hL]; simp only [List.mem_cons, List.not_mem_nil, or_false] at hb ⊢; rcases hb with h | h <;> simp [h]
  | 3, hj =>
   cases hj
   exact (q42 x N p P B A).of fun w h => h.sub fun b hb => by rw [hL]; simp only [List.mem_cons, List.not_mem_nil, or_false] at hb ⊢; rcases hb with h | h <;> simp [h]
  | 4, hj =>
   cases hj
   exact (q43 x N p P B C I hP h1 h2 hpv (by have := inR_iff.1 (hok3 (by omega)); omega)).of fun w h => h.sub fun b hb => by rw [hL]; simp only [List.mem_cons, List.not_mem_nil, or_false] at hb ⊢; rcases hb with h | h | h <;> simp [h]
  | 5, hj =>
   cases hj
   exact (q46 x N p P B A hPm (fun r hr => ⟨(Rgn.okB_ok (hok4 (by omega) r hr) h2).2.2, (Rgn.okB_ok (hok4 (by omega) r hr) h2).1⟩)).of fun w h => h.sub fun b hb => by rw [hL]; simp only [List.mem_cons, List.not_mem_nil, or_false] at hb ⊢; rcases hb with h | h <;> simp [h]
  | 6, hj =>
   cases hj
   exact (q48 x N p P B A).of fun w h => h.sub fun b hb => by rw [hL]; simp only [List.mem_cons, List.not_mem_nil, or_false] at hb ⊢; rcases hb with h | h <;> simp [h]
  | 7, hj =>
   cases hj
   exact (q49 x N p P B C I hP (by have := hok6 (by omega); rw [decide_eq_true_eq] at this; omega)).of fun w h => h.sub fun b hb => by rw [hL]; simp only [List.mem_cons, List.not_mem_nil, or_false] at hb ⊢; rcases hb with h | h | h <;> simp [h]
  | j + 8, hj => simp at hj
set_option maxHeartbeats 8000000 in
theorem partitionQuestions_any (x : Cfg) (N p : Nat) (P : Par) (hP : x.ps[p]? = some P) (h1 : 1 ≤ x.frames) (h2 : x.frames ≤ 1024) (hpv : ∀ Q ∈ x.ps.take p, ∀ s ∈ Q.rs, s.okB x.frames = true) :
  Makes 44 #[x.v, .int .i64 (p : Int)] (Env x N []) (firstF (parF x p P)) := by
 intro w hE
 have hPi := hE.cin.pin P (List.mem_of_getElem? hP)
 have hPlt := (List.getElem?_eq_some_iff.1 hP).1
 obtain ⟨g0, o0, hpa, hc0⟩ := hE.cin.par hP
 obtain ⟨W, hW⟩ : ∃ W, W = (x.laid w).alloc (.cells #[.int .i64 (p : Int)] 3) := ⟨_, rfl⟩
 obtain ⟨C, hC⟩ : ∃ C, C = w.heap.size := ⟨_, rfl⟩
 obtain ⟨I, hI⟩ : ∃ I, I = w.heap.size + 1 := ⟨_, rfl⟩
 have hE1 : Env x N [(C, x.vs, 26)] (x.laid w) := by rw [hC]; exact hE.box _ _
 have hE2 : Env x N [(I, [.int .i64 (p : Int)], 3), (C, x.vs, 26)] W := by
  have := hE1.box [.int .i64 (p : Int)] 3
  rw [hW, hI]
  simpa [Cfg.laid] using this
 have HO : Hid (Env x N [(I, [.int .i64 (p : Int)], 3), (C, x.vs, 26)] W ∧ KF w W) := ⟨hE2, by rw [hW]; exact ((Keeps.refl _ _).alloc _).alloc _⟩
 obtain ⟨PL, hPL⟩ : ∃ PL, x.ps.length = PL := ⟨_, rfl⟩
 obtain ⟨RL, hRL⟩ : ∃ RL, P.rs.length = RL := ⟨_, rfl⟩
 obtain ⟨QL, hQL⟩ : ∃ QL, P.ps.length = QL := ⟨_, rfl⟩
 obtain ⟨W1, hW1⟩ : ∃ W1, W1 = W.alloc (.cells #[.string P.name, .int .i64 P.entry, .int .i64 P.action, .int .i64 P.restarts, .int .i64 P.inputs, .int .i64 P.outputs, .slice P.ra RL P.rc, .slice P.pa QL P.pc] 41) := ⟨_, rfl⟩
 obtain ⟨B, hB⟩ : ∃ B, B = W.heap.size := ⟨_, rfl⟩
 have HO1 : Hid (Env x N ((B, [.string P.name, .int .i64 P.entry, .int .i64 P.action, .int .i64 P.restarts, .int .i64 P.inputs, .int .i64 P.outputs, .slice P.ra RL P.rc, .slice P.pa QL P.pc], 41) :: [(I, [.int .i64 (p : Int)], 3), (C, x.vs, 26)]) W1 ∧ KF w W1) := by rw [hW1, hB]; exact ⟨HO.out.1.box _ _, HO.out.2.trans ((Keeps.refl (fun _ => False) _).alloc _) fun _ _ h => h⟩
 have j0 := (HO1.out.1.bl _ (.tail _ (.head _))).cell (i := 0) rfl
 obtain ⟨W2, hW2⟩ : ∃ W2, W2 = W1.alloc (.cells #[.int .i64 (p : Int), .int .i64 (-1)] 34) := ⟨_, rfl⟩
 obtain ⟨A, hA⟩ : ∃ A, A = W1.heap.size := ⟨_, rfl⟩
 have HO2 : Hid (Env x N ((A, [.int .i64 (p : Int), .int .i64 (-1)], 34) :: (B, [.string P.name, .int .i64 P.entry, .int .i64 P.action, .int .i64 P.restarts, .int .i64 P.inputs, .int .i64 P.outputs, .slice P.ra RL P.rc, .slice P.pa QL P.pc], 41) :: [(I, [.int .i64 (p : Int)], 3), (C, x.vs, 26)]) W2 ∧ KF w W2) := by rw [hW2, hA]; exact ⟨HO1.out.1.box _ _, HO1.out.2.trans ((Keeps.refl (fun _ => False) _).alloc _) fun _ _ h => h⟩
 have HF : Hid (MkP (firstF (parF x p P)) w (.returned (.slice (some ⟨W2.heap.size, 0, none⟩) 8 8)) (W2.alloc (.cells #[.func (.func 57) #[] #[.pointer (some ⟨B, 0, none⟩), .pointer (some ⟨C, 0, none⟩), .pointer (some ⟨I, 0, none⟩), .pointer (some ⟨A, 0, none⟩)], .func (.func 60) #[] #[.pointer (some ⟨B, 0, none⟩), .pointer (some ⟨A, 0, none⟩)], .func (.func 61) #[] #[.pointer (some ⟨B, 0, none⟩), .pointer (some ⟨A, 0, none⟩)], .func (.func 62) #[] #[.pointer (some ⟨B, 0, none⟩), .pointer (some ⟨A, 0, none⟩)], .func (.func 63) #[] #[.pointer (some ⟨B, 0, none⟩), .pointer (some ⟨C, 0, none⟩), .pointer (some ⟨I, 0, none⟩)], .func (.func 66) #[] #[.pointer (some ⟨B, 0, none⟩), .pointer (some ⟨A, 0, none⟩)], .func (.func 68) #[] #[.pointer (some ⟨B, 0, none⟩), .pointer (some ⟨A, 0, none⟩)], .func (.func 69) #[] #[.pointer (some ⟨B, 0, none⟩), .pointer (some ⟨C, 0, none⟩), .pointer (some ⟨I, 0, none⟩)]] 81))) := by
  have hX := HO2.out.1
  rw [← hRL, ← hQL] at hX
  exact MkP.of (parQs x N p P B C I A hP hPi.name h1 h2 hpv _ rfl) (HO2.out.2.trans ((Keeps.refl (fun _ => False) _).alloc _) fun _ _ h => h) (Blk.new _ _ _) (hX.kept ((Keeps.refl _ _).alloc _)) rfl rfl
 have hb1 : (PL : Int) ≤ x.pc ∧ (x.pc : Int) ≤ 9223372036854775807 := by have := hE.cin.plen; unfold maxLen at this; omega
 rw [hPL] at hPlt
 have c5 : W.cell? ⟨C, 5, none⟩ = some (.slice (some ⟨g0, o0, none⟩) PL x.pc) := by have := (hE2.bl _ (.tail _ (.head _))).cell (i := 5) rfl; rw [hpa, hPL] at this; exact this
 have i0 := (hE2.bl _ (.head _)).cell (i := 0) rfl
 obtain ⟨g2, o2, e2, hc2⟩ := hE2.cin.par hP
 rw [hpa] at e2
 cases e2
 have p0 := hc2 0 _ rfl
 rw [Nat.add_zero] at p0
 have p1 := hc2 1 _ rfl
 have p2 := hc2 2 _ rfl
 have p3 := hc2 3 _ rfl
 have p4 := hc2 4 _ rfl
 have p5 := hc2 5 _ rfl
 have p6 := hc2 6 _ rfl
 have p7 := hc2 7 _ rfl
 rw [hRL] at p6
 rw [hQL] at p7
 dsimp only at i0
 clear hE hE1 hE2 hc0 hc2 hpa hPL hRL hQL hPi h1 h2 hpv hP
 unfold Cfg.laid at hW
 dsimp only at j0
 go_enter Tryz.func44, Tryz.ntmps44
 go_upto_region 1 with fail
 rw [← hW, ← hI, ← hC]
 clear hW hI hC
 go_upto_region 2 with fail
 rw [← hW1, ← hB]
 clear hW1 hB c5 i0 p0 p1 p2 p3 p4 p5 p6 p7
 go_upto_region 3 with fail
 rw [← hW2, ← hA]
 clear hW2 hA j0
 go_wp2
 go_ret
 exact HF.out
end Go.Proofs.YtlnmlbkeemahcaaGreat
