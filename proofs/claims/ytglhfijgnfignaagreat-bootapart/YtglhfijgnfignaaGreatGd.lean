import Derived.Test.YtglhfijgnfignaaGreatQz
namespace Go.Proofs.YtglhfijgnfignaaGreat
open Go.RowKit
set_option linter.unusedVariables false
set_option linter.unusedSimpArgs false
set_option maxRecDepth 6000
set_option maxHeartbeats 4000000 in
theorem questions_any (x : Cfg) (N : Nat) : Makes 60 #[x.v] (Env x N []) (chk x) := by
 intro w hE
 obtain ⟨W, hW⟩ : ∃ W, W = x.laid w := ⟨_, rfl⟩
 obtain ⟨C, hC⟩ : ∃ C, C = w.heap.size := ⟨_, rfl⟩
 have hE1 : Env x N [(C, [.int .i64 x.frames, .int .i64 x.major, .int .i64 x.kernel, .int .i64 x.room, .slice x.ca x.cs.length x.cc, .slice x.pa x.ps.length x.pc, .slice x.ha x.hs.length x.hc], 26)] W := by rw [hW, hC]; exact hE.box _ _
 obtain ⟨W2, hW2⟩ : ∃ W2, W2 = W.alloc (.cells #[.int .i64 (-1), .int .i64 (-1)] 92) := ⟨_, rfl⟩
 obtain ⟨A, hA⟩ : ∃ A, A = w.heap.size + 1 := ⟨_, rfl⟩
 have hA0 : A = W.heap.size := by rw [hA, hW]; simp [Cfg.laid]
 have HA0 : Hid (A = W.heap.size) := hA0
 have hE2 : Env x N [(A, [.int .i64 (-1), .int .i64 (-1)], 92), (C, [.int .i64 x.frames, .int .i64 x.major, .int .i64 x.kernel, .int .i64 x.room, .slice x.ca x.cs.length x.cc, .slice x.pa x.ps.length x.pc, .slice x.ha x.hs.length x.hc], 26)] W2 := by rw [hW2, hA0]; exact hE1.box _ _
 have k2 : Keeps (fun _ => False) w W2 := by rw [hW2, hW]; exact ((Keeps.refl _ _).alloc _).alloc _
 have HF : Hid (MkP (chk x) w (.returned (.slice (some ⟨W2.heap.size, 0, none⟩) 9 9)) (W2.alloc (.cells #[.func (.func 79) #[] #[.pointer (some ⟨C, 0, none⟩), .pointer (some ⟨A, 0, none⟩)], .func (.func 82) #[] #[.pointer (some ⟨C, 0, none⟩), .pointer (some ⟨A, 0, none⟩)], .func (.func 83) #[] #[.pointer (some ⟨C, 0, none⟩), .pointer (some ⟨A, 0, none⟩)], .func (.func 84) #[] #[.pointer (some ⟨C, 0, none⟩), .pointer (some ⟨A, 0, none⟩)], .func (.func 85) #[] #[.pointer (some ⟨C, 0, none⟩), .pointer (some ⟨A, 0, none⟩)], .func (.func 86) #[] #[.pointer (some ⟨C, 0, none⟩)], .func (.func 90) #[] #[.pointer (some ⟨C, 0, none⟩)], .func (.func 93) #[] #[.pointer (some ⟨C, 0, none⟩)], .func (.func 96) #[] #[.pointer (some ⟨C, 0, none⟩), .pointer (some ⟨A, 0, none⟩)]] 170))) :=
  MkP.of (cfgQs x N C A _ rfl) (k2.trans ((Keeps.refl (fun _ => False) _).alloc _) fun _ _ h => h) (Blk.new _ _ _) (hE2.kept ((Keeps.refl _ _).alloc _)) rfl rfl
 unfold Cfg.laid at hW
 clear hE hE1 hA0 hE2 k2
 go_enter Tryz.func60, Tryz.ntmps60
 go_upto_region 1 with fail
 rw [← hW, ← hC]
 clear hC hW hA
 go_upto_region 2 with fail
 rw [← hW2, ← HA0.out]
 clear hW2
 go_wp2
 go_ret
 exact HF.out
theorem results_two_cell {P : Program} {fn : Func} {p u : Tmp} {ty : TypeId} (h : fn.results = #[.tmp u, .cell p ty]) (tmps : Array Value) (w : World) (g : Nat) (t : TypeId) (cs : Array Value) (fr : Nat × Nat) (d : TypeDesc)
  (hp : tmps.getD p undef = .pointer (some ⟨g, 0, none⟩)) (hg : w.heap[g]? = some (.cells cs t fr))
  (hu : P.underlying ty = some d) (hd : (match d with | .struct _ | .array _ _ => true | _ => false) = true) (hi : (P.info? ty).map (·.size) = some cs.size) :
  (results fn tmps).run P w = .ok (.tuple #[tmps.getD u undef, .agg cs]) w := by
 have hp' : tmps[p]?.getD undef = .pointer (some ⟨g, 0, none⟩) := by simpa using hp
 simp [results, h, hp', asAddr, run_loadVar_row w g t ty cs fr d hg hu hd hi]
theorem Tryz.size92 : (Tryz.prog.info? 92).map (·.size) = some 2 := by kernel_rfl
theorem all29 (n a : Int) : (#[Value.int .i64 n, .int .i64 a] : Array Value).all (fun v => v.oneCell') = true := by kernel_rfl
def ChkP (x : Cfg) (w : World) (e : Ending) (w' : World) : Prop := e = .returned (.tuple #[.int .i64 (chk x).n, .agg #[.int .i64 (chk x).a, .int .i64 (chk x).b]]) ∧ Keeps (fun _ => False) w w'
set_option maxHeartbeats 4000000 in
theorem Check_any (x : Cfg) (w : World) (N : Nat) (hi : x.In w N) (hN : N ≤ w.heap.size) : Calls Tryz.prog 35 #[x.v] w (ChkP x w) := by
 have HO1 := One.mk' hi hN
 obtain ⟨W0, hW0⟩ : ∃ W0, W0 = x.laid w := ⟨_, rfl⟩
 obtain ⟨C, hC⟩ : ∃ C, C = w.heap.size := ⟨_, rfl⟩
 rw [← hW0, ← hC] at HO1
 obtain ⟨W, hW⟩ : ∃ W, W = W0.alloc (.cells #[.int .i64 0, .int .i64 0] 92) := ⟨_, rfl⟩
 obtain ⟨R, hR⟩ : ∃ R, R = w.heap.size + 1 := ⟨_, rfl⟩
 have hR0 : R = W0.heap.size := by rw [hR, hW0]; simp [Cfg.laid]
 have HO : Hid (One w x C N W ∧ Blk W R [.int .i64 0, .int .i64 0] 92 ∧ w.heap.size ≤ R) := by
  rw [hW]; exact ⟨HO1.kept ((Keeps.refl _ _).alloc _), by rw [hR0]; exact Blk.new _ _ _, by omega⟩
 have HQ : Hid (Calls Tryz.prog 60 #[x.v] W (MkP (chk x) W)) := questions_any x N W ⟨HO.out.1.cin, HO.out.1.nn, fun b hb => by cases hb⟩
 obtain ⟨q0, q1, q2, q3, q4, q5, q6⟩ := HO.out.1.cells
 unfold Cfg.laid at hW0
 clear hi hN HO1 hR0
 go_enter Tryz.func35, Tryz.ntmps35
 go_upto_region 1 with fail
 rw [← hW0, ← hW, ← hR, ← hC]
 clear hW hR hC hW0
 go_wp2_with fail
 refine HQ.out.mono ?_
 rintro e w1 ⟨k, g, t, qs, E', rfl, hB, hE', hQ, hv⟩
 have HC1 : Hid (Calls Tryz.prog 59 #[.slice (some ⟨g, 0, none⟩) qs.length qs.length] w1 fun e w' => e = .returned (chk x).v ∧ Keeps (fun _ => False) w1 w') := by rw [← hv]; exact firstFault_any qs E' g t hQ w1 hE' hB
 have HO2 : Hid (One w x C N w1 ∧ Blk w1 R [.int .i64 0, .int .i64 0] 92) := ⟨HO.out.1.kept k, HO.out.2.1.kept k fun h => h⟩
 obtain ⟨n, hn⟩ : ∃ n, qs.length = n := ⟨_, rfl⟩
 rw [hn] at HC1 ⊢
 clear k hB hE' hQ hv hn q0 q1 q2 q3 q4 q5 q6 HQ
 go_wp2_with fail
 refine HC1.out.mono ?_
 rintro e w2 ⟨rfl, hK⟩
 have HO3 : Hid (One w x C N w2 ∧ Blk w2 R [.int .i64 0, .int .i64 0] 92) := ⟨HO2.out.1.kept hK, HO2.out.2.kept hK fun h => h⟩
 obtain ⟨F, hF⟩ : ∃ F, chk x = F := ⟨_, rfl⟩
 have HF : Hid (chk x = F) := hF
 rw [hF]
 clear hK hF HC1 HO2
 obtain ⟨fn, fa, fb⟩ := F
 obtain ⟨W3, hW3⟩ : ∃ W3, W3 = w2.alloc (.cells #[.int .i64 fn, .int .i64 fa, .int .i64 fb] 129) := ⟨_, rfl⟩
 obtain ⟨D, hD⟩ : ∃ D, D = w2.heap.size := ⟨_, rfl⟩
 have HO4 : Hid (One w x C N W3.drew ∧ Blk W3.drew R [.int .i64 0, .int .i64 0] 92 ∧ Blk W3.drew D [.int .i64 fn, .int .i64 fa, .int .i64 fb] 129 ∧ D ≠ R) := by
  have hl := HO3.out.2.lt
  rw [hW3, hD]
  exact ⟨HO3.out.1.kept (((Keeps.refl _ _).alloc _).drew), HO3.out.2.kept (((Keeps.refl (fun _ => False) _).alloc _).drew) fun h => h, (Blk.new _ _ _).kept ((Keeps.refl (fun _ => False) _).drew) fun h => h, by omega⟩
 have d0 := HO4.out.2.2.1.cell (i := 0) rfl
 have d1 := HO4.out.2.2.1.cell (i := 1) rfl
 have d2 := HO4.out.2.2.1.cell (i := 2) rfl
 go_upto_region 2 with fail
 rw [← hW3, ← hD]
 clear hW3 hD
 refine wp_region_held_drew (S := (fun w' => w'.cell? ⟨D, 0, none⟩ = some (.int .i64 fn) ∧ w'.cell? ⟨D, 1, none⟩ = some (.int .i64 fa) ∧ w'.cell? ⟨D, 2, none⟩ = some (.int .i64 fb))) Tryz.mixd ⟨d0, d1, d2⟩ (fun hHeld => ?_)
 simp only [t1, t2, List.length_nil, Nat.reduceAdd, t4, Array.replicate_zero, t6, List.append_toArray, List.nil_append, t8]
 refine tk 0 (.pointer (some ⟨D, 0, none⟩)) hHeld ?_
 refine tk 1 (.int .i64 fn) hHeld ?_
 refine tk 2 (.pointer (some ⟨D, 1, none⟩)) hHeld ?_
 refine tk 3 (.agg #[.int .i64 fa, .int .i64 fb]) hHeld ?_
 refine tk 4 (.int .i64 fn) hHeld ?_
 simp only [Act.put, s1, s2, s3]
 refine rd 5 fun K hK => ?_
 refine wp_store_row 92 _ _ rfl R #[.int .i64 fa, .int .i64 fb] (by rfl) (by rfl) 92 _ HO4.out.2.1 Tryz.size92 rfl (all29 ..) ?_
 obtain ⟨W5, hW5⟩ : ∃ W5, W5 = W3.drew.setRow R #[.int .i64 fa, .int .i64 fb] := ⟨_, rfl⟩
 have hB5 : Blk W5 R [.int .i64 fa, .int .i64 fb] 92 := by rw [hW5]; exact Blk.setRow HO4.out.2.1 _
 have k5 : Keeps (fun k => k = R) W3.drew W5 := by rw [hW5]; exact (Keeps.refl _ _).setRow _ _ fun _ => rfl
 have hlo := HO.out.2.2
 have hd5 : Blk W5 D [.int .i64 fn, .int .i64 fa, .int .i64 fb] 129 := HO4.out.2.2.1.kept k5 HO4.out.2.2.2
 have HO5 : Hid (Blk W5 R [.int .i64 fa, .int .i64 fb] 92 ∧ Keeps (fun _ => False) w W5) := ⟨hB5, HO4.out.1.keeps.trans k5 fun k hk e => by omega⟩
 have hS5 : W5.cell? ⟨D, 0, none⟩ = some (.int .i64 fn) ∧ W5.cell? ⟨D, 1, none⟩ = some (.int .i64 fa) ∧ W5.cell? ⟨D, 2, none⟩ = some (.int .i64 fb) := ⟨hd5.cell rfl, hd5.cell rfl, hd5.cell rfl⟩
 rw [← hW5]
 clear hW5 hB5 k5 hlo hd5
 refine hK.out _ _ hS5 (fun hHeld => ?_)
 simp only [Act.put, s1, s2, s3]
 refine wpAnyH_done (by kernel_rfl) ?_ _
 clear hHeld hS5
 go_wp2
 (try simp only [Exit.inBlock, Exit.then])
 refine bodyPost_ret (results_two_cell rfl _ _ R 92 _ (0, 0) _ rfl HO5.out.1 Tryz.underlying92 rfl (by kernel_rfl)) rfl ?_
 exact ⟨by rw [HF.out]; rfl, HO5.out.2⟩
structure GP (x : Cfg) (p : Nat) (P : Par) : Prop where
 name : nameB P.name = true
 other : ∀ Q ∈ x.ps.take p, (Q.name.toList == P.name.toList) = false
 act : inR P.action 0 2 = true ∧ inR P.restarts 0 15 = true
 dev : inR P.inputs 0 16 = true ∧ inR P.outputs 0 16 = true
 rlen : 1 ≤ P.rs.length ∧ P.rs.length ≤ 8
 rok : ∀ r ∈ P.rs, r.okB x.frames = true
 pages : P.rs.Pairwise fun s r => s.pg.meets r.pg = false
 frames : P.rs.Pairwise fun s r => s.fr.meets r.fr = false
 ahead : ∀ Q ∈ x.ps.take p, ∀ s ∈ Q.rs, ∀ r ∈ P.rs, s.fr.meets r.fr = false
 beg : P.begB = true
 plen : P.ps.length ≤ 8
 pch : ∀ t ∈ P.ps, 0 ≤ t.ch ∧ t.ch < x.hs.length
structure GH (x : Cfg) (n : Nat) (h : Chn) : Prop where
 ok : h.okB = true
 src : cntQ ⟨n, true⟩ x.ps = 1
 dst : 1 ≤ cntQ ⟨n, false⟩ x.ps ∧ (cntQ ⟨n, false⟩ x.ps : Int) ≤ h.most
structure GC (x : Cfg) (n : Nat) (X : Core) : Prop where
 len : 1 ≤ X.ws.length ∧ X.ws.length ≤ 16
 par : ∀ y ∈ X.ws, -1 ≤ y.p ∧ y.p < x.ps.length
 use : ∀ y ∈ X.ws, 1 ≤ y.u ∧ y.u ≤ 16384
 slk : ∀ y ∈ X.ws, 82 ≤ y.s ∧ y.s ≤ 16384
 one : ∀ y ∈ X.ws, hasW y.p (x.cs.take n) = false
 sum : cyc X.ws = x.major
structure Gd (x : Cfg) : Prop where
 frames : 1 ≤ x.frames ∧ x.frames ≤ 1024
 major : 1 ≤ x.major ∧ x.major ≤ 16384
 cs : 1 ≤ x.cs.length ∧ x.cs.length ≤ 4
 ps : 1 ≤ x.ps.length ∧ x.ps.length ≤ 8
 hs : x.hs.length ≤ 16
 gp : ∀ (p : Nat) (P : Par), x.ps[p]? = some P → GP x p P
 gh : ∀ (n : Nat) (h : Chn), x.hs[n]? = some h → GH x n h
 gc : ∀ (n : Nat) (X : Core), x.cs[n]? = some X → GC x n X
 ker : x.kerB = true
theorem firstF_range {n : Nat} {f : Nat → Flt} : (firstF ((List.range n).map f)).n = 0 ↔ ∀ i, i < n → (f i).n = 0 := by
 rw [firstF_eq0]
 constructor
 ·
  intro h i hi
  exact h _ (List.mem_map.2 ⟨i, List.mem_range.2 hi, rfl⟩)
 ·
  intro h g hg
  obtain ⟨i, hi, rfl⟩ := List.mem_map.1 hg
  exact h i (List.mem_range.1 hi)
theorem pairwise_take {α : Type} {R : α → α → Prop} {l : List α} : l.Pairwise R ↔ ∀ (i : Nat) (r : α), l[i]? = some r → ∀ s ∈ l.take i, R s r := by
 rw [List.pairwise_iff_getElem]
 constructor
 ·
  intro h i r hr s hs
  obtain ⟨hi, rfl⟩ := List.getElem?_eq_some_iff.1 hr
  obtain ⟨j, hj, rfl⟩ := List.getElem_of_mem hs
  rw [List.length_take] at hj
  rw [List.getElem_take]
  exact h j i (by omega) hi (by omega)
 ·
  intro h i j hi hj hij
  refine h j l[j] (List.getElem?_eq_getElem hj) _ ?_
  have : (l.take j)[i]'(by rw [List.length_take]; omega) = l[i] := List.getElem_take
  rw [← this]
  exact List.getElem_mem _
theorem rgnF_n {x : Cfg} {p : Nat} {P : Par} {i : Nat} {r : Rgn} : (firstF (rgnF x p P i r)).n = 0 ↔ r.okB x.frames = true ∧ (∀ s ∈ P.rs.take i, s.pg.meets r.pg = false) ∧ (∀ s ∈ P.rs.take i, s.fr.meets r.fr = false) ∧ (∀ Q ∈ x.ps.take p, ∀ s ∈ Q.rs, s.fr.meets r.fr = false) := by
 rw [firstF_eq0]
 simp only [rgnF, List.mem_cons, List.not_mem_nil, or_false, forall_eq_or_imp, forall_eq]
 rw [unl_n (by simp), unl_n (by simp), unl_n (by simp), unl_n (by simp)]
 simp only [Bool.not_eq_true', List.any_eq_false, Bool.not_eq_true]
theorem rgnsF_n {x : Cfg} {p : Nat} {P : Par} : (rgnsF x p P).n = 0 ↔ (∀ r ∈ P.rs, r.okB x.frames = true) ∧ (P.rs.Pairwise fun s r => s.pg.meets r.pg = false) ∧ (P.rs.Pairwise fun s r => s.fr.meets r.fr = false) ∧ (∀ Q ∈ x.ps.take p, ∀ s ∈ Q.rs, ∀ r ∈ P.rs, s.fr.meets r.fr = false) := by
 unfold rgnsF
 rw [firstF_range, pairwise_take, pairwise_take]
 constructor
 ·
  intro h
  have h' : ∀ (i : Nat) (r : Rgn), P.rs[i]? = some r → (firstF (rgnF x p P i r)).n = 0 := fun i r hr => by
   have := h i (List.getElem?_eq_some_iff.1 hr).1
   unfold rgnF' at this
   rw [hr] at this
   exact this
  refine ⟨fun r hr => ?_, fun i r hr => (rgnF_n.1 (h' i r hr)).2.1, fun i r hr => (rgnF_n.1 (h' i r hr)).2.2.1, fun Q hQ s hs r hr => ?_⟩
  ·
   obtain ⟨i, hi⟩ := List.getElem?_of_mem hr
   exact (rgnF_n.1 (h' i r hi)).1
  ·
   obtain ⟨i, hi⟩ := List.getElem?_of_mem hr
   exact (rgnF_n.1 (h' i r hi)).2.2.2 Q hQ s hs
 ·
  rintro ⟨h1, h2, h3, h4⟩ i hi
  obtain ⟨r, hr⟩ : ∃ r, P.rs[i]? = some r := ⟨_, List.getElem?_eq_getElem hi⟩
  unfold rgnF'
  rw [hr]
  have hm := List.mem_of_getElem? hr
  exact rgnF_n.2 ⟨h1 r hm, h2 i r hr, h3 i r hr, fun Q hQ s hs => h4 Q hQ s hs r hm⟩
theorem prtsF_n {x : Cfg} {p : Nat} {P : Par} : (prtsF x p P).n = 0 ↔ ∀ t ∈ P.ps, 0 ≤ t.ch ∧ t.ch < x.hs.length := by
 unfold prtsF
 rw [firstF_range]
 have key : ∀ (i : Nat) (t : Prt), P.ps[i]? = some t → ((firstF (prtF' x p P i)).n = 0 ↔ 0 ≤ t.ch ∧ t.ch < x.hs.length) := fun i t ht => by
  unfold prtF'
  rw [ht]
  show (firstF (prtF x p i t)).n = 0 ↔ _
  rw [firstF_eq0]
  simp only [prtF, List.mem_cons, List.not_mem_nil, or_false, forall_eq]
  rw [unl_n (by simp), inR_iff]
  omega
 constructor
 ·
  intro h t ht
  obtain ⟨i, hi⟩ := List.getElem?_of_mem ht
  exact (key i t hi).1 (h i (List.getElem?_eq_some_iff.1 hi).1)
 ·
  intro h i hi
  obtain ⟨t, ht⟩ : ∃ t, P.ps[i]? = some t := ⟨_, List.getElem?_eq_getElem hi⟩
  exact (key i t ht).2 (h t (List.mem_of_getElem? ht))
theorem parF_n {x : Cfg} {p : Nat} {P : Par} : (firstF (parF x p P)).n = 0 ↔ GP x p P := by
 rw [firstF_eq0]
 simp only [parF, List.mem_cons, List.not_mem_nil, or_false, forall_eq_or_imp, forall_eq]
 rw [unl_n (by simp), unl_n (by simp), unl_n (by simp), unl_n (by simp), unl_n (by simp), unl_n (by simp), rgnsF_n, prtsF_n]
 simp only [Bool.and_eq_true, Bool.not_eq_true', List.any_eq_false, Bool.not_eq_true, inR_iff, decide_eq_true_eq]
 constructor
 ·
  rintro ⟨⟨a1, a2⟩, a3, a4, a5, ⟨a6, a7, a8, a9⟩, a10, a11, a12⟩
  exact ⟨a1, a2, ⟨inR_iff.2 a3.1, inR_iff.2 a3.2⟩, ⟨inR_iff.2 a4.1, inR_iff.2 a4.2⟩, by omega, a6, a7, a8, a9, a10, by omega, a12⟩
 ·
  intro h
  exact ⟨⟨h.name, h.other⟩, ⟨inR_iff.1 h.act.1, inR_iff.1 h.act.2⟩, ⟨inR_iff.1 h.dev.1, inR_iff.1 h.dev.2⟩, by have := h.rlen; omega, ⟨h.rok, h.pages, h.frames, h.ahead⟩, h.beg, by have := h.plen; omega, h.pch⟩
theorem chnF_n {x : Cfg} {n : Nat} {h : Chn} : (firstF (chnF x n h)).n = 0 ↔ GH x n h := by
 rw [firstF_eq0]
 simp only [chnF, List.mem_cons, List.not_mem_nil, or_false, forall_eq_or_imp, forall_eq]
 rw [unl_n (by simp), unl_n (by simp), unl_n (by simp), beq_iff_eq, inR_iff]
 constructor
 ·
  rintro ⟨a1, a2, a3⟩
  exact ⟨a1, by omega, by omega, a3.2⟩
 ·
  intro h
  exact ⟨h.ok, by have := h.src; omega, by have := h.dst; omega, h.dst.2⟩
theorem winF_n {x : Cfg} {n i : Nat} {y : Win} : (firstF (winF x n i y)).n = 0 ↔ (-1 ≤ y.p ∧ y.p < x.ps.length) ∧ (1 ≤ y.u ∧ y.u ≤ 16384) ∧ (82 ≤ y.s ∧ y.s ≤ 16384) ∧ hasW y.p (x.cs.take n) = false := by
 rw [firstF_eq0]
 simp only [winF, List.mem_cons, List.not_mem_nil, or_false, forall_eq_or_imp, forall_eq]
 rw [unl_n (by simp), unl_n (by simp), unl_n (by simp), Bool.and_eq_true, inR_iff, inR_iff, inR_iff, Bool.not_eq_true']
 constructor
 ·
  rintro ⟨⟨a1, a2⟩, a3, a4⟩
  exact ⟨by omega, a2, a3, a4⟩
 ·
  rintro ⟨a1, a2, a3, a4⟩
  exact ⟨⟨by omega, a2⟩, a3, a4⟩
theorem corF_n {x : Cfg} {n : Nat} {X : Core} : (firstF (corF x n X)).n = 0 ↔ GC x n X := by
 have key : (winsF x n X).n = 0 ↔ ∀ y ∈ X.ws, (-1 ≤ y.p ∧ y.p < x.ps.length) ∧ (1 ≤ y.u ∧ y.u ≤ 16384) ∧ (82 ≤ y.s ∧ y.s ≤ 16384) ∧ hasW y.p (x.cs.take n) = false := by
  unfold winsF
  rw [firstF_range]
  have key2 : ∀ (i : Nat) (y : Win), X.ws[i]? = some y → ((firstF (winF' x n X i)).n = 0 ↔ (-1 ≤ y.p ∧ y.p < x.ps.length) ∧ (1 ≤ y.u ∧ y.u ≤ 16384) ∧ (82 ≤ y.s ∧ y.s ≤ 16384) ∧ hasW y.p (x.cs.take n) = false) := fun i y hy => by
   unfold winF'
   rw [hy]
   exact winF_n (i := i)
  constructor
  ·
   intro h y hy
   obtain ⟨i, hi⟩ := List.getElem?_of_mem hy
   exact (key2 i y hi).1 (h i (List.getElem?_eq_some_iff.1 hi).1)
  ·
   intro h i hi
   obtain ⟨y, hy⟩ : ∃ y, X.ws[i]? = some y := ⟨_, List.getElem?_eq_getElem hi⟩
   exact (key2 i y hy).2 (h y (List.mem_of_getElem? hy))
 rw [firstF_eq0]
 simp only [corF, List.mem_cons, List.not_mem_nil, or_false, forall_eq_or_imp, forall_eq]
 rw [unl_n (by simp), unl_n (by simp), key, beq_iff_eq, inR_iff]
 constructor
 ·
  rintro ⟨a1, a2, a3⟩
  exact ⟨by omega, fun y hy => (a2 y hy).1, fun y hy => (a2 y hy).2.1, fun y hy => (a2 y hy).2.2.1, fun y hy => (a2 y hy).2.2.2, a3⟩
 ·
  intro h
  exact ⟨by have := h.len; omega, fun y hy => ⟨h.par y hy, h.use y hy, h.slk y hy, h.one y hy⟩, h.sum⟩
theorem chk_n {x : Cfg} : (chk x).n = 0 ↔ Gd x := by
 unfold chk
 rw [firstF_eq0]
 simp only [cfgF, List.mem_cons, List.not_mem_nil, or_false, forall_eq_or_imp, forall_eq]
 rw [unl_n (by simp), unl_n (by simp), unl_n (by simp), unl_n (by simp), unl_n (by simp), unl_n (by simp), inR_iff, inR_iff, inR_iff, inR_iff, decide_eq_true_eq]
 unfold parsF chnsF corsF
 rw [firstF_range, firstF_range, firstF_range]
 have e1 : (∀ i, i < x.ps.length → (firstF (parF' x i)).n = 0) ↔ ∀ (p : Nat) (P : Par), x.ps[p]? = some P → GP x p P := by
  constructor
  ·
   intro h p P hP
   have := h p (List.getElem?_eq_some_iff.1 hP).1
   unfold parF' at this
   rw [hP] at this
   exact parF_n.1 this
  ·
   intro h p hp
   obtain ⟨P, hP⟩ : ∃ P, x.ps[p]? = some P := ⟨_, List.getElem?_eq_getElem hp⟩
   unfold parF'
   rw [hP]
   exact parF_n.2 (h p P hP)
 have e2 : (∀ i, i < x.hs.length → (firstF (chnF' x i)).n = 0) ↔ ∀ (p : Nat) (P : Chn), x.hs[p]? = some P → GH x p P := by
  constructor
  ·
   intro h p P hP
   have := h p (List.getElem?_eq_some_iff.1 hP).1
   unfold chnF' at this
   rw [hP] at this
   exact chnF_n.1 this
  ·
   intro h p hp
   obtain ⟨P, hP⟩ : ∃ P, x.hs[p]? = some P := ⟨_, List.getElem?_eq_getElem hp⟩
   unfold chnF'
   rw [hP]
   exact chnF_n.2 (h p P hP)
 have e3 : (∀ i, i < x.cs.length → (firstF (corF' x i)).n = 0) ↔ ∀ (p : Nat) (P : Core), x.cs[p]? = some P → GC x p P := by
  constructor
  ·
   intro h p P hP
   have := h p (List.getElem?_eq_some_iff.1 hP).1
   unfold corF' at this
   rw [hP] at this
   exact corF_n.1 this
  ·
   intro h p hp
   obtain ⟨P, hP⟩ : ∃ P, x.cs[p]? = some P := ⟨_, List.getElem?_eq_getElem hp⟩
   unfold corF'
   rw [hP]
   exact corF_n.2 (h p P hP)
 rw [e1, e2, e3]
 constructor
 ·
  rintro ⟨a1, a2, a3, a4, a5, a6, a7, a8, a9⟩
  exact ⟨a1, a2, by omega, by omega, by omega, a6, a7, a8, a9⟩
 ·
  intro h
  exact ⟨h.frames, h.major, by have := h.cs; omega, by have := h.ps; omega, by have := h.hs; omega, h.gp, h.gh, h.gc, h.ker⟩
end Go.Proofs.YtglhfijgnfignaaGreat
