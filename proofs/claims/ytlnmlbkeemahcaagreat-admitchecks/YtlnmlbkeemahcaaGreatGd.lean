import Derived.Test.YtlnmlbkeemahcaaGreatQz
namespace Go.Proofs.YtlnmlbkeemahcaaGreat
open Go.RowKit
set_option linter.unusedVariables false
set_option linter.unusedSimpArgs false
set_option maxRecDepth 6000
set_option maxHeartbeats 4000000 in
theorem questions_any (x : Cfg) (N : Nat) : Makes 23 #[x.v] (Env x N []) (chk x) := by
 intro w hE
 obtain ⟨W, hW⟩ : ∃ W, W = x.laid w := ⟨_, rfl⟩
 obtain ⟨C, hC⟩ : ∃ C, C = w.heap.size := ⟨_, rfl⟩
 have hE1 : Env x N [(C, x.vs, 26)] W := by rw [hW, hC]; exact hE.box _ _
 obtain ⟨W2, hW2⟩ : ∃ W2, W2 = W.alloc (.cells #[.int .i64 (-1), .int .i64 (-1)] 34) := ⟨_, rfl⟩
 obtain ⟨A, hA⟩ : ∃ A, A = w.heap.size + 1 := ⟨_, rfl⟩
 have hA0 : A = W.heap.size := by rw [hA, hW]; simp [Cfg.laid]
 have HA0 : Hid (A = W.heap.size) := hA0
 have hE2 : Env x N [(A, [.int .i64 (-1), .int .i64 (-1)], 34), (C, x.vs, 26)] W2 := by rw [hW2, hA0]; exact hE1.box _ _
 have k2 : KF w W2 := by rw [hW2, hW]; exact ((Keeps.refl _ _).alloc _).alloc _
 have HF : Hid (MkP (chk x) w (.returned (.slice (some ⟨W2.heap.size, 0, none⟩) 9 9)) (W2.alloc (.cells #[.func (.func 34) #[] #[.pointer (some ⟨C, 0, none⟩), .pointer (some ⟨A, 0, none⟩)], .func (.func 37) #[] #[.pointer (some ⟨C, 0, none⟩), .pointer (some ⟨A, 0, none⟩)], .func (.func 38) #[] #[.pointer (some ⟨C, 0, none⟩), .pointer (some ⟨A, 0, none⟩)], .func (.func 39) #[] #[.pointer (some ⟨C, 0, none⟩), .pointer (some ⟨A, 0, none⟩)], .func (.func 40) #[] #[.pointer (some ⟨C, 0, none⟩), .pointer (some ⟨A, 0, none⟩)], .func (.func 41) #[] #[.pointer (some ⟨C, 0, none⟩)], .func (.func 45) #[] #[.pointer (some ⟨C, 0, none⟩)], .func (.func 48) #[] #[.pointer (some ⟨C, 0, none⟩)], .func (.func 51) #[] #[.pointer (some ⟨C, 0, none⟩), .pointer (some ⟨A, 0, none⟩)]] 81))) :=
  MkP.of (cfgQs x N C A _ rfl) (k2.trans ((Keeps.refl (fun _ => False) _).alloc _) fun _ _ h => h) (Blk.new _ _ _) (hE2.kept ((Keeps.refl _ _).alloc _)) rfl rfl
 unfold Cfg.laid at hW
 clear hE hE1 hA0 hE2 k2
 go_enter Tryz.func23, Tryz.ntmps23
 go_upto_region 1 with fail
 rw [← hW, ← hC]
 clear hC hW hA
 go_upto_region 2 with fail
 rw [← hW2, ← HA0.out]
 clear hW2
 go_wp2
 go_ret
 exact HF.out
theorem results_two_cell {P : Program} {fn : Func} {p u : Tmp} {ty : TypeId} (h : fn.results = #[.tmp u, .cell p ty]) (tmps : Array Value) (w : World) (g : Nat) (t : TypeId) (cs : Array Value) (fr : Nat × Nat) (d : TypeDesc)
  (hp : tmps.getD p undef = .pointer (some ⟨g, 0, none⟩)) (hg : w.heap[g]? = some (.cells cs t fr))
  (hu : P.underlying ty = some d) (hd : (match d with | .struct _ | .array _ _ => true | _ => false) = true) (hi : (P.info? ty).map (·.size) = some cs.size) :
  (results fn tmps).run P w = .ok (.tuple #[tmps.getD u undef, .agg cs]) w := by
 have hp' : tmps[p]?.getD undef = .pointer (some ⟨g, 0, none⟩) := by simpa using hp
 simp [results, h, hp', asAddr, run_loadVar_row w g t ty cs fr d hg hu hd hi]
theorem Tryz.size34 : (Tryz.prog.info? 34).map (·.size) = some 2 := by kernel_rfl
theorem all29 (n a : Int) : (#[Value.int .i64 n, .int .i64 a] : Array Value).all (fun v => v.oneCell') = true := by kernel_rfl
theorem set2 {w : World} {C : Nat} {a0 a1 : Value} {t : TypeId} (hB : Blk w C [a0, a1] t) (v0 v1 : Value) :
  Blk ((w.setCell ⟨C, 0, none⟩ v0).setCell ⟨C, 1, none⟩ v1) C [v0, v1] t ∧ Keeps (fun k => k = C) w ((w.setCell ⟨C, 0, none⟩ v0).setCell ⟨C, 1, none⟩ v1) :=
 ⟨(hB.setCell 0 v0).setCell 1 v1, ((Keeps.refl (fun k => k = C) w).setCell ⟨C, 0, none⟩ v0 fun _ => rfl).setCell ⟨C, 1, none⟩ v1 fun _ => rfl⟩
def ChkP (x : Cfg) (w : World) (e : Ending) (w' : World) : Prop := e = .returned (.tuple #[.int .i64 (chk x).n, .agg #[.int .i64 (chk x).a, .int .i64 (chk x).b]]) ∧ KF w w'
set_option maxHeartbeats 4000000 in
theorem Check_any (x : Cfg) (w : World) (N : Nat) (hi : x.In w N) (hN : N ≤ w.heap.size) : Calls Tryz.prog 6 #[x.v] w (ChkP x w) := by
 have HO1 := One.mk' hi hN
 obtain ⟨W0, hW0⟩ : ∃ W0, W0 = x.laid w := ⟨_, rfl⟩
 obtain ⟨C, hC⟩ : ∃ C, C = w.heap.size := ⟨_, rfl⟩
 rw [← hW0, ← hC] at HO1
 obtain ⟨W, hW⟩ : ∃ W, W = W0.alloc (.cells #[.int .i64 0, .int .i64 0] 34) := ⟨_, rfl⟩
 obtain ⟨R, hR⟩ : ∃ R, R = w.heap.size + 1 := ⟨_, rfl⟩
 have hR0 : R = W0.heap.size := by rw [hR, hW0]; simp [Cfg.laid]
 have HO : Hid (One w x C N W ∧ Blk W R [.int .i64 0, .int .i64 0] 34 ∧ w.heap.size ≤ R) := by
  rw [hW]; exact ⟨HO1.kept ((Keeps.refl _ _).alloc _), by rw [hR0]; exact Blk.new _ _ _, by omega⟩
 have HQ : Hid (Calls Tryz.prog 23 #[x.v] W (MkP (chk x) W)) := questions_any x N W ⟨HO.out.1.cin, HO.out.1.nn, fun b hb => by cases hb⟩
 obtain ⟨q0, q1, q2, q3, q4, q5, q6⟩ := HO.out.1.cells
 unfold Cfg.laid at hW0
 clear hi hN HO1 hR0
 go_enter Tryz.func6, Tryz.ntmps6
 go_upto_region 1 with fail
 rw [← hW0, ← hW, ← hR, ← hC]
 clear hW hR hC hW0
 go_wp2_with fail
 refine HQ.out.mono ?_
 rintro e w1 ⟨k, g, t, qs, E', rfl, hB, hE', hQ, hv⟩
 have HC1 : Hid (Calls Tryz.prog 22 #[.slice (some ⟨g, 0, none⟩) qs.length qs.length] w1 fun e w' => e = .returned (chk x).v ∧ KF w1 w') := by rw [← hv]; exact firstFault_any qs E' g t hQ w1 hE' hB
 have HO2 : Hid (One w x C N w1 ∧ Blk w1 R [.int .i64 0, .int .i64 0] 34) := ⟨HO.out.1.kept k, HO.out.2.1.kept k fun h => h⟩
 obtain ⟨n, hn⟩ : ∃ n, qs.length = n := ⟨_, rfl⟩
 rw [hn] at HC1 ⊢
 clear k hB hE' hQ hv hn q0 q1 q2 q3 q4 q5 q6 HQ
 go_wp2_with fail
 refine HC1.out.mono ?_
 rintro e w2 ⟨rfl, hK⟩
 have HO3 : Hid (One w x C N w2 ∧ Blk w2 R [.int .i64 0, .int .i64 0] 34) := ⟨HO2.out.1.kept hK, HO2.out.2.kept hK fun h => h⟩
 obtain ⟨F, hF⟩ : ∃ F, chk x = F := ⟨_, rfl⟩
 have HF : Hid (chk x = F) := hF
 rw [hF]
 clear hK hF HC1 HO2
 obtain ⟨fn, fa, fb⟩ := F
 obtain ⟨W3, hW3⟩ : ∃ W3, W3 = w2.alloc (.cells #[.int .i64 fn, .int .i64 fa, .int .i64 fb] 65) := ⟨_, rfl⟩
 obtain ⟨D, hD⟩ : ∃ D, D = w2.heap.size := ⟨_, rfl⟩
 have HO4 : Hid (One w x C N W3.drew ∧ Blk W3.drew R [.int .i64 0, .int .i64 0] 34 ∧ Blk W3.drew D [.int .i64 fn, .int .i64 fa, .int .i64 fb] 65 ∧ D ≠ R) := by
  have hl := HO3.out.2.lt
  rw [hW3, hD]
  exact ⟨HO3.out.1.kept (((Keeps.refl _ _).alloc _).drew), HO3.out.2.kept (((Keeps.refl (fun _ => False) _).alloc _).drew) fun h => h, (Blk.new _ _ _).kept ((Keeps.refl (fun _ => False) _).drew) fun h => h, by omega⟩
 have d0 := HO4.out.2.2.1.cell (i := 0) rfl
 have d1 := HO4.out.2.2.1.cell (i := 1) rfl
 have d2 := HO4.out.2.2.1.cell (i := 2) rfl
 go_upto_region 2 with fail
 rw [← hW3, ← hD]
 clear hW3 hD
 refine wp_region_held_drew (S := (fun w' => w'.cell? ⟨D, 0, none⟩ = some (.int .i64 fn) ∧ w'.cell? ⟨D, 1, none⟩ = some (.int .i64 fa) ∧ w'.cell? ⟨D, 2, none⟩ = some (.int .i64 fb))) Tryz.mixd ⟨d0, d1, d2⟩ (fun hHeld => ?_)
 simp only [t1, t2, List.length_nil, Nat.reduceAdd, t4, Array.replicate_zero, t6, List.append_toArray, List.nil_append, t8]
 refine tk 0 (.pointer (some ⟨D, 0, none⟩)) hHeld ?_
 refine tk 1 (.int .i64 fn) hHeld ?_
 refine tk 2 (.pointer (some ⟨D, 1, none⟩)) hHeld ?_
 refine tk 3 (.agg #[.int .i64 fa, .int .i64 fb]) hHeld ?_
 refine tk 4 (.int .i64 fn) hHeld ?_
 simp only [Act.put, s1, s2, s3]
 refine rd 5 fun K hK => ?_
 refine wp_store_row 34 _ _ rfl R #[.int .i64 fa, .int .i64 fb] (by rfl) (by rfl) 34 _ HO4.out.2.1 Tryz.size34 rfl (all29 ..) ?_
 obtain ⟨W5, hW5⟩ : ∃ W5, W5 = W3.drew.setRow R #[.int .i64 fa, .int .i64 fb] := ⟨_, rfl⟩
 have hB5 : Blk W5 R [.int .i64 fa, .int .i64 fb] 34 := by rw [hW5]; exact Blk.setRow HO4.out.2.1 _
 have k5 : Keeps (fun k => k = R) W3.drew W5 := by rw [hW5]; exact (Keeps.refl _ _).setRow _ _ fun _ => rfl
 have hlo := HO.out.2.2
 have hd5 : Blk W5 D [.int .i64 fn, .int .i64 fa, .int .i64 fb] 65 := HO4.out.2.2.1.kept k5 HO4.out.2.2.2
 have HO5 : Hid (Blk W5 R [.int .i64 fa, .int .i64 fb] 34 ∧ KF w W5) := ⟨hB5, HO4.out.1.keeps.trans k5 fun k hk e => by omega⟩
 have hS5 : W5.cell? ⟨D, 0, none⟩ = some (.int .i64 fn) ∧ W5.cell? ⟨D, 1, none⟩ = some (.int .i64 fa) ∧ W5.cell? ⟨D, 2, none⟩ = some (.int .i64 fb) := ⟨hd5.cell rfl, hd5.cell rfl, hd5.cell rfl⟩
 rw [← hW5]
 clear hW5 hB5 k5 hlo hd5
 refine hK.out _ _ hS5 (fun hHeld => ?_)
 simp only [Act.put, s1, s2, s3]
 refine wpAnyH_done (by kernel_rfl) ?_ _
 clear hHeld hS5
 go_wp2
 (try simp only [Exit.inBlock, Exit.then])
 refine bodyPost_ret (results_two_cell rfl _ _ R 34 _ (0, 0) _ rfl HO5.out.1 Tryz.underlying34 rfl (by kernel_rfl)) rfl ?_
 exact ⟨by rw [HF.out]; rfl, HO5.out.2⟩
structure GP (x : Cfg) (p : Nat) (P : Par) : Prop where
 name : nameB P.name = true
 other : ∀ Q ∈ x.ps.take p, (Q.name.toList == P.name.toList) = false
 act : inR P.action 0 2 = true ∧ inR P.restarts 0 15 = true
 dev : inR P.inputs 0 16 = true ∧ inR P.outputs 0 16 = true
 rlen : 1 ≤ P.rs.length ∧ P.rs.length ≤ 8
 rok : ∀ r ∈ P.rs, r.okB x.frames = true
 pages : P.rs.Pairwise fun s r => s.pg.meets r.pg = false
 frames : P.rs.Pairwise fun s r => s.fr.meets r.fr = false
 ahead : ∀ Q ∈ x.ps.take p, ∀ s ∈ Q.rs, ∀ r ∈ P.rs, s.fr.meets r.fr = false
 beg : P.begB = true
 plen : P.ps.length ≤ 8
 pch : ∀ t ∈ P.ps, 0 ≤ t.ch ∧ t.ch < x.hs.length
structure GH (x : Cfg) (n : Nat) (h : Chn) : Prop where
 ok : h.okB = true
 src : cntQ ⟨n, true⟩ x.ps = 1
 dst : 1 ≤ cntQ ⟨n, false⟩ x.ps ∧ (cntQ ⟨n, false⟩ x.ps : Int) ≤ h.most
structure GC (x : Cfg) (n : Nat) (X : Core) : Prop where
 len : 1 ≤ X.ws.length ∧ X.ws.length ≤ 16
 par : ∀ y ∈ X.ws, -1 ≤ y.p ∧ y.p < x.ps.length
 use : ∀ y ∈ X.ws, 1 ≤ y.u ∧ y.u ≤ 16384
 slk : ∀ y ∈ X.ws, 82 ≤ y.s ∧ y.s ≤ 16384
 one : ∀ y ∈ X.ws, hasW y.p (x.cs.take n) = false
 sum : cyc X.ws = x.major
structure Gd (x : Cfg) : Prop where
 frames : 1 ≤ x.frames ∧ x.frames ≤ 1024
 major : 1 ≤ x.major ∧ x.major ≤ 16384
 cs : 1 ≤ x.cs.length ∧ x.cs.length ≤ 4
 ps : 1 ≤ x.ps.length ∧ x.ps.length ≤ 8
 hs : x.hs.length ≤ 16
 gp : ∀ (p : Nat) (P : Par), x.ps[p]? = some P → GP x p P
 gh : ∀ (n : Nat) (h : Chn), x.hs[n]? = some h → GH x n h
 gc : ∀ (n : Nat) (X : Core), x.cs[n]? = some X → GC x n X
 ker : x.kerB = true
theorem firstF_range {n : Nat} {f : Nat → Flt} : (firstF ((List.range n).map f)).n = 0 ↔ ∀ i, i < n → (f i).n = 0 := by
 rw [firstF_eq0]
 constructor
 ·
  intro h i hi
  exact h _ (List.mem_map.2 ⟨i, List.mem_range.2 hi, rfl⟩)
 ·
  intro h g hg
  obtain ⟨i, hi, rfl⟩ := List.mem_map.1 hg
  exact h i (List.mem_range.1 hi)
theorem pairwise_take {α : Type} {R : α → α → Prop} {l : List α} : l.Pairwise R ↔ ∀ (i : Nat) (r : α), l[i]? = some r → ∀ s ∈ l.take i, R s r := by
 rw [List.pairwise_iff_getElem]
 constructor
 ·
  intro h i r hr s hs
  obtain ⟨hi, rfl⟩ := List.getElem?_eq_some_iff.1 hr
  obtain ⟨j, hj, rfl⟩ := List.getElem_of_mem hs
  rw [List.length_take] at hj
  rw [List.getElem_take]
  exact h j i (by omega) hi (by omega)
 ·
  intro h i j hi hj hij
  refine h j l[j] (List.getElem?_eq_getElem hj) _ ?_
  have : (l.take j)[i]'(by rw [List.length_take]; omega) = l[i] := List.getElem_take
  rw [← this]
  exact List.getElem_mem _
theorem rgnF_n {x : Cfg} {p : Nat} {P : Par} {i : Nat} {r : Rgn} : (firstF (rgnF x p P i r)).n = 0 ↔ r.okB x.frames = true ∧ (∀ s ∈ P.rs.take i, s.pg.meets r.pg = false) ∧ (∀ s ∈ P.rs.take i, s.fr.meets r.fr = false) ∧ (∀ Q ∈ x.ps.take p, ∀ s ∈ Q.rs, s.fr.meets r.fr = false) := by
 rw [firstF_eq0]
 simp only [rgnF, List.mem_cons, List.not_mem_nil, or_false, forall_eq_or_imp, forall_eq]
 rw [unl_n (by simp), unl_n (by simp), unl_n (by simp), unl_n (by simp)]
 simp only [Bool.not_eq_true', List.any_eq_false, Bool.not_eq_true]
theorem rgnsF_n {x : Cfg} {p : Nat} {P : Par} : (rgnsF x p P).n = 0 ↔ (∀ r ∈ P.rs, r.okB x.frames = true) ∧ (P.rs.Pairwise fun s r => s.pg.meets r.pg = false) ∧ (P.rs.Pairwise fun s r => s.fr.meets r.fr = false) ∧ (∀ Q ∈ x.ps.take p, ∀ s ∈ Q.rs, ∀ r ∈ P.rs, s.fr.meets r.fr = false) := by
 unfold rgnsF
 rw [firstF_range, pairwise_take, pairwise_take]
 constructor
 ·
  intro h
  have h' : ∀ (i : Nat) (r : Rgn), P.rs[i]? = some r → (firstF (rgnF x p P i r)).n = 0 := fun i r hr => by
   have := h i (List.getElem?_eq_some_iff.1 hr).1
   unfold rgnF' at this
   rw [hr] at this
   exact this
  refine ⟨fun r hr => ?_, fun i r hr => (rgnF_n.1 (h' i r hr)).2.1, fun i r hr => (rgnF_n.1 (h' i r hr)).2.2.1, fun Q hQ s hs r hr => ?_⟩
  ·
   obtain ⟨i, hi⟩ := List.getElem?_of_mem hr
   exact (rgnF_n.1 (h' i r hi)).1
  ·
   obtain ⟨i, hi⟩ := List.getElem?_of_mem hr
   exact (rgnF_n.1 (h' i r hi)).2.2.2 Q hQ s hs
 ·
  rintro ⟨h1, h2, h3, h4⟩ i hi
  obtain ⟨r, hr⟩ : ∃ r, P.rs[i]? = some r := ⟨_, List.getElem?_eq_getElem hi⟩
  unfold rgnF'
  rw [hr]
  have hm := List.mem_of_getElem? hr
  exact rgnF_n.2 ⟨h1 r hm, h2 i r hr, h3 i r hr, fun Q hQ s hs => h4 Q hQ s hs r hm⟩
theorem prtsF_n {x : Cfg} {p : Nat} {P : Par} : (prtsF x p P).n = 0 ↔ ∀ t ∈ P.ps, 0 ≤ t.ch ∧ t.ch < x.hs.length := by
 unfold prtsF
 rw [firstF_range]
 have key : ∀ (i : Nat) (t : Prt), P.ps[i]? = some t → ((firstF (prtF' x p P i)).n = 0 ↔ 0 ≤ t.ch ∧ t.ch < x.hs.length) := fun i t ht => by
  unfold prtF'
  rw [ht]
  show (firstF (prtF x p i t)).n = 0 ↔ _
  rw [firstF_eq0]
  simp only [prtF, List.mem_cons, List.not_mem_nil, or_false, forall_eq]
  rw [unl_n (by simp), inR_iff]
  omega
 constructor
 ·
  intro h t ht
  obtain ⟨i, hi⟩ := List.getElem?_of_mem ht
  exact (key i t hi).1 (h i (List.getElem?_eq_some_iff.1 hi).1)
 ·
  intro h i hi
  obtain ⟨t, ht⟩ : ∃ t, P.ps[i]? = some t := ⟨_, List.getElem?_eq_getElem hi⟩
  exact (key i t ht).2 (h t (List.mem_of_getElem? ht))
theorem parF_n {x : Cfg} {p : Nat} {P : Par} : (firstF (parF x p P)).n = 0 ↔ GP x p P := by
 rw [firstF_eq0]
 simp only [parF, List.mem_cons, List.not_mem_nil, or_false, forall_eq_or_imp, forall_eq]
 rw [unl_n (by simp), unl_n (by simp), unl_n (by simp), unl_n (by simp), unl_n (by simp), unl_n (by simp), rgnsF_n, prtsF_n]
 simp only [Bool.and_eq_true, Bool.not_eq_true', List.any_eq_false, Bool.not_eq_true, inR_iff, decide_eq_true_eq]
 constructor
 ·
  rintro ⟨⟨a1, a2⟩, a3, a4, a5, ⟨a6, a7, a8, a9⟩, a10, a11, a12⟩
  exact ⟨a1, a2, ⟨inR_iff.2 a3.1, inR_iff.2 a3.2⟩, ⟨inR_iff.2 a4.1, inR_iff.2 a4.2⟩, by omega, a6, a7, a8, a9, a10, by omega, a12⟩
 ·
  intro h
  exact ⟨⟨h.name, h.other⟩, ⟨inR_iff.1 h.act.1, inR_iff.1 h.act.2⟩, ⟨inR_iff.1 h.dev.1, inR_iff.1 h.dev.2⟩, by have := h.rlen; omega, ⟨h.rok, h.pages, h.frames, h.ahead⟩, h.beg, by have := h.plen; omega, h.pch⟩
end Go.Proofs.YtlnmlbkeemahcaaGreat
