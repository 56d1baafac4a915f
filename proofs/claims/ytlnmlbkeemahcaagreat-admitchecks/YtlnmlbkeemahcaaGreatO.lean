import Derived.Test.YtlnmlbkeemahcaaGreatQ
namespace Go.Proofs.YtlnmlbkeemahcaaGreat
open Go.RowKit
set_option linter.unusedVariables false
set_option linter.unusedSimpArgs false
set_option maxRecDepth 6000
variable {f : Nat} {bs : Array Value} {S : Nat → Prop} {J : World → Int → List (Ow × Int) → Prop}
theorem step_make {P : Program} {w : World} {ops : Array Oper} {o : Oper} {a : Act} {K : Act → World → Prop} {Q : Exit → Act → World → Prop} {E : Prop} (hgd : o.guard = none) (s x : Operand) (t : TypeId)
  (ho : o.op = .makeSlice t s x) (vs vx v' : Value) (w' : World) (hs : a.eval s = vs) (hx : a.eval x = vx)
  (hr : (Instr.makeSlice t vs vx).run P w = .ok v' w') (h : K (a.put o.dst v') w') : if Region.wanted o (yielded ops a.tmps) = true then Oper.wp P o a w K Q else E := by
 have hw : Region.wanted o (yielded ops a.tmps) = true := by simp [Region.wanted, hgd]
 rw [if_pos hw]
 unfold Oper.wp execOp
 simp only [ho, hs, hx, Sem.run_bind, hr, Result.andThen_ok, Sem.run_pure]
 exact h
theorem Tryz.size92 : (Tryz.prog.info? 92).map (·.size) = some 4 := by kernel_rfl
theorem all30 (n1 n2 : Int) (a1 a2 : Option Addr) (m1 c1 m2 c2 : Nat) : (#[Value.int .i64 n1, .slice a1 m1 c1, .slice a2 m2 c2, .int .i64 n2] : Array Value).all (fun v => v.oneCell') = true := by kernel_rfl
structure LB (a : Int) (x : Cfg) (b1 b2 b5 C : Nat) (w : World) : Prop where
 l : Blk w b5 [.int .i64 a, .slice (some ⟨b1, 0, none⟩) x.ps.length x.ps.length, .slice (some ⟨b2, 0, none⟩) x.hs.length x.hs.length, .int .i64 0] 92
 lo : C + 2 ≤ b5
 n1 : b5 ≠ b1
 n2 : b5 ≠ b2
theorem LS.stored {w w' : World} {x : Cfg} {C N b1 b2 b5 : Nat} {a : Int} {hist : List (Ow × Int)} (hD : Dl f bs S J) (h : LS w x C N S J a hist true true true true b1 b2 b5 w') :
  LS w x C N S J a hist true true true false b1 b2 b5 (w'.setRow b5 #[.int .i64 a, .slice (some ⟨b1, 0, none⟩) x.ps.length x.ps.length, .slice (some ⟨b2, 0, none⟩) x.hs.length x.hs.length, .int .i64 0]) ∧
  LB a x b1 b2 b5 C (w'.setRow b5 #[.int .i64 a, .slice (some ⟨b1, 0, none⟩) x.ps.length x.ps.length, .slice (some ⟨b2, 0, none⟩) x.hs.length x.hs.length, .int .i64 0]) := by
 obtain ⟨W, hW⟩ : ∃ W, W = w'.setRow b5 #[.int .i64 a, .slice (some ⟨b1, 0, none⟩) x.ps.length x.ps.length, .slice (some ⟨b2, 0, none⟩) x.hs.length x.hs.length, .int .i64 0] := ⟨_, rfl⟩
 have hK : Keeps (fun k => k = b5) w' W := by rw [hW]; exact (Keeps.refl _ _).setRow _ _ fun _ => rfl
 have hB : Blk W b5 [.int .i64 a, .slice (some ⟨b1, 0, none⟩) x.ps.length x.ps.length, .slice (some ⟨b2, 0, none⟩) x.hs.length x.hs.length, .int .i64 0] 92 := by rw [hW]; exact (h.m5 rfl).1.setRow _
 rw [← hW]
 have h5 := (h.m5 rfl).2
 have n15 := h.n15 rfl rfl
 have n25 := h.n25 rfl rfl
 have hcw := h.cw
 have hn := h.n
 have hsz := h.sz
 refine ⟨⟨h.cfg.kept hK (by omega), h.res.kept hK (by omega), h.kp.trans hK fun k hk e => absurd hk (by omega), h.cin.below (hK.below (by omega) fun k e => by omega), h.cw, h.n, h.low, Nat.le_trans h.sz hK.size, ?_, fun e => ⟨(h.m1 e).1.kept hK n15, (h.m1 e).2⟩, fun e => ⟨(h.m2 e).1.kept hK n25, (h.m2 e).2⟩, (fun e => by cases e), h.n12, (fun _ e => by cases e), (fun _ e => by cases e)⟩, ⟨hB, h5, fun e => n15 e.symm, fun e => n25 e.symm⟩⟩
 exact hD.kept h.jj hK fun k hk e => by have := (h.low k hk).2; omega
theorem set4 {w : World} {C : Nat} {a0 a1 a2 a3 : Value} {t : TypeId} (hB : Blk w C [a0, a1, a2, a3] t) (v0 v1 v2 v3 : Value) :
  Blk ((((w.setCell ⟨C, 0, none⟩ v0).setCell ⟨C, 1, none⟩ v1).setCell ⟨C, 2, none⟩ v2).setCell ⟨C, 3, none⟩ v3) C [v0, v1, v2, v3] t ∧
  Keeps (fun k => k = C) w ((((w.setCell ⟨C, 0, none⟩ v0).setCell ⟨C, 1, none⟩ v1).setCell ⟨C, 2, none⟩ v2).setCell ⟨C, 3, none⟩ v3) := by
 have b1 := hB.setCell 0 v0
 have b2 := b1.setCell 1 v1
 have b3 := b2.setCell 2 v2
 have b4 := b3.setCell 3 v3
 have k0 := Keeps.refl (fun k => k = C) w
 have k1 := k0.setCell ⟨C, 0, none⟩ v0 fun _ => rfl
 have k2 := k1.setCell ⟨C, 1, none⟩ v1 fun _ => rfl
 have k3 := k2.setCell ⟨C, 2, none⟩ v2 fun _ => rfl
 have k4 := k3.setCell ⟨C, 3, none⟩ v3 fun _ => rfl
 exact ⟨b4, k4⟩
theorem Tryz.size116 : (Tryz.prog.info? 116).map (·.size) = some 5 := by kernel_rfl
theorem one55 (p : PP) (h : p.tv = .slice none 0 0) : ∀ v ∈ p.vs, v.oneCell' = true := by
 intro v hv
 simp only [PP.vs, h, List.mem_cons, List.not_mem_nil, or_false] at hv
 rcases hv with rfl | rfl | rfl | rfl | rfl <;> rfl
theorem one59 (p : CP) (a : Option Addr) (n c : Nat) (h : p.dv = .slice a n c) : ∀ v ∈ p.vs, v.oneCell' = true := by
 intro v hv
 simp only [CP.vs, h, List.mem_cons, List.not_mem_nil, or_false] at hv
 rcases hv with rfl | rfl | rfl | rfl | rfl <;> rfl
theorem upd_nil {α : Type} (j : Nat) : upd (fun _ => ([] : List α)) j [] = fun _ => [] := by funext i; unfold upd; split <;> rfl
def chB (x : Cfg) (a : Int) : Int := a + 2 + 24 * (x.ps.length : Int)
def chE (x : Cfg) (a : Int) : Int := chAt x (chB x a) x.hs.length
def rtB (x : Cfg) (a : Int) : Int := chE x a + fillN (chE x a)
def layH (x : Cfg) (a : Int) : List (Ow × Int) := [(⟨2, 0, 0⟩, 2)] ++ partH x.ps.length ++ chansH x x.hs.length ++ fillH (chE x a) ++ tabsH x x.ps.length ++ [(⟨0, 0, 0⟩, 0)]
def ppA (a : Int) (j : Nat) : Nat → PP := fun i => if i < j then ⟨a + 24 * i, a + 24 * i + 2, a + 24 * i + 2 + 17, 0, .slice none 0 0⟩ else PP.z
theorem ppA_succ (a : Int) (j : Nat) : upd (ppA a j) j ⟨a + 24 * j, a + 24 * j + 2, a + 24 * j + 2 + 17, 0, .slice none 0 0⟩ = ppA a (j + 1) := by
 funext i
 unfold upd ppA
 by_cases e : i = j
 ·
  subst e; simp
 ·
  rw [if_neg e]
  by_cases h : i < j
  ·
   rw [if_pos h, if_pos (by omega)]
  ·
   rw [if_neg h, if_neg (by omega)]
def GOK (x : Cfg) (b : Int) (n : Nat) (G : Nat → CP) (D : Nat → List Dst) : Prop :=
 ∀ i, i < n → ∃ s h, endsL true i x.ps x.ps.length = [s] ∧ x.hs[i]? = some h ∧ (G i).lock = chAt x b i ∧ (G i).stage = chAt x b i + 2 ∧ (G i).sp = s.p ∧ (G i).sq = s.q ∧ D i = placed (dstsOf x i) (chAt x b i + 2 + h.stg) h.prt (dstsOf x i).length
def FOK (x : Cfg) (a b : Int) (n : Nat) (F : Nat → PP) (T : Nat → List Int) : Prop :=
 ∀ i, i < x.ps.length → (F i).lock = a + 24 * i ∧ (F i).save = a + 24 * i + 2 ∧ (F i).state = a + 24 * i + 2 + 17 ∧ (i < n → ∃ P, x.ps[i]? = some P ∧ (F i).root = rtAt x b i / 16 ∧ T i = tabL (rtAt x b i) (cntT P.rs 16))
theorem GOK.next {x : Cfg} {b : Int} {n : Nat} {G : Nat → CP} {D : Nat → List Dst} (hG : GOK x b n G D) {s : Dst} {h : Chn} (hs : endsL true n x.ps x.ps.length = [s]) (hh : x.hs[n]? = some h) (dv : Value) :
  GOK x b (n + 1) (upd G n ⟨chAt x b n, chAt x b n + 2, s.p, s.q, dv⟩) (upd D n (placed (dstsOf x n) (chAt x b n + 2 + h.stg) h.prt (dstsOf x n).length)) := by
 intro i hi
 by_cases e : i = n
 ·
  subst e; exact ⟨s, h, hs, hh, by rw [upd_same], by rw [upd_same], by rw [upd_same], by rw [upd_same], by rw [upd_same]⟩
 ·
  rw [upd_ne _ _ e, upd_ne _ _ e]; exact hG i (by omega)
theorem FOK.next {x : Cfg} {a b : Int} {n : Nat} {F : Nat → PP} {T : Nat → List Int} (hF : FOK x a b n F T) {P : Par} (hP : x.ps[n]? = some P) (tv : Value) :
  FOK x a b (n + 1) (upd (upd F n { F n with root := rtAt x b n / 16 }) n { upd F n { F n with root := rtAt x b n / 16 } n with tv := tv }) (upd T n (tabL (rtAt x b n) (cntT P.rs 16))) := by
 intro i hi
 obtain ⟨h1, h2, h3, h4⟩ := hF i hi
 by_cases e : i = n
 ·
  subst e; exact ⟨by simpa [upd] using h1, by simpa [upd] using h2, by simpa [upd] using h3, fun _ => ⟨P, hP, by simp [upd], by simp [upd]⟩⟩
 ·
  rw [upd_ne _ _ e, upd_ne _ _ e, upd_ne _ _ e]
  exact ⟨h1, h2, h3, fun h => h4 (by omega)⟩
structure LD (x : Cfg) (lo b1 b2 : Nat) (F : Nat → PP) (G : Nat → CP) (T : Nat → List Int) (D : Nat → List Dst) (w' : World) : Prop where
 p : Blk w' b1 (row5 (fun i => (F i).vs) x.ps.length) 116
 c : Blk w' b2 (row5 (fun i => (G i).vs) x.hs.length) 107
 lw : lo ≤ b1 ∧ lo ≤ b2 ∧ b1 ≠ b2
 tr : ∀ i, i < x.ps.length → Row eInt w' lo (F i).tv (T i) ∧ ∀ k, (F i).tv.ownBlock = some k → k ≠ b1 ∧ k ≠ b2
 dr : ∀ i, i < x.hs.length → Row eDst w' lo (G i).dv (D i) ∧ ∀ k, (G i).dv.ownBlock = some k → k ≠ b1 ∧ k ≠ b2
def LayP (J : World → Int → List (Ow × Int) → Prop) (S : Nat → Prop) (x : Cfg) (w : World) (a : Int) (hist : List (Ow × Int)) (e : Ending) (w' : World) : Prop :=
 ∃ b1 b2 F G T D, e = .returned (.agg #[.int .i64 a, .slice (some ⟨b1, 0, none⟩) x.ps.length x.ps.length, .slice (some ⟨b2, 0, none⟩) x.hs.length x.hs.length, .int .i64 (rtAt x (rtB x a) x.ps.length / 16)]) ∧
  LD x w.heap.size b1 b2 F G T D w' ∧ FOK x (a + 2) (rtB x a) x.ps.length F T ∧ GOK x (chB x a) x.hs.length G D ∧ J w' (rtAt x (rtB x a) x.ps.length) (hist ++ layH x a) ∧ Keeps S w w'
set_option maxHeartbeats 16000000 in
theorem lay_any (hD : Dl f bs S J) (x : Cfg) (hm : x.mayB = true) (w : World) (N : Nat) (hi : x.In w N) (hN : N ≤ w.heap.size) (a : Int) (hist : List (Ow × Int)) (hJ : J w a hist) (hS : ∀ k, S k → N ≤ k ∧ k < w.heap.size) (h00 : 0 ≤ a) (h1 : a ≤ 20000) :
  Calls Tryz.prog 122 #[x.v, .func (.func f) #[] bs] w (LayP J S x w a hist) := by
 have hent := hD.ent
 have HD : Hid (Dl f bs S J) := hD
 have HM : Hid (x.mayB = true) := hm
 have hb8 := (Cfg.mayB_iff.1 hm).2.2.1
 have hb16 := (Cfg.mayB_iff.1 hm).2.2.2.1
 have hpc : (x.ps.length : Int) ≤ x.pc ∧ (x.pc : Int) ≤ 9223372036854775807 := by have := hi.plen; unfold maxLen at this; omega
 have hhc : (x.hs.length : Int) ≤ x.hc ∧ (x.hc : Int) ≤ 9223372036854775807 := by have := hi.hlen; unfold maxLen at this; omega
 obtain ⟨W0, hW0⟩ : ∃ W0, W0 = (x.laid w).alloc (.cells #[.int .i64 0, .slice none 0 0, .slice none 0 0, .int .i64 0] 92) := ⟨_, rfl⟩
 obtain ⟨C, hC⟩ : ∃ C, C = w.heap.size := ⟨_, rfl⟩
 have HL0 : Hid (∀ b1 b2 b5, LS w x C N S J a hist false false false false b1 b2 b5 W0.drew) := by
  intro b1 b2 b5
  have k0 : KF w W0.drew := by rw [hW0]; exact (((Keeps.refl _ _).alloc _).alloc _).drew
  have hB0 : Blk W0 C x.vs 26 := by rw [hW0, hC]; exact (Blk.new w _ _).alloc _
  have hB1 : Blk W0 (C + 1) [.int .i64 0, .slice none 0 0, .slice none 0 0, .int .i64 0] 92 := by
   rw [hW0, hC]
   have := Blk.new (x.laid w) #[.int .i64 0, .slice none 0 0, .slice none 0 0, .int .i64 0] 92
   simpa [Cfg.laid] using this
  exact ⟨hB0.drew, hB1.drew, k0.mono fun _ _ h => h.elim, hi.keeps hN k0, hC, by omega, hS, by rw [hW0, hC]; simp [Cfg.laid], hD.kept hJ k0 fun _ _ h => h, (fun e => by cases e), (fun e => by cases e), (fun e => by cases e), (fun e => by cases e), (fun e => by cases e), (fun e => by cases e)⟩
 have hc5 := (HL0.out 0 0 0).cells.1
 have hc6 := (HL0.out 0 0 0).cells.2
 have HCN : Hid (∀ w', J w' a hist → Calls Tryz.prog f (#[Ow.v ⟨2, 0, 0⟩, .int .i64 2] ++ bs) w' fun e w'' => e = .returned (.int .i64 a) ∧ J w'' (a + 2) (hist ++ [(⟨2, 0, 0⟩, 2)]) ∧ Keeps S w' w'') := fun w' hj => hD.call w' a hist ⟨2, 0, 0⟩ 2 hj h00 (by omega) (by omega) (by omega)
 have MK1 : Hid (∀ w, (Instr.makeSlice 89 (.int .i64 x.ps.length) (.int .i64 x.ps.length)).run Tryz.prog w = .ok (.slice (some ⟨w.heap.size, 0, none⟩) x.ps.length x.ps.length) (w.alloc (.cells ((List.replicate x.ps.length z5).flatten).toArray 116))) := fun w => run_make55 w _ (by omega)
 have MK2 : Hid (∀ w, (Instr.makeSlice 90 (.int .i64 x.hs.length) (.int .i64 x.hs.length)).run Tryz.prog w = .ok (.slice (some ⟨w.heap.size, 0, none⟩) x.hs.length x.hs.length) (w.alloc (.cells ((List.replicate x.hs.length z5).flatten).toArray 107))) := fun w => run_make59 w _ (by omega)
 clear hD hJ hS hi hN hm
 unfold Cfg.laid at hW0
 go_enter Tryz.func122, Tryz.ntmps122
 go_upto_region 1 with fail
 rw [← hW0, ← hC]
 clear hW0 hC
 go_cut [5] from 10 to 22 (fun t wx => ∃ b1 b2 b5, t = .pointer (some ⟨b5, 0, none⟩) ∧ LS w x C N S J a hist true true true false b1 b2 b5 wx ∧ LB a x b1 b2 b5 C wx)
 case first =>
  refine wp_region_held_drew (S := (fun w' => w'.cell? ⟨C, 5, none⟩ = some (.slice x.pa x.ps.length x.pc) ∧ w'.cell? ⟨C, 6, none⟩ = some (.slice x.ha x.hs.length x.hc))) Tryz.mixed ⟨hc5, hc6⟩ (fun hHeld => ?_)
  simp only [t1, t2, List.length_nil, Nat.reduceAdd, t4, Array.replicate_zero, t6, List.append_toArray, List.nil_append, t8]
  refine tk 0 (.func (.func f) #[] bs) hHeld ?_
  refine tk 1 (.agg #[.int .i64 2, .int .i64 0, .int .i64 0]) hHeld ?_
  refine tk 3 (.pointer (some ⟨C, 5, none⟩)) hHeld ?_
  refine tk 4 (.slice x.pa x.ps.length x.pc) hHeld ?_
  refine tk 5 (.int .i64 x.ps.length) hHeld ?_
  refine tk 7 (.pointer (some ⟨C, 6, none⟩)) hHeld ?_
  refine tk 8 (.slice x.ha x.hs.length x.hc) hHeld ?_
  refine tk 9 (.int .i64 x.hs.length) hHeld ?_
  simp only [Act.put, s1, s2, s3]
  obtain ⟨w0, hw0⟩ : ∃ w0, w0 = W0.drew := ⟨_, rfl⟩
  have h0s := HL0.out
  rw [← hw0] at h0s ⊢
  clear hw0 hc5 hc6
  obtain ⟨b1, hb1⟩ : ∃ b : Nat, b = 0 := ⟨_, rfl⟩
  obtain ⟨b2, hb2⟩ : ∃ b : Nat, b = 0 := ⟨_, rfl⟩
  obtain ⟨b5, hb5⟩ : ∃ b : Nat, b = 0 := ⟨_, rfl⟩
  have h0 := h0s b1 b2 b5
  clear hb1 hb2 hb5 h0s
  refine wpAnyH_ready (rs := [2, 6, 10, 12]) (by kernel_rfl) (by simp) ?_
  refine (AllReadyH.cons (o := ⟨some 12, .call ⟨.value (.tmp 10), #[.tmp 11, .const (.int .i64 2)], #[111, 3]⟩, 3, "deal.go:34", #[⟨0, .data⟩, ⟨1, .data⟩], none⟩) rfl (fun K hK => ?_) (AllReadyH.cons (o := ⟨some 16, .makeSlice 89 (.tmp 15) (.tmp 15), 89, "deal.go:33", #[⟨5, .data⟩, ⟨5, .data⟩], none⟩) rfl (fun K hK => ?_) (AllReadyH.cons (o := ⟨some 20, .makeSlice 90 (.tmp 19) (.tmp 19), 90, "deal.go:33", #[⟨9, .data⟩, ⟨9, .data⟩], none⟩) rfl (fun K hK => ?_) (AllReadyH.cons (o := ⟨some 5, .alloc 92, 0, "deal.go:33", #[], none⟩) rfl (fun K hK => ?_) AllReadyH.nil))))
  ·
   go_simp
   refine (HCN.out _ h0.j0).mono ?_
   rintro r w1 ⟨rfl, hj, hKc⟩
   have h1 := h0.called hKc hj
   clear hj hKc h0
   refine hK.out _ _ h1.cells (fun hHeld => ?_)
   simp only [Act.put, s1, s2, s3]
   refine wpAnyH_ready (rs := [6, 10, 12]) (by kernel_rfl) (by simp) ?_
   refine (AllReadyH.cons (o := ⟨some 16, .makeSlice 89 (.tmp 15) (.tmp 15), 89, "deal.go:33", #[⟨5, .data⟩, ⟨5, .data⟩], none⟩) rfl (fun K hK => ?_) (AllReadyH.cons (o := ⟨some 20, .makeSlice 90 (.tmp 19) (.tmp 19), 90, "deal.go:33", #[⟨9, .data⟩, ⟨9, .data⟩], none⟩) rfl (fun K hK => ?_) (AllReadyH.cons (o := ⟨some 5, .alloc 92, 0, "deal.go:33", #[], none⟩) rfl (fun K hK => ?_) AllReadyH.nil)))
   ·
    refine step_make rfl (.tmp 15) (.tmp 15) 89 rfl _ _ _ _ rfl rfl (MK1.out _) ?_
    have h2 := h1.make1 HD.out
    obtain ⟨w2, hw⟩ : ∃ w2, w2 = w1.alloc (.cells ((List.replicate x.ps.length z5).flatten).toArray 116) := ⟨_, rfl⟩
    rw [← hw] at h2 ⊢
    clear hw h1 b1
    obtain ⟨b1, hb⟩ : ∃ b1, b1 = w1.heap.size := ⟨_, rfl⟩
    rw [← hb] at h2 ⊢
    clear hb
    refine hK.out _ _ h2.cells (fun hHeld => ?_)
    simp only [Act.put, s1, s2, s3]
    refine wpAnyH_ready (rs := [10, 12]) (by kernel_rfl) (by simp) ?_
    refine (AllReadyH.cons (o := ⟨some 20, .makeSlice 90 (.tmp 19) (.tmp 19), 90, "deal.go:33", #[⟨9, .data⟩, ⟨9, .data⟩], none⟩) rfl (fun K hK => ?_) (AllReadyH.cons (o := ⟨some 5, .alloc 92, 0, "deal.go:33", #[], none⟩) rfl (fun K hK => ?_) AllReadyH.nil))
    ·
     refine step_make rfl (.tmp 19) (.tmp 19) 90 rfl _ _ _ _ rfl rfl (MK2.out _) ?_
     have h3 := h2.make2 HD.out
     obtain ⟨w3, hw⟩ : ∃ w3, w3 = w2.alloc (.cells ((List.replicate x.hs.length z5).flatten).toArray 107) := ⟨_, rfl⟩
     rw [← hw] at h3 ⊢
     clear hw h2 b2
     obtain ⟨b2, hb⟩ : ∃ b2, b2 = w2.heap.size := ⟨_, rfl⟩
     rw [← hb] at h3 ⊢
     clear hb
     refine hK.out _ _ h3.cells (fun hHeld => ?_)
     simp only [Act.put, s1, s2, s3]
     refine tk 11 (.agg #[.int .i64 a, .slice (some ⟨b1, 0, none⟩) x.ps.length x.ps.length, .slice (some ⟨b2, 0, none⟩) x.hs.length x.hs.length, .int .i64 0]) hHeld ?_
     simp only [Act.put, s1, s2, s3]
     refine rd 12 fun K hK => ?_
     ·
      go_simp
      have h4 := h3.alloc5 HD.out
      obtain ⟨w4, hw⟩ : ∃ w4, w4 = w3.alloc (.cells #[.int .i64 0, .slice none 0 0, .slice none 0 0, .int .i64 0] 92) := ⟨_, rfl⟩
      rw [← hw] at h4 ⊢
      clear hw h3 b5
      obtain ⟨b5, hb⟩ : ∃ b5, b5 = w3.heap.size := ⟨_, rfl⟩
      rw [← hb] at h4 ⊢
      clear hb
      refine hK.out _ _ h4.cells (fun hHeld => ?_)
      simp only [Act.put, s1, s2, s3]
      refine rd 13 fun K hK => ?_
      refine wp_store_row 92 _ _ rfl b5 #[.int .i64 a, .slice (some ⟨b1, 0, none⟩) x.ps.length x.ps.length, .slice (some ⟨b2, 0, none⟩) x.hs.length x.hs.length, .int .i64 0] (by rfl) (by rfl) 92 _ (h4.m5 rfl).1 Tryz.size92 rfl (all30 ..) ?_
      have hl := h4.stored HD.out
      refine hK.out _ _ hl.1.cells (fun hHeld => ?_)
      simp only [Act.put, s1, s2, s3]
      refine wpAnyH_done (by kernel_rfl) ?_ _
      go_wp2_with fail
      go_meet
      exact ⟨b1, b2, b5, rfl, hl⟩
    ·
     go_simp
     have h3 := h2.alloc5 HD.out
     obtain ⟨w3, hw⟩ : ∃ w3, w3 = w2.alloc (.cells #[.int .i64 0, .slice none 0 0, .slice none 0 0, .int .i64 0] 92) := ⟨_, rfl⟩
     rw [← hw] at h3 ⊢
     clear hw h2 b5
     obtain ⟨b5, hb⟩ : ∃ b5, b5 = w2.heap.size := ⟨_, rfl⟩
     rw [← hb] at h3 ⊢
     clear hb
     refine hK.out _ _ h3.cells (fun hHeld => ?_)
     simp only [Act.put, s1, s2, s3]
     refine rd 10 fun K hK => ?_
     ·
      refine step_make rfl (.tmp 19) (.tmp 19) 90 rfl _ _ _ _ rfl rfl (MK2.out _) ?_
      have h4 := h3.make2 HD.out
      obtain ⟨w4, hw⟩ : ∃ w4, w4 = w3.alloc (.cells ((List.replicate x.hs.length z5).flatten).toArray 107) := ⟨_, rfl⟩
      rw [← hw] at h4 ⊢
      clear hw h3 b2
      obtain ⟨b2, hb⟩ : ∃ b2, b2 = w3.heap.size := ⟨_, rfl⟩
      rw [← hb] at h4 ⊢
      clear hb
      refine hK.out _ _ h4.cells (fun hHeld => ?_)
      simp only [Act.put, s1, s2, s3]
      refine tk 11 (.agg #[.int .i64 a, .slice (some ⟨b1, 0, none⟩) x.ps.length x.ps.length, .slice (some ⟨b2, 0, none⟩) x.hs.length x.hs.length, .int .i64 0]) hHeld ?_
      simp only [Act.put, s1, s2, s3]
      refine rd 13 fun K hK => ?_
      refine wp_store_row 92 _ _ rfl b5 #[.int .i64 a, .slice (some ⟨b1, 0, none⟩) x.ps.length x.ps.length, .slice (some ⟨b2, 0, none⟩) x.hs.length x.hs.length, .int .i64 0] (by rfl) (by rfl) 92 _ (h4.m5 rfl).1 Tryz.size92 rfl (all30 ..) ?_
      have hl := h4.stored HD.out
      refine hK.out _ _ hl.1.cells (fun hHeld => ?_)
      simp only [Act.put, s1, s2, s3]
      refine wpAnyH_done (by kernel_rfl) ?_ _
      go_wp2_with fail
      go_meet
      exact ⟨b1, b2, b5, rfl, hl⟩
   ·
    refine step_make rfl (.tmp 19) (.tmp 19) 90 rfl _ _ _ _ rfl rfl (MK2.out _) ?_
    have h2 := h1.make2 HD.out
    obtain ⟨w2, hw⟩ : ∃ w2, w2 = w1.alloc (.cells ((List.replicate x.hs.length z5).flatten).toArray 107) := ⟨_, rfl⟩
    rw [← hw] at h2 ⊢
    clear hw h1 b2
    obtain ⟨b2, hb⟩ : ∃ b2, b2 = w1.heap.size := ⟨_, rfl⟩
    rw [← hb] at h2 ⊢
    clear hb
    refine hK.out _ _ h2.cells (fun hHeld => ?_)
    simp only [Act.put, s1, s2, s3]
    refine wpAnyH_ready (rs := [6, 12]) (by kernel_rfl) (by simp) ?_
    refine (AllReadyH.cons (o := ⟨some 16, .makeSlice 89 (.tmp 15) (.tmp 15), 89, "deal.go:33", #[⟨5, .data⟩, ⟨5, .data⟩], none⟩) rfl (fun K hK => ?_) (AllReadyH.cons (o := ⟨some 5, .alloc 92, 0, "deal.go:33", #[], none⟩) rfl (fun K hK => ?_) AllReadyH.nil))
    ·
     refine step_make rfl (.tmp 15) (.tmp 15) 89 rfl _ _ _ _ rfl rfl (MK1.out _) ?_
     have h3 := h2.make1 HD.out
     obtain ⟨w3, hw⟩ : ∃ w3, w3 = w2.alloc (.cells ((List.replicate x.ps.length z5).flatten).toArray 116) := ⟨_, rfl⟩
     rw [← hw] at h3 ⊢
     clear hw h2 b1
     obtain ⟨b1, hb⟩ : ∃ b1, b1 = w2.heap.size := ⟨_, rfl⟩
     rw [← hb] at h3 ⊢
     clear hb
     refine hK.out _ _ h3.cells (fun hHeld => ?_)
     simp only [Act.put, s1, s2, s3]
     refine tk 11 (.agg #[.int .i64 a, .slice (some ⟨b1, 0, none⟩) x.ps.length x.ps.length, .slice (some ⟨b2, 0, none⟩) x.hs.length x.hs.length, .int .i64 0]) hHeld ?_
     simp only [Act.put, s1, s2, s3]
     refine rd 12 fun K hK => ?_
     ·
      go_simp
      have h4 := h3.alloc5 HD.out
      obtain ⟨w4, hw⟩ : ∃ w4, w4 = w3.alloc (.cells #[.int .i64 0, .slice none 0 0, .slice none 0 0, .int .i64 0] 92) := ⟨_, rfl⟩
      rw [← hw] at h4 ⊢
      clear hw h3 b5
      obtain ⟨b5, hb⟩ : ∃ b5, b5 = w3.heap.size := ⟨_, rfl⟩
      rw [← hb] at h4 ⊢
      clear hb
      refine hK.out _ _ h4.cells (fun hHeld => ?_)
      simp only [Act.put, s1, s2, s3]
      refine rd 13 fun K hK => ?_
      refine wp_store_row 92 _ _ rfl b5 #[.int .i64 a, .slice (some ⟨b1, 0, none⟩) x.ps.length x.ps.length, .slice (some ⟨b2, 0, none⟩) x.hs.length x.hs.length, .int .i64 0] (by rfl) (by rfl) 92 _ (h4.m5 rfl).1 Tryz.size92 rfl (all30 ..) ?_
      have hl := h4.stored HD.out
      refine hK.out _ _ hl.1.cells (fun hHeld => ?_)
      simp only [Act.put, s1, s2, s3]
      refine wpAnyH_done (by kernel_rfl) ?_ _
      go_wp2_with fail
      go_meet
      exact ⟨b1, b2, b5, rfl, hl⟩
    ·
     go_simp
     have h3 := h2.alloc5 HD.out
     obtain ⟨w3, hw⟩ : ∃ w3, w3 = w2.alloc (.cells #[.int .i64 0, .slice none 0 0, .slice none 0 0, .int .i64 0] 92) := ⟨_, rfl⟩
     rw [← hw] at h3 ⊢
     clear hw h2 b5
     obtain ⟨b5, hb⟩ : ∃ b5, b5 = w2.heap.size := ⟨_, rfl⟩
     rw [← hb] at h3 ⊢
     clear hb
     refine hK.out _ _ h3.cells (fun hHeld => ?_)
     simp only [Act.put, s1, s2, s3]
     refine rd 6 fun K hK => ?_
     ·
      refine step_make rfl (.tmp 15) (.tmp 15) 89 rfl _ _ _ _ rfl rfl (MK1.out _) ?_
      have h4 := h3.make1 HD.out
      obtain ⟨w4, hw⟩ : ∃ w4, w4 = w3.alloc (.cells ((List.replicate x.ps.length z5).flatten).toArray 116) := ⟨_, rfl⟩
      rw [← hw] at h4 ⊢
      clear hw h3 b1
      obtain ⟨b1, hb⟩ : ∃ b1, b1 = w3.heap.size := ⟨_, rfl⟩
      rw [← hb] at h4 ⊢
      clear hb
      refine hK.out _ _ h4.cells (fun hHeld => ?_)
      simp only [Act.put, s1, s2, s3]
      refine tk 11 (.agg #[.int .i64 a, .slice (some ⟨b1, 0, none⟩) x.ps.length x.ps.length, .slice (some ⟨b2, 0, none⟩) x.hs.length x.hs.length, .int .i64 0]) hHeld ?_
      simp only [Act.put, s1, s2, s3]
      refine rd 13 fun K hK => ?_
      refine wp_store_row 92 _ _ rfl b5 #[.int .i64 a, .slice (some ⟨b1, 0, none⟩) x.ps.length x.ps.length, .slice (some ⟨b2, 0, none⟩) x.hs.length x.hs.length, .int .i64 0] (by rfl) (by rfl) 92 _ (h4.m5 rfl).1 Tryz.size92 rfl (all30 ..) ?_
      have hl := h4.stored HD.out
      refine hK.out _ _ hl.1.cells (fun hHeld => ?_)
      simp only [Act.put, s1, s2, s3]
      refine wpAnyH_done (by kernel_rfl) ?_ _
      go_wp2_with fail
      go_meet
      exact ⟨b1, b2, b5, rfl, hl⟩
   ·
    go_simp
    have h2 := h1.alloc5 HD.out
    obtain ⟨w2, hw⟩ : ∃ w2, w2 = w1.alloc (.cells #[.int .i64 0, .slice none 0 0, .slice none 0 0, .int .i64 0] 92) := ⟨_, rfl⟩
    rw [← hw] at h2 ⊢
    clear hw h1 b5
    obtain ⟨b5, hb⟩ : ∃ b5, b5 = w1.heap.size := ⟨_, rfl⟩
    rw [← hb] at h2 ⊢
    clear hb
    refine hK.out _ _ h2.cells (fun hHeld => ?_)
    simp only [Act.put, s1, s2, s3]
    refine wpAnyH_ready (rs := [6, 10]) (by kernel_rfl) (by simp) ?_
    refine (AllReadyH.cons (o := ⟨some 16, .makeSlice 89 (.tmp 15) (.tmp 15), 89, "deal.go:33", #[⟨5, .data⟩, ⟨5, .data⟩], none⟩) rfl (fun K hK => ?_) (AllReadyH.cons (o := ⟨some 20, .makeSlice 90 (.tmp 19) (.tmp 19), 90, "deal.go:33", #[⟨9, .data⟩, ⟨9, .data⟩], none⟩) rfl (fun K hK => ?_) AllReadyH.nil))
    ·
     refine step_make rfl (.tmp 15) (.tmp 15) 89 rfl _ _ _ _ rfl rfl (MK1.out _) ?_
     have h3 := h2.make1 HD.out
     obtain ⟨w3, hw⟩ : ∃ w3, w3 = w2.alloc (.cells ((List.replicate x.ps.length z5).flatten).toArray 116) := ⟨_, rfl⟩
     rw [← hw] at h3 ⊢
     clear hw h2 b1
     obtain ⟨b1, hb⟩ : ∃ b1, b1 = w2.heap.size := ⟨_, rfl⟩
     rw [← hb] at h3 ⊢
     clear hb
     refine hK.out _ _ h3.cells (fun hHeld => ?_)
     simp only [Act.put, s1, s2, s3]
     refine rd 10 fun K hK => ?_
     ·
      refine step_make rfl (.tmp 19) (.tmp 19) 90 rfl _ _ _ _ rfl rfl (MK2.out _) ?_
      have h4 := h3.make2 HD.out
      obtain ⟨w4, hw⟩ : ∃ w4, w4 = w3.alloc (.cells ((List.replicate x.hs.length z5).flatten).toArray 107) := ⟨_, rfl⟩
      rw [← hw] at h4 ⊢
      clear hw h3 b2
      obtain ⟨b2, hb⟩ : ∃ b2, b2 = w3.heap.size := ⟨_, rfl⟩
      rw [← hb] at h4 ⊢
      clear hb
      refine hK.out _ _ h4.cells (fun hHeld => ?_)
      simp only [Act.put, s1, s2, s3]
      refine tk 11 (.agg #[.int .i64 a, .slice (some ⟨b1, 0, none⟩) x.ps.length x.ps.length, .slice (some ⟨b2, 0, none⟩) x.hs.length x.hs.length, .int .i64 0]) hHeld ?_
      simp only [Act.put, s1, s2, s3]
      refine rd 13 fun K hK => ?_
      refine wp_store_row 92 _ _ rfl b5 #[.int .i64 a, .slice (some ⟨b1, 0, none⟩) x.ps.length x.ps.length, .slice (some ⟨b2, 0, none⟩) x.hs.length x.hs.length, .int .i64 0] (by rfl) (by rfl) 92 _ (h4.m5 rfl).1 Tryz.size92 rfl (all30 ..) ?_
      have hl := h4.stored HD.out
      refine hK.out _ _ hl.1.cells (fun hHeld => ?_)
      simp only [Act.put, s1, s2, s3]
      refine wpAnyH_done (by kernel_rfl) ?_ _
      go_wp2_with fail
      go_meet
      exact ⟨b1, b2, b5, rfl, hl⟩
    ·
     refine step_make rfl (.tmp 19) (.tmp 19) 90 rfl _ _ _ _ rfl rfl (MK2.out _) ?_
     have h3 := h2.make2 HD.out
     obtain ⟨w3, hw⟩ : ∃ w3, w3 = w2.alloc (.cells ((List.replicate x.hs.length z5).flatten).toArray 107) := ⟨_, rfl⟩
     rw [← hw] at h3 ⊢
     clear hw h2 b2
     obtain ⟨b2, hb⟩ : ∃ b2, b2 = w2.heap.size := ⟨_, rfl⟩
     rw [← hb] at h3 ⊢
     clear hb
     refine hK.out _ _ h3.cells (fun hHeld => ?_)
     simp only [Act.put, s1, s2, s3]
     refine rd 6 fun K hK => ?_
     ·
      refine step_make rfl (.tmp 15) (.tmp 15) 89 rfl _ _ _ _ rfl rfl (MK1.out _) ?_
      have h4 := h3.make1 HD.out
      obtain ⟨w4, hw⟩ : ∃ w4, w4 = w3.alloc (.cells ((List.replicate x.ps.length z5).flatten).toArray 116) := ⟨_, rfl⟩
      rw [← hw] at h4 ⊢
      clear hw h3 b1
      obtain ⟨b1, hb⟩ : ∃ b1, b1 = w3.heap.size := ⟨_, rfl⟩
      rw [← hb] at h4 ⊢
      clear hb
      refine hK.out _ _ h4.cells (fun hHeld => ?_)
      simp only [Act.put, s1, s2, s3]
      refine tk 11 (.agg #[.int .i64 a, .slice (some ⟨b1, 0, none⟩) x.ps.length x.ps.length, .slice (some ⟨b2, 0, none⟩) x.hs.length x.hs.length, .int .i64 0]) hHeld ?_
      simp only [Act.put, s1, s2, s3]
      refine rd 13 fun K hK => ?_
      refine wp_store_row 92 _ _ rfl b5 #[.int .i64 a, .slice (some ⟨b1, 0, none⟩) x.ps.length x.ps.length, .slice (some ⟨b2, 0, none⟩) x.hs.length x.hs.length, .int .i64 0] (by rfl) (by rfl) 92 _ (h4.m5 rfl).1 Tryz.size92 rfl (all30 ..) ?_
      have hl := h4.stored HD.out
      refine hK.out _ _ hl.1.cells (fun hHeld => ?_)
      simp only [Act.put, s1, s2, s3]
      refine wpAnyH_done (by kernel_rfl) ?_ _
      go_wp2_with fail
      go_meet
      exact ⟨b1, b2, b5, rfl, hl⟩
  ·
   refine step_make rfl (.tmp 15) (.tmp 15) 89 rfl _ _ _ _ rfl rfl (MK1.out _) ?_
   have h1 := h0.make1 HD.out
   obtain ⟨w1, hw⟩ : ∃ w1, w1 = w0.alloc (.cells ((List.replicate x.ps.length z5).flatten).toArray 116) := ⟨_, rfl⟩
   rw [← hw] at h1 ⊢
   clear hw h0 b1
   obtain ⟨b1, hb⟩ : ∃ b1, b1 = w0.heap.size := ⟨_, rfl⟩
   rw [← hb] at h1 ⊢
   clear hb
   refine hK.out _ _ h1.cells (fun hHeld => ?_)
   simp only [Act.put, s1, s2, s3]
   refine wpAnyH_ready (rs := [2, 10, 12]) (by kernel_rfl) (by simp) ?_
   refine (AllReadyH.cons (o := ⟨some 12, .call ⟨.value (.tmp 10), #[.tmp 11, .const (.int .i64 2)], #[111, 3]⟩, 3, "deal.go:34", #[⟨0, .data⟩, ⟨1, .data⟩], none⟩) rfl (fun K hK => ?_) (AllReadyH.cons (o := ⟨some 20, .makeSlice 90 (.tmp 19) (.tmp 19), 90, "deal.go:33", #[⟨9, .data⟩, ⟨9, .data⟩], none⟩) rfl (fun K hK => ?_) (AllReadyH.cons (o := ⟨some 5, .alloc 92, 0, "deal.go:33", #[], none⟩) rfl (fun K hK => ?_) AllReadyH.nil)))
   ·
    go_simp
    refine (HCN.out _ h1.j0).mono ?_
    rintro r w2 ⟨rfl, hj, hKc⟩
    have h2 := h1.called hKc hj
    clear hj hKc h1
    refine hK.out _ _ h2.cells (fun hHeld => ?_)
    simp only [Act.put, s1, s2, s3]
    refine wpAnyH_ready (rs := [10, 12]) (by kernel_rfl) (by simp) ?_
    refine (AllReadyH.cons (o := ⟨some 20, .makeSlice 90 (.tmp 19) (.tmp 19), 90, "deal.go:33", #[⟨9, .data⟩, ⟨9, .data⟩], none⟩) rfl (fun K hK => ?_) (AllReadyH.cons (o := ⟨some 5, .alloc 92, 0, "deal.go:33", #[], none⟩) rfl (fun K hK => ?_) AllReadyH.nil))
    ·
     refine step_make rfl (.tmp 19) (.tmp 19) 90 rfl _ _ _ _ rfl rfl (MK2.out _) ?_
     have h3 := h2.make2 HD.out
     obtain ⟨w3, hw⟩ : ∃ w3, w3 = w2.alloc (.cells ((List.replicate x.hs.length z5).flatten).toArray 107) := ⟨_, rfl⟩
     rw [← hw] at h3 ⊢
     clear hw h2 b2
     obtain ⟨b2, hb⟩ : ∃ b2, b2 = w2.heap.size := ⟨_, rfl⟩
     rw [← hb] at h3 ⊢
     clear hb
     refine hK.out _ _ h3.cells (fun hHeld => ?_)
     simp only [Act.put, s1, s2, s3]
     refine tk 11 (.agg #[.int .i64 a, .slice (some ⟨b1, 0, none⟩) x.ps.length x.ps.length, .slice (some ⟨b2, 0, none⟩) x.hs.length x.hs.length, .int .i64 0]) hHeld ?_
     simp only [Act.put, s1, s2, s3]
     refine rd 12 fun K hK => ?_
     ·
      go_simp
      have h4 := h3.alloc5 HD.out
      obtain ⟨w4, hw⟩ : ∃ w4, w4 = w3.alloc (.cells #[.int .i64 0, .slice none 0 0, .slice none 0 0, .int .i64 0] 92) := ⟨_, rfl⟩
      rw [← hw] at h4 ⊢
      clear hw h3 b5
      obtain ⟨b5, hb⟩ : ∃ b5, b5 = w3.heap.size := ⟨_, rfl⟩
      rw [← hb] at h4 ⊢
      clear hb
      refine hK.out _ _ h4.cells (fun hHeld => ?_)
      simp only [Act.put, s1, s2, s3]
      refine rd 13 fun K hK => ?_
      refine wp_store_row 92 _ _ rfl b5 #[.int .i64 a, .slice (some ⟨b1, 0, none⟩) x.ps.length x.ps.length, .slice (some ⟨b2, 0, none⟩) x.hs.length x.hs.length, .int .i64 0] (by rfl) (by rfl) 92 _ (h4.m5 rfl).1 Tryz.size92 rfl (all30 ..) ?_
      have hl := h4.stored HD.out
      refine hK.out _ _ hl.1.cells (fun hHeld => ?_)
      simp only [Act.put, s1, s2, s3]
      refine wpAnyH_done (by kernel_rfl) ?_ _
      go_wp2_with fail
      go_meet
      exact ⟨b1, b2, b5, rfl, hl⟩
    ·
     go_simp
     have h3 := h2.alloc5 HD.out
     obtain ⟨w3, hw⟩ : ∃ w3, w3 = w2.alloc (.cells #[.int .i64 0, .slice none 0 0, .slice none 0 0, .int .i64 0] 92) := ⟨_, rfl⟩
     rw [← hw] at h3 ⊢
     clear hw h2 b5
     obtain ⟨b5, hb⟩ : ∃ b5, b5 = w2.heap.size := ⟨_, rfl⟩
     rw [← hb] at h3 ⊢
     clear hb
     refine hK.out _ _ h3.cells (fun hHeld => ?_)
     simp only [Act.put, s1, s2, s3]
     refine rd 10 fun K hK => ?_
     ·
      refine step_make rfl (.tmp 19) (.tmp 19) 90 rfl _ _ _ _ rfl rfl (MK2.out _) ?_
      have h4 := h3.make2 HD.out
      obtain ⟨w4, hw⟩ : ∃ w4, w4 = w3.alloc (.cells ((List.replicate x.hs.length z5).flatten).toArray 107) := ⟨_, rfl⟩
      rw [← hw] at h4 ⊢
      clear hw h3 b2
      obtain ⟨b2, hb⟩ : ∃ b2, b2 = w3.heap.size := ⟨_, rfl⟩
      rw [← hb] at h4 ⊢
      clear hb
      refine hK.out _ _ h4.cells (fun hHeld => ?_)
      simp only [Act.put, s1, s2, s3]
      refine tk 11 (.agg #[.int .i64 a, .slice (some ⟨b1, 0, none⟩) x.ps.length x.ps.length, .slice (some ⟨b2, 0, none⟩) x.hs.length x.hs.length, .int .i64 0]) hHeld ?_
      simp only [Act.put, s1, s2, s3]
      refine rd 13 fun K hK => ?_
      refine wp_store_row 92 _ _ rfl b5 #[.int .i64 a, .slice (some ⟨b1, 0, none⟩) x.ps.length x.ps.length, .slice (some ⟨b2, 0, none⟩) x.hs.length x.hs.length, .int .i64 0] (by rfl) (by rfl) 92 _ (h4.m5 rfl).1 Tryz.size92 rfl (all30 ..) ?_
      have hl := h4.stored HD.out
      refine hK.out _ _ hl.1.cells (fun hHeld => ?_)
      simp only [Act.put, s1, s2, s3]
      refine wpAnyH_done (by kernel_rfl) ?_ _
      go_wp2_with fail
      go_meet
      exact ⟨b1, b2, b5, rfl, hl⟩
   ·
    refine step_make rfl (.tmp 19) (.tmp 19) 90 rfl _ _ _ _ rfl rfl (MK2.out _) ?_
    have h2 := h1.make2 HD.out
    obtain ⟨w2, hw⟩ : ∃ w2, w2 = w1.alloc (.cells ((List.replicate x.hs.length z5).flatten).toArray 107) := ⟨_, rfl⟩
    rw [← hw] at h2 ⊢
    clear hw h1 b2
    obtain ⟨b2, hb⟩ : ∃ b2, b2 = w1.heap.size := ⟨_, rfl⟩
    rw [← hb] at h2 ⊢
    clear hb
    refine hK.out _ _ h2.cells (fun hHeld => ?_)
    simp only [Act.put, s1, s2, s3]
    refine wpAnyH_ready (rs := [2, 12]) (by kernel_rfl) (by simp) ?_
    refine (AllReadyH.cons (o := ⟨some 12, .call ⟨.value (.tmp 10), #[.tmp 11, .const (.int .i64 2)], #[111, 3]⟩, 3, "deal.go:34", #[⟨0, .data⟩, ⟨1, .data⟩], none⟩) rfl (fun K hK => ?_) (AllReadyH.cons (o := ⟨some 5, .alloc 92, 0, "deal.go:33", #[], none⟩) rfl (fun K hK => ?_) AllReadyH.nil))
    ·
     go_simp
     refine (HCN.out _ h2.j0).mono ?_
     rintro r w3 ⟨rfl, hj, hKc⟩
     have h3 := h2.called hKc hj
     clear hj hKc h2
     refine hK.out _ _ h3.cells (fun hHeld => ?_)
     simp only [Act.put, s1, s2, s3]
     refine tk 11 (.agg #[.int .i64 a, .slice (some ⟨b1, 0, none⟩) x.ps.length x.ps.length, .slice (some ⟨b2, 0, none⟩) x.hs.length x.hs.length, .int .i64 0]) hHeld ?_
     simp only [Act.put, s1, s2, s3]
     refine rd 12 fun K hK => ?_
     ·
      go_simp
      have h4 := h3.alloc5 HD.out
      obtain ⟨w4, hw⟩ : ∃ w4, w4 = w3.alloc (.cells #[.int .i64 0, .slice none 0 0, .slice none 0 0, .int .i64 0] 92) := ⟨_, rfl⟩
      rw [← hw] at h4 ⊢
      clear hw h3 b5
      obtain ⟨b5, hb⟩ : ∃ b5, b5 = w3.heap.size := ⟨_, rfl⟩
      rw [← hb] at h4 ⊢
      clear hb
      refine hK.out _ _ h4.cells (fun hHeld => ?_)
      simp only [Act.put, s1, s2, s3]
      refine rd 13 fun K hK => ?_
      refine wp_store_row 92 _ _ rfl b5 #[.int .i64 a, .slice (some ⟨b1, 0, none⟩) x.ps.length x.ps.length, .slice (some ⟨b2, 0, none⟩) x.hs.length x.hs.length, .int .i64 0] (by rfl) (by rfl) 92 _ (h4.m5 rfl).1 Tryz.size92 rfl (all30 ..) ?_
      have hl := h4.stored HD.out
      refine hK.out _ _ hl.1.cells (fun hHeld => ?_)
      simp only [Act.put, s1, s2, s3]
      refine wpAnyH_done (by kernel_rfl) ?_ _
      go_wp2_with fail
      go_meet
      exact ⟨b1, b2, b5, rfl, hl⟩
    ·
     go_simp
     have h3 := h2.alloc5 HD.out
     obtain ⟨w3, hw⟩ : ∃ w3, w3 = w2.alloc (.cells #[.int .i64 0, .slice none 0 0, .slice none 0 0, .int .i64 0] 92) := ⟨_, rfl⟩
     rw [← hw] at h3 ⊢
     clear hw h2 b5
     obtain ⟨b5, hb⟩ : ∃ b5, b5 = w2.heap.size := ⟨_, rfl⟩
     rw [← hb] at h3 ⊢
     clear hb
     refine hK.out _ _ h3.cells (fun hHeld => ?_)
     simp only [Act.put, s1, s2, s3]
     refine rd 2 fun K hK => ?_
     ·
      go_simp
      refine (HCN.out _ h3.j0).mono ?_
      rintro r w4 ⟨rfl, hj, hKc⟩
      have h4 := h3.called hKc hj
      clear hj hKc h3
      refine hK.out _ _ h4.cells (fun hHeld => ?_)
      simp only [Act.put, s1, s2, s3]
      refine tk 11 (.agg #[.int .i64 a, .slice (some ⟨b1, 0, none⟩) x.ps.length x.ps.length, .slice (some ⟨b2, 0, none⟩) x.hs.length x.hs.length, .int .i64 0]) hHeld ?_
      simp only [Act.put, s1, s2, s3]
      refine rd 13 fun K hK => ?_
      refine wp_store_row 92 _ _ rfl b5 #[.int .i64 a, .slice (some ⟨b1, 0, none⟩) x.ps.length x.ps.length, .slice (some ⟨b2, 0, none⟩) x.hs.length x.hs.length, .int .i64 0] (by rfl) (by rfl) 92 _ (h4.m5 rfl).1 Tryz.size92 rfl (all30 ..) ?_
      have hl := h4.stored HD.out
      refine hK.out _ _ hl.1.cells (fun hHeld => ?_)
      simp only [Act.put, s1, s2, s3]
      refine wpAnyH_done (by kernel_rfl) ?_ _
      go_wp2_with fail
      go_meet
      exact ⟨b1, b2, b5, rfl, hl⟩
   ·
    go_simp
    have h2 := h1.alloc5 HD.out
    obtain ⟨w2, hw⟩ : ∃ w2, w2 = w1.alloc (.cells #[.int .i64 0, .slice none 0 0, .slice none 0 0, .int .i64 0] 92) := ⟨_, rfl⟩
    rw [← hw] at h2 ⊢
    clear hw h1 b5
    obtain ⟨b5, hb⟩ : ∃ b5, b5 = w1.heap.size := ⟨_, rfl⟩
    rw [← hb] at h2 ⊢
    clear hb
    refine hK.out _ _ h2.cells (fun hHeld => ?_)
    simp only [Act.put, s1, s2, s3]
    refine wpAnyH_ready (rs := [2, 10]) (by kernel_rfl) (by simp) ?_
    refine (AllReadyH.cons (o := ⟨some 12, .call ⟨.value (.tmp 10), #[.tmp 11, .const (.int .i64 2)], #[111, 3]⟩, 3, "deal.go:34", #[⟨0, .data⟩, ⟨1, .data⟩], none⟩) rfl (fun K hK => ?_) (AllReadyH.cons (o := ⟨some 20, .makeSlice 90 (.tmp 19) (.tmp 19), 90, "deal.go:33", #[⟨9, .data⟩, ⟨9, .data⟩], none⟩) rfl (fun K hK => ?_) AllReadyH.nil))
    ·
     go_simp
     refine (HCN.out _ h2.j0).mono ?_
     rintro r w3 ⟨rfl, hj, hKc⟩
     have h3 := h2.called hKc hj
     clear hj hKc h2
     refine hK.out _ _ h3.cells (fun hHeld => ?_)
     simp only [Act.put, s1, s2, s3]
     refine rd 10 fun K hK => ?_
     ·
      refine step_make rfl (.tmp 19) (.tmp 19) 90 rfl _ _ _ _ rfl rfl (MK2.out _) ?_
      have h4 := h3.make2 HD.out
      obtain ⟨w4, hw⟩ : ∃ w4, w4 = w3.alloc (.cells ((List.replicate x.hs.length z5).flatten).toArray 107) := ⟨_, rfl⟩
      rw [← hw] at h4 ⊢
      clear hw h3 b2
      obtain ⟨b2, hb⟩ : ∃ b2, b2 = w3.heap.size := ⟨_, rfl⟩
      rw [← hb] at h4 ⊢
      clear hb
      refine hK.out _ _ h4.cells (fun hHeld => ?_)
      simp only [Act.put, s1, s2, s3]
      refine tk 11 (.agg #[.int .i64 a, .slice (some ⟨b1, 0, none⟩) x.ps.length x.ps.length, .slice (some ⟨b2, 0, none⟩) x.hs.length x.hs.length, .int .i64 0]) hHeld ?_
      simp only [Act.put, s1, s2, s3]
      refine rd 13 fun K hK => ?_
      refine wp_store_row 92 _ _ rfl b5 #[.int .i64 a, .slice (some ⟨b1, 0, none⟩) x.ps.length x.ps.length, .slice (some ⟨b2, 0, none⟩) x.hs.length x.hs.length, .int .i64 0] (by rfl) (by rfl) 92 _ (h4.m5 rfl).1 Tryz.size92 rfl (all30 ..) ?_
      have hl := h4.stored HD.out
      refine hK.out _ _ hl.1.cells (fun hHeld => ?_)
      simp only [Act.put, s1, s2, s3]
      refine wpAnyH_done (by kernel_rfl) ?_ _
      go_wp2_with fail
      go_meet
      exact ⟨b1, b2, b5, rfl, hl⟩
    ·
     refine step_make rfl (.tmp 19) (.tmp 19) 90 rfl _ _ _ _ rfl rfl (MK2.out _) ?_
     have h3 := h2.make2 HD.out
     obtain ⟨w3, hw⟩ : ∃ w3, w3 = w2.alloc (.cells ((List.replicate x.hs.length z5).flatten).toArray 107) := ⟨_, rfl⟩
     rw [← hw] at h3 ⊢
     clear hw h2 b2
     obtain ⟨b2, hb⟩ : ∃ b2, b2 = w2.heap.size := ⟨_, rfl⟩
     rw [← hb] at h3 ⊢
     clear hb
     refine hK.out _ _ h3.cells (fun hHeld => ?_)
     simp only [Act.put, s1, s2, s3]
     refine rd 2 fun K hK => ?_
     ·
      go_simp
      refine (HCN.out _ h3.j0).mono ?_
      rintro r w4 ⟨rfl, hj, hKc⟩
      have h4 := h3.called hKc hj
      clear hj hKc h3
      refine hK.out _ _ h4.cells (fun hHeld => ?_)
      simp only [Act.put, s1, s2, s3]
      refine tk 11 (.agg #[.int .i64 a, .slice (some ⟨b1, 0, none⟩) x.ps.length x.ps.length, .slice (some ⟨b2, 0, none⟩) x.hs.length x.hs.length, .int .i64 0]) hHeld ?_
      simp only [Act.put, s1, s2, s3]
      refine rd 13 fun K hK => ?_
      refine wp_store_row 92 _ _ rfl b5 #[.int .i64 a, .slice (some ⟨b1, 0, none⟩) x.ps.length x.ps.length, .slice (some ⟨b2, 0, none⟩) x.hs.length x.hs.length, .int .i64 0] (by rfl) (by rfl) 92 _ (h4.m5 rfl).1 Tryz.size92 rfl (all30 ..) ?_
      have hl := h4.stored HD.out
      refine hK.out _ _ hl.1.cells (fun hHeld => ?_)
      simp only [Act.put, s1, s2, s3]
      refine wpAnyH_done (by kernel_rfl) ?_ _
      go_wp2_with fail
      go_meet
      exact ⟨b1, b2, b5, rfl, hl⟩
  ·
   refine step_make rfl (.tmp 19) (.tmp 19) 90 rfl _ _ _ _ rfl rfl (MK2.out _) ?_
   have h1 := h0.make2 HD.out
   obtain ⟨w1, hw⟩ : ∃ w1, w1 = w0.alloc (.cells ((List.replicate x.hs.length z5).flatten).toArray 107) := ⟨_, rfl⟩
   rw [← hw] at h1 ⊢
   clear hw h0 b2
   obtain ⟨b2, hb⟩ : ∃ b2, b2 = w0.heap.size := ⟨_, rfl⟩
   rw [← hb] at h1 ⊢
   clear hb
   refine hK.out _ _ h1.cells (fun hHeld => ?_)
   simp only [Act.put, s1, s2, s3]
   refine wpAnyH_ready (rs := [2, 6, 12]) (by kernel_rfl) (by simp) ?_
   refine (AllReadyH.cons (o := ⟨some 12, .call ⟨.value (.tmp 10), #[.tmp 11, .const (.int .i64 2)], #[111, 3]⟩, 3, "deal.go:34", #[⟨0, .data⟩, ⟨1, .data⟩], none⟩) rfl (fun K hK => ?_) (AllReadyH.cons (o := ⟨some 16, .makeSlice 89 (.tmp 15) (.tmp 15), 89, "deal.go:33", #[⟨5, .data⟩, ⟨5, .data⟩], none⟩) rfl (fun K hK => ?_) (AllReadyH.cons (o := ⟨some 5, .alloc 92, 0, "deal.go:33", #[], none⟩) rfl (fun K hK => ?_) AllReadyH.nil)))
   ·
    go_simp
    refine (HCN.out _ h1.j0).mono ?_
    rintro r w2 ⟨rfl, hj, hKc⟩
    have h2 := h1.called hKc hj
    clear hj hKc h1
    refine hK.out _ _ h2.cells (fun hHeld => ?_)
    simp only [Act.put, s1, s2, s3]
    refine wpAnyH_ready (rs := [6, 12]) (by kernel_rfl) (by simp) ?_
    refine (AllReadyH.cons (o := ⟨some 16, .makeSlice 89 (.tmp 15) (.tmp 15), 89, "deal.go:33", #[⟨5, .data⟩, ⟨5, .data⟩], none⟩) rfl (fun K hK => ?_) (AllReadyH.cons (o := ⟨some 5, .alloc 92, 0, "deal.go:33", #[], none⟩) rfl (fun K hK => ?_) AllReadyH.nil))
    ·
     refine step_make rfl (.tmp 15) (.tmp 15) 89 rfl _ _ _ _ rfl rfl (MK1.out _) ?_
     have h3 := h2.make1 HD.out
     obtain ⟨w3, hw⟩ : ∃ w3, w3 = w2.alloc (.cells ((List.replicate x.ps.length z5).flatten).toArray 116) := ⟨_, rfl⟩
     rw [← hw] at h3 ⊢
     clear hw h2 b1
     obtain ⟨b1, hb⟩ : ∃ b1, b1 = w2.heap.size := ⟨_, rfl⟩
     rw [← hb] at h3 ⊢
     clear hb
     refine hK.out _ _ h3.cells (fun hHeld => ?_)
     simp only [Act.put, s1, s2, s3]
     refine tk 11 (.agg #[.int .i64 a, .slice (some ⟨b1, 0, none⟩) x.ps.length x.ps.length, .slice (some ⟨b2, 0, none⟩) x.hs.length x.hs.length, .int .i64 0]) hHeld ?_
     simp only [Act.put, s1, s2, s3]
     refine rd 12 fun K hK => ?_
     ·
      go_simp
      have h4 := h3.alloc5 HD.out
      obtain ⟨w4, hw⟩ : ∃ w4, w4 = w3.alloc (.cells #[.int .i64 0, .slice none 0 0, .slice none 0 0, .int .i64 0] 92) := ⟨_, rfl⟩
      rw [← hw] at h4 ⊢
      clear hw h3 b5
      obtain ⟨b5, hb⟩ : ∃ b5, b5 = w3.heap.size := ⟨_, rfl⟩
      rw [← hb] at h4 ⊢
      clear hb
      refine hK.out _ _ h4.cells (fun hHeld => ?_)
      simp only [Act.put, s1, s2, s3]
      refine rd 13 fun K hK => ?_
      refine wp_store_row 92 _ _ rfl b5 #[.int .i64 a, .slice (some ⟨b1, 0, none⟩) x.ps.length x.ps.length, .slice (some ⟨b2, 0, none⟩) x.hs.length x.hs.length, .int .i64 0] (by rfl) (by rfl) 92 _ (h4.m5 rfl).1 Tryz.size92 rfl (all30 ..) ?_
      have hl := h4.stored HD.out
      refine hK.out _ _ hl.1.cells (fun hHeld => ?_)
      simp only [Act.put, s1, s2, s3]
      refine wpAnyH_done (by kernel_rfl) ?_ _
      go_wp2_with fail
      go_meet
      exact ⟨b1, b2, b5, rfl, hl⟩
    ·
     go_simp
     have h3 := h2.alloc5 HD.out
     obtain ⟨w3, hw⟩ : ∃ w3, w3 = w2.alloc (.cells #[.int .i64 0, .slice none 0 0, .slice none 0 0, .int .i64 0] 92) := ⟨_, rfl⟩
     rw [← hw] at h3 ⊢
     clear hw h2 b5
     obtain ⟨b5, hb⟩ : ∃ b5, b5 = w2.heap.size := ⟨_, rfl⟩
     rw [← hb] at h3 ⊢
     clear hb
     refine hK.out _ _ h3.cells (fun hHeld => ?_)
     simp only [Act.put, s1, s2, s3]
     refine rd 6 fun K hK => ?_
     ·
      refine step_make rfl (.tmp 15) (.tmp 15) 89 rfl _ _ _ _ rfl rfl (MK1.out _) ?_
      have h4 := h3.make1 HD.out
      obtain ⟨w4, hw⟩ : ∃ w4, w4 = w3.alloc (.cells ((List.replicate x.ps.length z5).flatten).toArray 116) := ⟨_, rfl⟩
      rw [← hw] at h4 ⊢
      clear hw h3 b1
      obtain ⟨b1, hb⟩ : ∃ b1, b1 = w3.heap.size := ⟨_, rfl⟩
      rw [← hb] at h4 ⊢
      clear hb
      refine hK.out _ _ h4.cells (fun hHeld => ?_)
      simp only [Act.put, s1, s2, s3]
      refine tk 11 (.agg #[.int .i64 a, .slice (some ⟨b1, 0, none⟩) x.ps.length x.ps.length, .slice (some ⟨b2, 0, none⟩) x.hs.length x.hs.length, .int .i64 0]) hHeld ?_
      simp only [Act.put, s1, s2, s3]
      refine rd 13 fun K hK => ?_
      refine wp_store_row 92 _ _ rfl b5 #[.int .i64 a, .slice (some ⟨b1, 0, none⟩) x.ps.length x.ps.length, .slice (some ⟨b2, 0, none⟩) x.hs.length x.hs.length, .int .i64 0] (by rfl) (by rfl) 92 _ (h4.m5 rfl).1 Tryz.size92 rfl (all30 ..) ?_
      have hl := h4.stored HD.out
      refine hK.out _ _ hl.1.cells (fun hHeld => ?_)
      simp only [Act.put, s1, s2, s3]
      refine wpAnyH_done (by kernel_rfl) ?_ _
      go_wp2_with fail
      go_meet
      exact ⟨b1, b2, b5, rfl, hl⟩
   ·
    refine step_make rfl (.tmp 15) (.tmp 15) 89 rfl _ _ _ _ rfl rfl (MK1.out _) ?_
    have h2 := h1.make1 HD.out
    obtain ⟨w2, hw⟩ : ∃ w2, w2 = w1.alloc (.cells ((List.replicate x.ps.length z5).flatten).toArray 116) := ⟨_, rfl⟩
    rw [← hw] at h2 ⊢
    clear hw h1 b1
    obtain ⟨b1, hb⟩ : ∃ b1, b1 = w1.heap.size := ⟨_, rfl⟩
    rw [← hb] at h2 ⊢
    clear hb
    refine hK.out _ _ h2.cells (fun hHeld => ?_)
    simp only [Act.put, s1, s2, s3]
    refine wpAnyH_ready (rs := [2, 12]) (by kernel_rfl) (by simp) ?_
    refine (AllReadyH.cons (o := ⟨some 12, .call ⟨.value (.tmp 10), #[.tmp 11, .const (.int .i64 2)], #[111, 3]⟩, 3, "deal.go:34", #[⟨0, .data⟩, ⟨1, .data⟩], none⟩) rfl (fun K hK => ?_) (AllReadyH.cons (o := ⟨some 5, .alloc 92, 0, "deal.go:33", #[], none⟩) rfl (fun K hK => ?_) AllReadyH.nil))
    ·
     go_simp
     refine (HCN.out _ h2.j0).mono ?_
     rintro r w3 ⟨rfl, hj, hKc⟩
     have h3 := h2.called hKc hj
     clear hj hKc h2
     refine hK.out _ _ h3.cells (fun hHeld => ?_)
     simp only [Act.put, s1, s2, s3]
     refine tk 11 (.agg #[.int .i64 a, .slice (some ⟨b1, 0, none⟩) x.ps.length x.ps.length, .slice (some ⟨b2, 0, none⟩) x.hs.length x.hs.length, .int .i64 0]) hHeld ?_
     simp only [Act.put, s1, s2, s3]
     refine rd 12 fun K hK => ?_
     ·
      go_simp
      have h4 := h3.alloc5 HD.out
      obtain ⟨w4, hw⟩ : ∃ w4, w4 = w3.alloc (.cells #[.int .i64 0, .slice none 0 0, .slice none 0 0, .int .i64 0] 92) := ⟨_, rfl⟩
      rw [← hw] at h4 ⊢
      clear hw h3 b5
      obtain ⟨b5, hb⟩ : ∃ b5, b5 = w3.heap.size := ⟨_, rfl⟩
      rw [← hb] at h4 ⊢
      clear hb
      refine hK.out _ _ h4.cells (fun hHeld => ?_)
      simp only [Act.put, s1, s2, s3]
      refine rd 13 fun K hK => ?_
      refine wp_store_row 92 _ _ rfl b5 #[.int .i64 a, .slice (some ⟨b1, 0, none⟩) x.ps.length x.ps.length, .slice (some ⟨b2, 0, none⟩) x.hs.length x.hs.length, .int .i64 0] (by rfl) (by rfl) 92 _ (h4.m5 rfl).1 Tryz.size92 rfl (all30 ..) ?_
      have hl := h4.stored HD.out
      refine hK.out _ _ hl.1.cells (fun hHeld => ?_)
      simp only [Act.put, s1, s2, s3]
      refine wpAnyH_done (by kernel_rfl) ?_ _
      go_wp2_with fail
      go_meet
      exact ⟨b1, b2, b5, rfl, hl⟩
    ·
     go_simp
     have h3 := h2.alloc5 HD.out
     obtain ⟨w3, hw⟩ : ∃ w3, w3 = w2.alloc (.cells #[.int .i64 0, .slice none 0 0, .slice none 0 0, .int .i64 0] 92) := ⟨_, rfl⟩
     rw [← hw] at h3 ⊢
     clear hw h2 b5
     obtain ⟨b5, hb⟩ : ∃ b5, b5 = w2.heap.size := ⟨_, rfl⟩
     rw [← hb] at h3 ⊢
     clear hb
     refine hK.out _ _ h3.cells (fun hHeld => ?_)
     simp only [Act.put, s1, s2, s3]
     refine rd 2 fun K hK => ?_
     ·
      go_simp
      refine (HCN.out _ h3.j0).mono ?_
      rintro r w4 ⟨rfl, hj, hKc⟩
      have h4 := h3.called hKc hj
      clear hj hKc h3
      refine hK.out _ _ h4.cells (fun hHeld => ?_)
      simp only [Act.put, s1, s2, s3]
      refine tk 11 (.agg #[.int .i64 a, .slice (some ⟨b1, 0, none⟩) x.ps.length x.ps.length, .slice (some ⟨b2, 0, none⟩) x.hs.length x.hs.length, .int .i64 0]) hHeld ?_
      simp only [Act.put, s1, s2, s3]
      refine rd 13 fun K hK => ?_
      refine wp_store_row 92 _ _ rfl b5 #[.int .i64 a, .slice (some ⟨b1, 0, none⟩) x.ps.length x.ps.length, .slice (some ⟨b2, 0, none⟩) x.hs.length x.hs.length, .int .i64 0] (by rfl) (by rfl) 92 _ (h4.m5 rfl).1 Tryz.size92 rfl (all30 ..) ?_
      have hl := h4.stored HD.out
      refine hK.out _ _ hl.1.cells (fun hHeld => ?_)
      simp only [Act.put, s1, s2, s3]
      refine wpAnyH_done (by kernel_rfl) ?_ _
      go_wp2_with fail
      go_meet
      exact ⟨b1, b2, b5, rfl, hl⟩
   ·
    go_simp
    have h2 := h1.alloc5 HD.out
    obtain ⟨w2, hw⟩ : ∃ w2, w2 = w1.alloc (.cells #[.int .i64 0, .slice none 0 0, .slice none 0 0, .int .i64 0] 92) := ⟨_, rfl⟩
    rw [← hw] at h2 ⊢
    clear hw h1 b5
    obtain ⟨b5, hb⟩ : ∃ b5, b5 = w1.heap.size := ⟨_, rfl⟩
    rw [← hb] at h2 ⊢
    clear hb
    refine hK.out _ _ h2.cells (fun hHeld => ?_)
    simp only [Act.put, s1, s2, s3]
    refine wpAnyH_ready (rs := [2, 6]) (by kernel_rfl) (by simp) ?_
    refine (AllReadyH.cons (o := ⟨some 12, .call ⟨.value (.tmp 10), #[.tmp 11, .const (.int .i64 2)], #[111, 3]⟩, 3, "deal.go:34", #[⟨0, .data⟩, ⟨1, .data⟩], none⟩) rfl (fun K hK => ?_) (AllReadyH.cons (o := ⟨some 16, .makeSlice 89 (.tmp 15) (.tmp 15), 89, "deal.go:33", #[⟨5, .data⟩, ⟨5, .data⟩], none⟩) rfl (fun K hK => ?_) AllReadyH.nil))
    ·
     go_simp
     refine (HCN.out _ h2.j0).mono ?_
     rintro r w3 ⟨rfl, hj, hKc⟩
     have h3 := h2.called hKc hj
     clear hj hKc h2
     refine hK.out _ _ h3.cells (fun hHeld => ?_)
     simp only [Act.put, s1, s2, s3]
     refine rd 6 fun K hK => ?_
     ·
      refine step_make rfl (.tmp 15) (.tmp 15) 89 rfl _ _ _ _ rfl rfl (MK1.out _) ?_
      have h4 := h3.make1 HD.out
      obtain ⟨w4, hw⟩ : ∃ w4, w4 = w3.alloc (.cells ((List.replicate x.ps.length z5).flatten).toArray 116) := ⟨_, rfl⟩
      rw [← hw] at h4 ⊢
      clear hw h3 b1
      obtain ⟨b1, hb⟩ : ∃ b1, b1 = w3.heap.size := ⟨_, rfl⟩
      rw [← hb] at h4 ⊢
      clear hb
      refine hK.out _ _ h4.cells (fun hHeld => ?_)
      simp only [Act.put, s1, s2, s3]
      refine tk 11 (.agg #[.int .i64 a, .slice (some ⟨b1, 0, none⟩) x.ps.length x.ps.length, .slice (some ⟨b2, 0, none⟩) x.hs.length x.hs.length, .int .i64 0]) hHeld ?_
      simp only [Act.put, s1, s2, s3]
      refine rd 13 fun K hK => ?_
      refine wp_store_row 92 _ _ rfl b5 #[.int .i64 a, .slice (some ⟨b1, 0, none⟩) x.ps.length x.ps.length, .slice (some ⟨b2, 0, none⟩) x.hs.length x.hs.length, .int .i64 0] (by rfl) (by rfl) 92 _ (h4.m5 rfl).1 Tryz.size92 rfl (all30 ..) ?_
      have hl := h4.stored HD.out
      refine hK.out _ _ hl.1.cells (fun hHeld => ?_)
      simp only [Act.put, s1, s2, s3]
      refine wpAnyH_done (by kernel_rfl) ?_ _
      go_wp2_with fail
      go_meet
      exact ⟨b1, b2, b5, rfl, hl⟩
    ·
     refine step_make rfl (.tmp 15) (.tmp 15) 89 rfl _ _ _ _ rfl rfl (MK1.out _) ?_
     have h3 := h2.make1 HD.out
     obtain ⟨w3, hw⟩ : ∃ w3, w3 = w2.alloc (.cells ((List.replicate x.ps.length z5).flatten).toArray 116) := ⟨_, rfl⟩
     rw [← hw] at h3 ⊢
     clear hw h2 b1
     obtain ⟨b1, hb⟩ : ∃ b1, b1 = w2.heap.size := ⟨_, rfl⟩
     rw [← hb] at h3 ⊢
     clear hb
     refine hK.out _ _ h3.cells (fun hHeld => ?_)
     simp only [Act.put, s1, s2, s3]
     refine rd 2 fun K hK => ?_
     ·
      go_simp
      refine (HCN.out _ h3.j0).mono ?_
      rintro r w4 ⟨rfl, hj, hKc⟩
      have h4 := h3.called hKc hj
      clear hj hKc h3
      refine hK.out _ _ h4.cells (fun hHeld => ?_)
      simp only [Act.put, s1, s2, s3]
      refine tk 11 (.agg #[.int .i64 a, .slice (some ⟨b1, 0, none⟩) x.ps.length x.ps.length, .slice (some ⟨b2, 0, none⟩) x.hs.length x.hs.length, .int .i64 0]) hHeld ?_
      simp only [Act.put, s1, s2, s3]
      refine rd 13 fun K hK => ?_
      refine wp_store_row 92 _ _ rfl b5 #[.int .i64 a, .slice (some ⟨b1, 0, none⟩) x.ps.length x.ps.length, .slice (some ⟨b2, 0, none⟩) x.hs.length x.hs.length, .int .i64 0] (by rfl) (by rfl) 92 _ (h4.m5 rfl).1 Tryz.size92 rfl (all30 ..) ?_
      have hl := h4.stored HD.out
      refine hK.out _ _ hl.1.cells (fun hHeld => ?_)
      simp only [Act.put, s1, s2, s3]
      refine wpAnyH_done (by kernel_rfl) ?_ _
      go_wp2_with fail
      go_meet
      exact ⟨b1, b2, b5, rfl, hl⟩
  ·
   go_simp
   have h1 := h0.alloc5 HD.out
   obtain ⟨w1, hw⟩ : ∃ w1, w1 = w0.alloc (.cells #[.int .i64 0, .slice none 0 0, .slice none 0 0, .int .i64 0] 92) := ⟨_, rfl⟩
   rw [← hw] at h1 ⊢
   clear hw h0 b5
   obtain ⟨b5, hb⟩ : ∃ b5, b5 = w0.heap.size := ⟨_, rfl⟩
   rw [← hb] at h1 ⊢
   clear hb
   refine hK.out _ _ h1.cells (fun hHeld => ?_)
   simp only [Act.put, s1, s2, s3]
   refine wpAnyH_ready (rs := [2, 6, 10]) (by kernel_rfl) (by simp) ?_
   refine (AllReadyH.cons (o := ⟨some 12, .call ⟨.value (.tmp 10), #[.tmp 11, .const (.int .i64 2)], #[111, 3]⟩, 3, "deal.go:34", #[⟨0, .data⟩, ⟨1, .data⟩], none⟩) rfl (fun K hK => ?_) (AllReadyH.cons (o := ⟨some 16, .makeSlice 89 (.tmp 15) (.tmp 15), 89, "deal.go:33", #[⟨5, .data⟩, ⟨5, .data⟩], none⟩) rfl (fun K hK => ?_) (AllReadyH.cons (o := ⟨some 20, .makeSlice 90 (.tmp 19) (.tmp 19), 90, "deal.go:33", #[⟨9, .data⟩, ⟨9, .data⟩], none⟩) rfl (fun K hK => ?_) AllReadyH.nil)))
   ·
    go_simp
    refine (HCN.out _ h1.j0).mono ?_
    rintro r w2 ⟨rfl, hj, hKc⟩
    have h2 := h1.called hKc hj
    clear hj hKc h1
    refine hK.out _ _ h2.cells (fun hHeld => ?_)
    simp only [Act.put, s1, s2, s3]
    refine wpAnyH_ready (rs := [6, 10]) (by kernel_rfl) (by simp) ?_
    refine (AllReadyH.cons (o := ⟨some 16, .makeSlice 89 (.tmp 15) (.tmp 15), 89, "deal.go:33", #[⟨5, .data⟩, ⟨5, .data⟩], none⟩) rfl (fun K hK => ?_) (AllReadyH.cons (o := ⟨some 20, .makeSlice 90 (.tmp 19) (.tmp 19), 90, "deal.go:33", #[⟨9, .data⟩, ⟨9, .data⟩], none⟩) rfl (fun K hK => ?_) AllReadyH.nil))
    ·
     refine step_make rfl (.tmp 15) (.tmp 15) 89 rfl _ _ _ _ rfl rfl (MK1.out _) ?_
     have h3 := h2.make1 HD.out
     obtain ⟨w3, hw⟩ : ∃ w3, w3 = w2.alloc (.cells ((List.replicate x.ps.length z5).flatten).toArray 116) := ⟨_, rfl⟩
     rw [← hw] at h3 ⊢
     clear hw h2 b1
     obtain ⟨b1, hb⟩ : ∃ b1, b1 = w2.heap.size := ⟨_, rfl⟩
     rw [← hb] at h3 ⊢
     clear hb
     refine hK.out _ _ h3.cells (fun hHeld => ?_)
     simp only [Act.put, s1, s2, s3]
     refine rd 10 fun K hK => ?_
     ·
      refine step_make rfl (.tmp 19) (.tmp 19) 90 rfl _ _ _ _ rfl rfl (MK2.out _) ?_
      have h4 := h3.make2 HD.out
      obtain ⟨w4, hw⟩ : ∃ w4, w4 = w3.alloc (.cells ((List.replicate x.hs.length z5).flatten).toArray 107) := ⟨_, rfl⟩
      rw [← hw] at h4 ⊢
      clear hw h3 b2
      obtain ⟨b2, hb⟩ : ∃ b2, b2 = w3.heap.size := ⟨_, rfl⟩
      rw [← hb] at h4 ⊢
      clear hb
      refine hK.out _ _ h4.cells (fun hHeld => ?_)
      simp only [Act.put, s1, s2, s3]
      refine tk 11 (.agg #[.int .i64 a, .slice (some ⟨b1, 0, none⟩) x.ps.length x.ps.length, .slice (some ⟨b2, 0, none⟩) x.hs.length x.hs.length, .int .i64 0]) hHeld ?_
      simp only [Act.put, s1, s2, s3]
      refine rd 13 fun K hK => ?_
      refine wp_store_row 92 _ _ rfl b5 #[.int .i64 a, .slice (some ⟨b1, 0, none⟩) x.ps.length x.ps.length, .slice (some ⟨b2, 0, none⟩) x.hs.length x.hs.length, .int .i64 0] (by rfl) (by rfl) 92 _ (h4.m5 rfl).1 Tryz.size92 rfl (all30 ..) ?_
      have hl := h4.stored HD.out
      refine hK.out _ _ hl.1.cells (fun hHeld => ?_)
      simp only [Act.put, s1, s2, s3]
      refine wpAnyH_done (by kernel_rfl) ?_ _
      go_wp2_with fail
      go_meet
      exact ⟨b1, b2, b5, rfl, hl⟩
    ·
     refine step_make rfl (.tmp 19) (.tmp 19) 90 rfl _ _ _ _ rfl rfl (MK2.out _) ?_
     have h3 := h2.make2 HD.out
     obtain ⟨w3, hw⟩ : ∃ w3, w3 = w2.alloc (.cells ((List.replicate x.hs.length z5).flatten).toArray 107) := ⟨_, rfl⟩
     rw [← hw] at h3 ⊢
     clear hw h2 b2
     obtain ⟨b2, hb⟩ : ∃ b2, b2 = w2.heap.size := ⟨_, rfl⟩
     rw [← hb] at h3 ⊢
     clear hb
     refine hK.out _ _ h3.cells (fun hHeld => ?_)
     simp only [Act.put, s1, s2, s3]
     refine rd 6 fun K hK => ?_
     ·
      refine step_make rfl (.tmp 15) (.tmp 15) 89 rfl _ _ _ _ rfl rfl (MK1.out _) ?_
      have h4 := h3.make1 HD.out
      obtain ⟨w4, hw⟩ : ∃ w4, w4 = w3.alloc (.cells ((List.replicate x.ps.length z5).flatten).toArray 116) := ⟨_, rfl⟩
      rw [← hw] at h4 ⊢
      clear hw h3 b1
      obtain ⟨b1, hb⟩ : ∃ b1, b1 = w3.heap.size := ⟨_, rfl⟩
      rw [← hb] at h4 ⊢
      clear hb
      refine hK.out _ _ h4.cells (fun hHeld => ?_)
      simp only [Act.put, s1, s2, s3]
      refine tk 11 (.agg #[.int .i64 a, .slice (some ⟨b1, 0, none⟩) x.ps.length x.ps.length, .slice (some ⟨b2, 0, none⟩) x.hs.length x.hs.length, .int .i64 0]) hHeld ?_
      simp only [Act.put, s1, s2, s3]
      refine rd 13 fun K hK => ?_
      refine wp_store_row 92 _ _ rfl b5 #[.int .i64 a, .slice (some ⟨b1, 0, none⟩) x.ps.length x.ps.length, .slice (some ⟨b2, 0, none⟩) x.hs.length x.hs.length, .int .i64 0] (by rfl) (by rfl) 92 _ (h4.m5 rfl).1 Tryz.size92 rfl (all30 ..) ?_
      have hl := h4.stored HD.out
      refine hK.out _ _ hl.1.cells (fun hHeld => ?_)
      simp only [Act.put, s1, s2, s3]
      refine wpAnyH_done (by kernel_rfl) ?_ _
      go_wp2_with fail
      go_meet
      exact ⟨b1, b2, b5, rfl, hl⟩
   ·
    refine step_make rfl (.tmp 15) (.tmp 15) 89 rfl _ _ _ _ rfl rfl (MK1.out _) ?_
    have h2 := h1.make1 HD.out
    obtain ⟨w2, hw⟩ : ∃ w2, w2 = w1.alloc (.cells ((List.replicate x.ps.length z5).flatten).toArray 116) := ⟨_, rfl⟩
    rw [← hw] at h2 ⊢
    clear hw h1 b1
    obtain ⟨b1, hb⟩ : ∃ b1, b1 = w1.heap.size := ⟨_, rfl⟩
    rw [← hb] at h2 ⊢
    clear hb
    refine hK.out _ _ h2.cells (fun hHeld => ?_)
    simp only [Act.put, s1, s2, s3]
    refine wpAnyH_ready (rs := [2, 10]) (by kernel_rfl) (by simp) ?_
    refine (AllReadyH.cons (o := ⟨some 12, .call ⟨.value (.tmp 10), #[.tmp 11, .const (.int .i64 2)], #[111, 3]⟩, 3, "deal.go:34", #[⟨0, .data⟩, ⟨1, .data⟩], none⟩) rfl (fun K hK => ?_) (AllReadyH.cons (o := ⟨some 20, .makeSlice 90 (.tmp 19) (.tmp 19), 90, "deal.go:33", #[⟨9, .data⟩, ⟨9, .data⟩], none⟩) rfl (fun K hK => ?_) AllReadyH.nil))
    ·
     go_simp
     refine (HCN.out _ h2.j0).mono ?_
     rintro r w3 ⟨rfl, hj, hKc⟩
     have h3 := h2.called hKc hj
     clear hj hKc h2
     refine hK.out _ _ h3.cells (fun hHeld => ?_)
     simp only [Act.put, s1, s2, s3]
     refine rd 10 fun K hK => ?_
     ·
      refine step_make rfl (.tmp 19) (.tmp 19) 90 rfl _ _ _ _ rfl rfl (MK2.out _) ?_
      have h4 := h3.make2 HD.out
      obtain ⟨w4, hw⟩ : ∃ w4, w4 = w3.alloc (.cells ((List.replicate x.hs.length z5).flatten).toArray 107) := ⟨_, rfl⟩
      rw [← hw] at h4 ⊢
      clear hw h3 b2
      obtain ⟨b2, hb⟩ : ∃ b2, b2 = w3.heap.size := ⟨_, rfl⟩
      rw [← hb] at h4 ⊢
      clear hb
      refine hK.out _ _ h4.cells (fun hHeld => ?_)
      simp only [Act.put, s1, s2, s3]
      refine tk 11 (.agg #[.int .i64 a, .slice (some ⟨b1, 0, none⟩) x.ps.length x.ps.length, .slice (some ⟨b2, 0, none⟩) x.hs.length x.hs.length, .int .i64 0]) hHeld ?_
      simp only [Act.put, s1, s2, s3]
      refine rd 13 fun K hK => ?_
      refine wp_store_row 92 _ _ rfl b5 #[.int .i64 a, .slice (some ⟨b1, 0, none⟩) x.ps.length x.ps.length, .slice (some ⟨b2, 0, none⟩) x.hs.length x.hs.length, .int .i64 0] (by rfl) (by rfl) 92 _ (h4.m5 rfl).1 Tryz.size92 rfl (all30 ..) ?_
      have hl := h4.stored HD.out
      refine hK.out _ _ hl.1.cells (fun hHeld => ?_)
      simp only [Act.put, s1, s2, s3]
      refine wpAnyH_done (by kernel_rfl) ?_ _
      go_wp2_with fail
      go_meet
      exact ⟨b1, b2, b5, rfl, hl⟩
    ·
     refine step_make rfl (.tmp 19) (.tmp 19) 90 rfl _ _ _ _ rfl rfl (MK2.out _) ?_
     have h3 := h2.make2 HD.out
     obtain ⟨w3, hw⟩ : ∃ w3, w3 = w2.alloc (.cells ((List.replicate x.hs.length z5).flatten).toArray 107) := ⟨_, rfl⟩
     rw [← hw] at h3 ⊢
     clear hw h2 b2
     obtain ⟨b2, hb⟩ : ∃ b2, b2 = w2.heap.size := ⟨_, rfl⟩
     rw [← hb] at h3 ⊢
     clear hb
     refine hK.out _ _ h3.cells (fun hHeld => ?_)
     simp only [Act.put, s1, s2, s3]
     refine rd 2 fun K hK => ?_
     ·
      go_simp
      refine (HCN.out _ h3.j0).mono ?_
      rintro r w4 ⟨rfl, hj, hKc⟩
      have h4 := h3.called hKc hj
      clear hj hKc h3
      refine hK.out _ _ h4.cells (fun hHeld => ?_)
      simp only [Act.put, s1, s2, s3]
      refine tk 11 (.agg #[.int .i64 a, .slice (some ⟨b1, 0, none⟩) x.ps.length x.ps.length, .slice (some ⟨b2, 0, none⟩) x.hs.length x.hs.length, .int .i64 0]) hHeld ?_
      simp only [Act.put, s1, s2, s3]
      refine rd 13 fun K hK => ?_
      refine wp_store_row 92 _ _ rfl b5 #[.int .i64 a, .slice (some ⟨b1, 0, none⟩) x.ps.length x.ps.length, .slice (some ⟨b2, 0, none⟩) x.hs.length x.hs.length, .int .i64 0] (by rfl) (by rfl) 92 _ (h4.m5 rfl).1 Tryz.size92 rfl (all30 ..) ?_
      have hl := h4.stored HD.out
      refine hK.out _ _ hl.1.cells (fun hHeld => ?_)
      simp only [Act.put, s1, s2, s3]
      refine wpAnyH_done (by kernel_rfl) ?_ _
      go_wp2_with fail
      go_meet
      exact ⟨b1, b2, b5, rfl, hl⟩
   ·
    refine step_make rfl (.tmp 19) (.tmp 19) 90 rfl _ _ _ _ rfl rfl (MK2.out _) ?_
    have h2 := h1.make2 HD.out
    obtain ⟨w2, hw⟩ : ∃ w2, w2 = w1.alloc (.cells ((List.replicate x.hs.length z5).flatten).toArray 107) := ⟨_, rfl⟩
    rw [← hw] at h2 ⊢
    clear hw h1 b2
    obtain ⟨b2, hb⟩ : ∃ b2, b2 = w1.heap.size := ⟨_, rfl⟩
    rw [← hb] at h2 ⊢
    clear hb
    refine hK.out _ _ h2.cells (fun hHeld => ?_)
    simp only [Act.put, s1, s2, s3]
    refine wpAnyH_ready (rs := [2, 6]) (by kernel_rfl) (by simp) ?_
    refine (AllReadyH.cons (o := ⟨some 12, .call ⟨.value (.tmp 10), #[.tmp 11, .const (.int .i64 2)], #[111, 3]⟩, 3, "deal.go:34", #[⟨0, .data⟩, ⟨1, .data⟩], none⟩) rfl (fun K hK => ?_) (AllReadyH.cons (o := ⟨some 16, .makeSlice 89 (.tmp 15) (.tmp 15), 89, "deal.go:33", #[⟨5, .data⟩, ⟨5, .data⟩], none⟩) rfl (fun K hK => ?_) AllReadyH.nil))
    ·
     go_simp
     refine (HCN.out _ h2.j0).mono ?_
     rintro r w3 ⟨rfl, hj, hKc⟩
     have h3 := h2.called hKc hj
     clear hj hKc h2
     refine hK.out _ _ h3.cells (fun hHeld => ?_)
     simp only [Act.put, s1, s2, s3]
     refine rd 6 fun K hK => ?_
     ·
      refine step_make rfl (.tmp 15) (.tmp 15) 89 rfl _ _ _ _ rfl rfl (MK1.out _) ?_
      have h4 := h3.make1 HD.out
      obtain ⟨w4, hw⟩ : ∃ w4, w4 = w3.alloc (.cells ((List.replicate x.ps.length z5).flatten).toArray 116) := ⟨_, rfl⟩
      rw [← hw] at h4 ⊢
      clear hw h3 b1
      obtain ⟨b1, hb⟩ : ∃ b1, b1 = w3.heap.size := ⟨_, rfl⟩
      rw [← hb] at h4 ⊢
      clear hb
      refine hK.out _ _ h4.cells (fun hHeld => ?_)
      simp only [Act.put, s1, s2, s3]
      refine tk 11 (.agg #[.int .i64 a, .slice (some ⟨b1, 0, none⟩) x.ps.length x.ps.length, .slice (some ⟨b2, 0, none⟩) x.hs.length x.hs.length, .int .i64 0]) hHeld ?_
      simp only [Act.put, s1, s2, s3]
      refine rd 13 fun K hK => ?_
      refine wp_store_row 92 _ _ rfl b5 #[.int .i64 a, .slice (some ⟨b1, 0, none⟩) x.ps.length x.ps.length, .slice (some ⟨b2, 0, none⟩) x.hs.length x.hs.length, .int .i64 0] (by rfl) (by rfl) 92 _ (h4.m5 rfl).1 Tryz.size92 rfl (all30 ..) ?_
      have hl := h4.stored HD.out
      refine hK.out _ _ hl.1.cells (fun hHeld => ?_)
      simp only [Act.put, s1, s2, s3]
      refine wpAnyH_done (by kernel_rfl) ?_ _
      go_wp2_with fail
      go_meet
      exact ⟨b1, b2, b5, rfl, hl⟩
    ·
     refine step_make rfl (.tmp 15) (.tmp 15) 89 rfl _ _ _ _ rfl rfl (MK1.out _) ?_
     have h3 := h2.make1 HD.out
     obtain ⟨w3, hw⟩ : ∃ w3, w3 = w2.alloc (.cells ((List.replicate x.ps.length z5).flatten).toArray 116) := ⟨_, rfl⟩
     rw [← hw] at h3 ⊢
     clear hw h2 b1
     obtain ⟨b1, hb⟩ : ∃ b1, b1 = w2.heap.size := ⟨_, rfl⟩
     rw [← hb] at h3 ⊢
     clear hb
     refine hK.out _ _ h3.cells (fun hHeld => ?_)
     simp only [Act.put, s1, s2, s3]
     refine rd 2 fun K hK => ?_
     ·
      go_simp
      refine (HCN.out _ h3.j0).mono ?_
      rintro r w4 ⟨rfl, hj, hKc⟩
      have h4 := h3.called hKc hj
      clear hj hKc h3
      refine hK.out _ _ h4.cells (fun hHeld => ?_)
      simp only [Act.put, s1, s2, s3]
      refine tk 11 (.agg #[.int .i64 a, .slice (some ⟨b1, 0, none⟩) x.ps.length x.ps.length, .slice (some ⟨b2, 0, none⟩) x.hs.length x.hs.length, .int .i64 0]) hHeld ?_
      simp only [Act.put, s1, s2, s3]
      refine rd 13 fun K hK => ?_
      refine wp_store_row 92 _ _ rfl b5 #[.int .i64 a, .slice (some ⟨b1, 0, none⟩) x.ps.length x.ps.length, .slice (some ⟨b2, 0, none⟩) x.hs.length x.hs.length, .int .i64 0] (by rfl) (by rfl) 92 _ (h4.m5 rfl).1 Tryz.size92 rfl (all30 ..) ?_
      have hl := h4.stored HD.out
      refine hK.out _ _ hl.1.cells (fun hHeld => ?_)
      simp only [Act.put, s1, s2, s3]
      refine wpAnyH_done (by kernel_rfl) ?_ _
      go_wp2_with fail
      go_meet
      exact ⟨b1, b2, b5, rfl, hl⟩
 obtain ⟨b1, b2, b5, rfl, hLS, hLB⟩ := hcut
 have HI0 : Hid (LI w x C N S a b1 b2 b5 (ppA (a + 2) 0) (fun _ => CP.z) (fun _ => []) (fun _ => []) wc ∧ J wc (a + 2) (hist ++ [(⟨2, 0, 0⟩, 2)])) := by
  obtain ⟨m1, m1l⟩ := hLS.m1 rfl
  obtain ⟨m2, m2l⟩ := hLS.m2 rfl
  rw [row5_zero] at m1 m2
  exact ⟨⟨hLS.cfg, hLS.res, hLS.kp, hLS.cin, hLS.cw, hLS.n, hLS.low, hLS.sz, hLB.l, m1, m2, ⟨m1l, m2l, hLB.lo⟩, ⟨hLS.n12 rfl rfl, hLB.n1, hLB.n2⟩, fun i _ => ⟨Row.nil _ _, fun k e => by cases e⟩, fun i _ => ⟨Row.nil _ _, fun k e => by cases e⟩⟩, hLS.j1⟩
 clear hLS hLB HL0 MK1 MK2 HCN hc5 hc6
 obtain ⟨L, hL⟩ : ∃ L, x.ps.length = L := ⟨_, rfl⟩
 obtain ⟨H, hH⟩ : ∃ H, x.hs.length = H := ⟨_, rfl⟩
 have HLH : Hid (x.ps.length = L ∧ x.hs.length = H) := ⟨hL, hH⟩
 have c5 : wc.cell? ⟨C, 5, none⟩ = some (.slice x.pa L x.pc) := by rw [← hL]; exact HI0.out.1.cfg.cell rfl
 rw [hL] at hpc hb8
 rw [hH] at hhc hb16
 simp only [Cfg.v, hL, hH]
 clear hL hH
 go_wp2
 go_loopw [25] (fun i wr => ∃ j : Nat, j ≤ L ∧ i = .int .i64 j ∧ LI w x C N S a b1 b2 b5 (ppA (a + 2) j) (fun _ => CP.z) (fun _ => []) (fun _ => []) wr ∧ J wr (a + 2 + 24 * j) (hist ++ [(⟨2, 0, 0⟩, 2)] ++ partH j)) (fun i _ => L - (intOf i).toNat)
 case atStart => exact ⟨0, by omega, rfl, HI0.out.1, by simpa [partH] using HI0.out.2⟩
 case round =>
  obtain ⟨j, hj, rfl, hI, hJ⟩ := hrel
  clear c5
  by_cases hlt : j < L
  ·
   have HK : Hid (LI w x C N S a b1 b2 b5 (ppA (a + 2) j) (fun _ => CP.z) (fun _ => []) (fun _ => []) wr ∧ J wr (a + 2 + 24 * j) (hist ++ [(⟨2, 0, 0⟩, 2)] ++ partH j)) := ⟨hI, hJ⟩
   have l1 : wr.cell? ⟨b5, 1, none⟩ = some (.slice (some ⟨b1, 0, none⟩) L L) := by rw [← HLH.out.1]; exact hI.l.cell rfl
   have HSW : Hid (∀ k, S k → k < wr.drew.heap.size) := fun k hk => Nat.lt_of_lt_of_le (hI.low k hk).2 hI.kp.size
   clear hI hJ
   go_wp2
   refine wp_region_held_drew (S := (fun w' => w'.cell? ⟨b5, 1, none⟩ = some (.slice (some ⟨b1, 0, none⟩) L L))) Tryz.mixed l1 (fun hHeld => ?_)
   simp only [t1, t2, List.length_nil, Nat.reduceAdd, t4, Array.replicate_zero, t6, List.append_toArray, List.nil_append, t8]
   refine tk 0 (.pointer (some ⟨b5, 1, none⟩)) hHeld ?_
   refine tk 1 (.slice (some ⟨b1, 0, none⟩) L L) hHeld ?_
   refine tk 2 (.int .i64 j) hHeld ?_
   refine tk 3 (.int .i64 j) hHeld ?_
   refine tk 4 (.func (.func f) #[] bs) hHeld ?_
   simp only [Act.put, s1, s2, s3]
   refine rd 5 fun K hK => ?_
   go_simp
   refine (layPartition_any HD.out j _ (a + 2 + 24 * j) _ (HD.out.kept HK.out.2 ((Keeps.refl (fun _ => False) _).drew) fun _ _ h => h) HSW.out (by omega) (by omega)).mono ?_
   rintro r w8 ⟨rfl, hj8, hK8⟩
   have HK8 : Hid (LI w x C N S a b1 b2 b5 (ppA (a + 2) j) (fun _ => CP.z) (fun _ => []) (fun _ => []) w8 ∧ J w8 (a + 2 + 24 * j + 2 + 17 + 5) (hist ++ [(⟨2, 0, 0⟩, 2)] ++ partH j ++ [(⟨3, j, 0⟩, 2), (⟨4, j, 0⟩, 17), (⟨5, j, 0⟩, 5)])) := ⟨(HK.out.1.grow ((Keeps.refl _ _).drew)).call hK8, hj8⟩
   have hS8 : w8.cell? ⟨b5, 1, none⟩ = some (.slice (some ⟨b1, 0, none⟩) L L) := by rw [← HLH.out.1]; exact HK8.out.1.l.cell rfl
   clear hj8 hK8
   refine hK.out _ _ hS8 (fun hHeld => ?_)
   simp only [Act.put, s1, s2, s3]
   refine tk 6 (.pointer (some ⟨b1, j * 5, none⟩)) hHeld ?_
   simp only [Act.put, s1, s2, s3]
   have hjx : j < x.ps.length := by rw [HLH.out.1]; exact hlt
   have hst := HK8.out.1.storeP hjx ⟨a + 2 + 24 * j, a + 2 + 24 * j + 2, a + 2 + 24 * j + 2 + 17, 0, .slice none 0 0⟩ rfl
   have hfit : j * 5 + 5 ≤ (row5 (fun i => (ppA (a + 2) j i).vs) x.ps.length).length := by rw [row5_len (fun i => PP.vs5 _)]; omega
   refine rd 7 fun K hK => ?_
   refine wp_store_mid 116 _ _ rfl b1 (j * 5) (PP.vs ⟨a + 2 + 24 * j, a + 2 + 24 * j + 2, a + 2 + 24 * j + 2 + 17, 0, .slice none 0 0⟩) (by rfl) (by rfl) 116 _ HK8.out.1.p Tryz.size116 hfit (one55 _ rfl) ?_
   obtain ⟨W9, hW9⟩ : ∃ W9, W9 = w8.setRow b1 ((row5 (fun i => (ppA (a + 2) j i).vs) x.ps.length).take (j * 5) ++ PP.vs ⟨a + 2 + 24 * j, a + 2 + 24 * j + 2, a + 2 + 24 * j + 2 + 17, 0, .slice none 0 0⟩ ++ (row5 (fun i => (ppA (a + 2) j i).vs) x.ps.length).drop (j * 5 + (PP.vs ⟨a + 2 + 24 * j, a + 2 + 24 * j + 2, a + 2 + 24 * j + 2 + 17, 0, .slice none 0 0⟩).length)).toArray := ⟨_, rfl⟩
   rw [← hW9] at hst
   have kW9 : Keeps (fun k => k = b1) w8 W9 := by rw [hW9]; exact (Keeps.refl _ _).setRow _ _ fun _ => rfl
   rw [ppA_succ, upd_nil] at hst
   have HK9 : Hid (LI w x C N S a b1 b2 b5 (ppA (a + 2) (j + 1)) (fun _ => CP.z) (fun _ => []) (fun _ => []) W9 ∧ J W9 (a + 2 + 24 * ((j + 1 : Nat) : Int)) (hist ++ [(⟨2, 0, 0⟩, 2)] ++ partH (j + 1))) := by
    refine ⟨hst, ?_⟩
    have h5 := HD.out.kept HK8.out.2 kW9 fun k hk e => by have := (HK8.out.1.low k hk).2; have := HK8.out.1.cw; have := HK8.out.1.lo; omega
    rw [partH_succ, ← List.append_assoc, show a + 2 + 24 * ((j + 1 : Nat) : Int) = a + 2 + 24 * (j : Int) + 2 + 17 + 5 by omega]
    exact h5
   have hS9 : W9.cell? ⟨b5, 1, none⟩ = some (.slice (some ⟨b1, 0, none⟩) L L) := by rw [← HLH.out.1]; exact HK9.out.1.l.cell rfl
   clear hst kW9 hfit hjx
   rw [← hW9]
   refine hK.out _ _ hS9 (fun hHeld => ?_)
   simp only [Act.put, s1, s2, s3]
   refine wpAnyH_done (by kernel_rfl) ?_ _
   clear hW9 hS8 hS9 hHeld l1
   go_wp2
   go_roundw
   case rel => exact ⟨j + 1, by omega, by go_num, HK9.out.1, HK9.out.2⟩
   case measure => simp [intOf]; omega
  ·
   obtain rfl : L = j := by omega
   have HA : Hid (LI w x C N S a b1 b2 b5 (ppA (a + 2) L) (fun _ => CP.z) (fun _ => []) (fun _ => []) wr ∧ J wr (chB x a) (hist ++ [(⟨2, 0, 0⟩, 2)] ++ partH L)) := ⟨hI, by unfold chB; rw [HLH.out.1]; exact hJ⟩
   have c6 : wr.cell? ⟨C, 6, none⟩ = some (.slice x.ha H x.hc) := by rw [← HLH.out.2]; exact hI.cfg.cell rfl
   have HB0 : Hid (a ≤ chB x a ∧ chB x a ≤ 21000) := by show _ ∧ _; unfold chB; rw [HLH.out.1]; omega
   clear hI hJ HI0
   obtain ⟨wA, hwA⟩ : ∃ wA, wA = wr := ⟨_, rfl⟩
   subst hwA
   go_wp2
   go_loopw [39] (fun i wr => ∃ n : Nat, n ≤ H ∧ i = .int .i64 n ∧ ∃ G D, LI w x C N S a b1 b2 b5 (ppA (a + 2) L) G (fun _ => []) D wr ∧ GOK x (chB x a) n G D ∧ J wr (chAt x (chB x a) n) (hist ++ [(⟨2, 0, 0⟩, 2)] ++ partH L ++ chansH x n)) (fun i _ => H - (intOf i).toNat)
   case atStart => exact ⟨0, by omega, rfl, _, _, HA.out.1, fun i hi => by omega, by simpa [chansH, chAt] using HA.out.2⟩
   case round =>
    obtain ⟨n, hn, rfl, G, D, hI, hG, hJ⟩ := hrel
    clear c6
    by_cases hlt : n < H
    ·
     obtain ⟨h, hh⟩ : ∃ h, x.hs[n]? = some h := ⟨_, List.getElem?_eq_getElem (by have := HLH.out.2; omega)⟩
     have HK : Hid (LI w x C N S a b1 b2 b5 (ppA (a + 2) L) G (fun _ => []) D wr ∧ GOK x (chB x a) n G D ∧ J wr (chAt x (chB x a) n) (hist ++ [(⟨2, 0, 0⟩, 2)] ++ partH L ++ chansH x n) ∧ x.hs[n]? = some h) := ⟨hI, hG, hJ, hh⟩
     have l2 : wr.cell? ⟨b5, 2, none⟩ = some (.slice (some ⟨b2, 0, none⟩) H H) := by rw [← HLH.out.2]; exact hI.l.cell rfl
     have q0 := hI.cfg.cell (i := 0) rfl
     have q1 := hI.cfg.cell (i := 1) rfl
     have q2 := hI.cfg.cell (i := 2) rfl
     have q3 := hI.cfg.cell (i := 3) rfl
     have q4 := hI.cfg.cell (i := 4) rfl
     have q5 := hI.cfg.cell (i := 5) rfl
     have q6 := hI.cfg.cell (i := 6) rfl
     rw [HLH.out.1] at q5
     rw [HLH.out.2] at q6
     have HC : Hid (∀ w', LI w x C N S a b1 b2 b5 (ppA (a + 2) L) G (fun _ => []) D w' → J w' (chAt x (chB x a) n) (hist ++ [(⟨2, 0, 0⟩, 2)] ++ partH L ++ chansH x n) → Calls Tryz.prog 132 #[.agg #[.int .i64 x.frames, .int .i64 x.major, .int .i64 x.kernel, .int .i64 x.room, .slice x.ca x.cs.length x.cc, .slice x.pa L x.pc, .slice x.ha H x.hc], .int .i64 n, .func (.func f) #[] bs] w' (ChP J S x n h w' (chAt x (chB x a) n) (hist ++ [(⟨2, 0, 0⟩, 2)] ++ partH L ++ chansH x n))) := by
      intro w' hI' hJ'
      have hb := chAt_bd HM.out (chB x a) n
      have hb0 := HB0.out
      have hnn : N ≤ w'.heap.size := by have := hI'.n; have := hI'.sz; omega
      have hlw : ∀ k, S k → N ≤ k ∧ k < w'.heap.size := fun k hk => ⟨(hI'.low k hk).1, Nat.lt_of_lt_of_le (hI'.low k hk).2 hI'.kp.size⟩
      have := layChannel_any HD.out x n h hh HM.out w' N hI'.cin hnn (chAt x (chB x a) n) _ hJ' hlw (by omega) (by omega)
      unfold Cfg.v at this
      rw [HLH.out.1, HLH.out.2] at this
      exact this
     clear hI hG hJ hh
     go_wp2
     refine wp_region_held_drew (S := (fun w' => w'.cell? ⟨b5, 2, none⟩ = some (.slice (some ⟨b2, 0, none⟩) H H) ∧ w'.cell? ⟨C, 0, none⟩ = some (.int .i64 x.frames) ∧ w'.cell? ⟨C, 1, none⟩ = some (.int .i64 x.major) ∧ w'.cell? ⟨C, 2, none⟩ = some (.int .i64 x.kernel) ∧ w'.cell? ⟨C, 3, none⟩ = some (.int .i64 x.room) ∧ w'.cell? ⟨C, 4, none⟩ = some (.slice x.ca x.cs.length x.cc) ∧ w'.cell? ⟨C, 5, none⟩ = some (.slice x.pa L x.pc) ∧ w'.cell? ⟨C, 6, none⟩ = some (.slice x.ha H x.hc))) Tryz.mixed ⟨l2, q0, q1, q2, q3, q4, q5, q6⟩ (fun hHeld => ?_)
     simp only [t1, t2, List.length_nil, Nat.reduceAdd, t4, Array.replicate_zero, t6, List.append_toArray, List.nil_append, t8]
     refine tk 0 (.pointer (some ⟨b5, 2, none⟩)) hHeld ?_
     refine tk 1 (.slice (some ⟨b2, 0, none⟩) H H) hHeld ?_
     refine tk 2 (.int .i64 n) hHeld ?_
     refine tk 3 (.agg #[.int .i64 x.frames, .int .i64 x.major, .int .i64 x.kernel, .int .i64 x.room, .slice x.ca x.cs.length x.cc, .slice x.pa L x.pc, .slice x.ha H x.hc]) hHeld ?_
     refine tk 4 (.int .i64 n) hHeld ?_
     refine tk 5 (.func (.func f) #[] bs) hHeld ?_
     simp only [Act.put, s1, s2, s3]
     refine rd 6 fun K hK => ?_
     go_simp
     refine (HC.out wr.drew (HK.out.1.grow ((Keeps.refl _ _).drew)) (HD.out.kept HK.out.2.2.1 ((Keeps.refl (fun _ => False) _).drew) fun _ _ h => h)).mono ?_
     rintro r w8 ⟨s, v, hs, rfl, hRow, hj8, hK8⟩
     have hI8 := (HK.out.1.grow ((Keeps.refl _ _).drew)).call hK8
     have hbl : ∀ k, v.ownBlock = some k → k ≠ b1 ∧ k ≠ b2 ∧ k ≠ b5 := fun k e => by
      have h1 := hRow.low k e
      have h2 : b1 < wr.heap.size := HK.out.1.p.lt
      have h3 : b2 < wr.heap.size := HK.out.1.c.lt
      have h4 : b5 < wr.heap.size := HK.out.1.l.lt
      have h5 : wr.drew.heap.size = wr.heap.size := rfl
      omega
     obtain ⟨vad, vcp, hvs, _⟩ := hRow.lst
     have hRow2 := hRow.lower' (lo' := C + 2) HK.out.1.sz
     have HK8 : Hid (LI w x C N S a b1 b2 b5 (ppA (a + 2) L) G (fun _ => []) D w8 ∧ J w8 (chAt x (chB x a) (n + 1)) (hist ++ [(⟨2, 0, 0⟩, 2)] ++ partH L ++ chansH x (n + 1)) ∧ endsL true n x.ps x.ps.length = [s] ∧ Row eDst w8 (C + 2) v (placed (dstsOf x n) (chAt x (chB x a) n + 2 + h.stg) h.prt (dstsOf x n).length) ∧ (∀ k, v.ownBlock = some k → k ≠ b1 ∧ k ≠ b2 ∧ k ≠ b5) ∧ ∃ ad m cp, v = .slice ad m cp) :=
      ⟨hI8, by rw [chAt_succ HK.out.2.2.2, chansH_succ HK.out.2.2.2, ← List.append_assoc]; exact hj8, hs, hRow2, hbl, vad, _, vcp, hvs⟩
     have hS8 : w8.cell? ⟨b5, 2, none⟩ = some (.slice (some ⟨b2, 0, none⟩) H H) ∧ w8.cell? ⟨C, 0, none⟩ = some (.int .i64 x.frames) ∧ w8.cell? ⟨C, 1, none⟩ = some (.int .i64 x.major) ∧ w8.cell? ⟨C, 2, none⟩ = some (.int .i64 x.kernel) ∧ w8.cell? ⟨C, 3, none⟩ = some (.int .i64 x.room) ∧ w8.cell? ⟨C, 4, none⟩ = some (.slice x.ca x.cs.length x.cc) ∧ w8.cell? ⟨C, 5, none⟩ = some (.slice x.pa L x.pc) ∧ w8.cell? ⟨C, 6, none⟩ = some (.slice x.ha H x.hc) := by
      have g5 := hI8.cfg.cell (i := 5) rfl
      have g6 := hI8.cfg.cell (i := 6) rfl
      have gl := hI8.l.cell (i := 2) rfl
      rw [HLH.out.1] at g5
      rw [HLH.out.2] at g6 gl
      exact ⟨gl, hI8.cfg.cell rfl, hI8.cfg.cell rfl, hI8.cfg.cell rfl, hI8.cfg.cell rfl, hI8.cfg.cell rfl, g5, g6⟩
     clear hj8 hK8 hI8 hbl hvs hRow hRow2 hs
     refine hK.out _ _ hS8 (fun hHeld => ?_)
     simp only [Act.put, s1, s2, s3]
     refine tk 7 (.pointer (some ⟨b2, n * 5, none⟩)) hHeld ?_
     simp only [Act.put, s1, s2, s3]
     have hnx : n < x.hs.length := by rw [HLH.out.2]; exact hlt
     obtain ⟨ad9, m9, c9, e9⟩ := HK8.out.2.2.2.2.2
     have hst := HK8.out.1.storeC hnx ⟨chAt x (chB x a) n, chAt x (chB x a) n + 2, s.p, s.q, v⟩ _ HK8.out.2.2.2.1 HK8.out.2.2.2.2.1
     have hfit : n * 5 + 5 ≤ (row5 (fun i => (G i).vs) x.hs.length).length := by rw [row5_len (fun i => CP.vs5 _)]; omega
     refine rd 8 fun K hK => ?_
     refine wp_store_mid 107 _ _ rfl b2 (n * 5) (CP.vs ⟨chAt x (chB x a) n, chAt x (chB x a) n + 2, s.p, s.q, v⟩) (by rfl) (by rfl) 107 _ HK8.out.1.c Tryz.size107 hfit (one59 _ ad9 m9 c9 e9) ?_
     obtain ⟨W9, hW9⟩ : ∃ W9, W9 = w8.setRow b2 ((row5 (fun i => (G i).vs) x.hs.length).take (n * 5) ++ CP.vs ⟨chAt x (chB x a) n, chAt x (chB x a) n + 2, s.p, s.q, v⟩ ++ (row5 (fun i => (G i).vs) x.hs.length).drop (n * 5 + (CP.vs ⟨chAt x (chB x a) n, chAt x (chB x a) n + 2, s.p, s.q, v⟩).length)).toArray := ⟨_, rfl⟩
     rw [← hW9] at hst
     have kW9 : Keeps (fun k => k = b2) w8 W9 := by rw [hW9]; exact (Keeps.refl _ _).setRow _ _ fun _ => rfl
     have HK9 : Hid (LI w x C N S a b1 b2 b5 (ppA (a + 2) L) (upd G n ⟨chAt x (chB x a) n, chAt x (chB x a) n + 2, s.p, s.q, v⟩) (fun _ => []) (upd D n (placed (dstsOf x n) (chAt x (chB x a) n + 2 + h.stg) h.prt (dstsOf x n).length)) W9 ∧ J W9 (chAt x (chB x a) (n + 1)) (hist ++ [(⟨2, 0, 0⟩, 2)] ++ partH L ++ chansH x (n + 1)) ∧ GOK x (chB x a) (n + 1) (upd G n ⟨chAt x (chB x a) n, chAt x (chB x a) n + 2, s.p, s.q, v⟩) (upd D n (placed (dstsOf x n) (chAt x (chB x a) n + 2 + h.stg) h.prt (dstsOf x n).length))) := by
      refine ⟨hst, ?_, HK.out.2.1.next HK8.out.2.2.1 HK.out.2.2.2 v⟩
      exact HD.out.kept HK8.out.2.1 kW9 fun k hk e => by have := (HK8.out.1.low k hk).2; have := HK8.out.1.cw; have := HK8.out.1.lo; omega
     have hS9 : W9.cell? ⟨b5, 2, none⟩ = some (.slice (some ⟨b2, 0, none⟩) H H) ∧ W9.cell? ⟨C, 0, none⟩ = some (.int .i64 x.frames) ∧ W9.cell? ⟨C, 1, none⟩ = some (.int .i64 x.major) ∧ W9.cell? ⟨C, 2, none⟩ = some (.int .i64 x.kernel) ∧ W9.cell? ⟨C, 3, none⟩ = some (.int .i64 x.room) ∧ W9.cell? ⟨C, 4, none⟩ = some (.slice x.ca x.cs.length x.cc) ∧ W9.cell? ⟨C, 5, none⟩ = some (.slice x.pa L x.pc) ∧ W9.cell? ⟨C, 6, none⟩ = some (.slice x.ha H x.hc) := by
      have hI9 := HK9.out.1
      have g5 := hI9.cfg.cell (i := 5) rfl
      have g6 := hI9.cfg.cell (i := 6) rfl
      have gl := hI9.l.cell (i := 2) rfl
      rw [HLH.out.1] at g5
      rw [HLH.out.2] at g6 gl
      exact ⟨gl, hI9.cfg.cell rfl, hI9.cfg.cell rfl, hI9.cfg.cell rfl, hI9.cfg.cell rfl, hI9.cfg.cell rfl, g5, g6⟩
     clear hst kW9 hfit hnx
     rw [← hW9]
     refine hK.out _ _ hS9 (fun hHeld => ?_)
     simp only [Act.put, s1, s2, s3]
     refine wpAnyH_done (by kernel_rfl) ?_ _
     clear hW9 hS8 hS9 hHeld l2 q0 q1 q2 q3 q4 q5 q6 e9
     go_wp2
     go_roundw
     case rel => exact ⟨n + 1, by omega, by go_num, _, _, HK9.out.1, HK9.out.2.2, HK9.out.2.1⟩
     case measure => simp [intOf]; omega
    ·
     obtain rfl : H = n := by omega
     have HF0 : Hid (LI w x C N S a b1 b2 b5 (ppA (a + 2) L) G (fun _ => []) D wr ∧ GOK x (chB x a) H G D ∧ J wr (chE x a) (hist ++ [(⟨2, 0, 0⟩, 2)] ++ partH L ++ chansH x H)) := ⟨hI, hG, by unfold chE; rw [HLH.out.2]; exact hJ⟩
     have HB1 : Hid (0 ≤ chE x a ∧ chE x a ≤ 40000) := by
      have := chAt_bd HM.out (chB x a) x.hs.length
      have hb0 := HB0.out
      have hh := HLH.out.2
      show _ ∧ _
      unfold chE
      omega
     clear hI hG hJ
     have HC : Hid (Calls Tryz.prog 133 #[.func (.func f) #[] bs] wr fun e w' => e = .returned (.tuple #[]) ∧ J w' (chE x a + fillN (chE x a)) (hist ++ [(⟨2, 0, 0⟩, 2)] ++ partH L ++ chansH x H ++ fillH (chE x a)) ∧ Keeps S wr w') := fillFrame_any HD.out wr (chE x a) _ HF0.out.2.2 HB1.out.1 (by have := HB1.out.2; omega)
     go_wp2_with fail
     refine HC.out.mono ?_
     rintro e wF ⟨rfl, hjF, hKF⟩
     have HF1 : Hid (LI w x C N S a b1 b2 b5 (ppA (a + 2) L) G (fun _ => []) D wF ∧ GOK x (chB x a) H G D ∧ J wF (rtB x a) (hist ++ [(⟨2, 0, 0⟩, 2)] ++ partH L ++ chansH x H ++ fillH (chE x a))) := ⟨HF0.out.1.call hKF, HF0.out.2.1, hjF⟩
     have HB2 : Hid (0 ≤ rtB x a ∧ rtB x a ≤ 41000 ∧ rtB x a % 16 = 0) := by
      have hb := HB1.out
      show _ ∧ _ ∧ _
      unfold rtB fillN
      split <;> omega
     have c5 : wF.cell? ⟨C, 5, none⟩ = some (.slice x.pa L x.pc) := by rw [← HLH.out.1]; exact HF1.out.1.cfg.cell rfl
     clear hjF hKF HC HF0 HB1
     go_wp2
     go_loopw [56] (fun i wr => ∃ j : Nat, j ≤ L ∧ i = .int .i64 j ∧ ∃ F T, LI w x C N S a b1 b2 b5 F G T D wr ∧ FOK x (a + 2) (rtB x a) j F T ∧ J wr (rtAt x (rtB x a) j) (hist ++ [(⟨2, 0, 0⟩, 2)] ++ partH L ++ chansH x H ++ fillH (chE x a) ++ tabsH x j)) (fun i _ => L - (intOf i).toNat)
     case atStart =>
      refine ⟨0, by omega, rfl, _, _, HF1.out.1, fun i hi => ?_, by simpa [tabsH, rtAt] using HF1.out.2.2⟩
      rw [HLH.out.1] at hi
      unfold ppA
      rw [if_pos hi]
      exact ⟨rfl, rfl, rfl, fun h => by omega⟩
     case round =>
      obtain ⟨j, hj, rfl, F, T, hI, hF, hJ⟩ := hrel
      clear c5
      by_cases hlt : j < L
      ·
       obtain ⟨X, hX⟩ : ∃ X, x.ps[j]? = some X := ⟨_, List.getElem?_eq_getElem (by have := HLH.out.1; omega)⟩
       obtain ⟨g0, o0, hpa, hc⟩ := hI.cin.par hX
       have p0 := hc 0 _ rfl
       rw [Nat.add_zero] at p0
       have p1 := hc 1 _ rfl
       have p2 := hc 2 _ rfl
       have p3 := hc 3 _ rfl
       have p4 := hc 4 _ rfl
       have p5 := hc 5 _ rfl
       have p6 := hc 6 _ rfl
       have p7 := hc 7 _ rfl
       obtain ⟨W1, hW1⟩ : ∃ W1, W1 = Par.laid wr X := ⟨_, rfl⟩
       obtain ⟨E, hE⟩ : ∃ E, E = wr.heap.size := ⟨_, rfl⟩
       have k1 : KF wr W1 := by rw [hW1]; exact (Keeps.refl _ _).alloc _
       have HK : Hid (LI w x C N S a b1 b2 b5 F G T D W1 ∧ FOK x (a + 2) (rtB x a) j F T ∧ J W1 (rtAt x (rtB x a) j) (hist ++ [(⟨2, 0, 0⟩, 2)] ++ partH L ++ chansH x H ++ fillH (chE x a) ++ tabsH x j) ∧ x.ps[j]? = some X ∧ Blk W1 E X.vs 41 ∧ C + 2 ≤ E ∧ b1 < E ∧ b2 < E ∧ b5 < E) :=
        ⟨hI.grow k1, hF, HD.out.kept hJ k1 fun _ _ h => h, hX, by rw [hW1, hE]; exact Blk.new _ _ _, by rw [hE]; exact hI.sz, by rw [hE]; exact hI.p.lt, by rw [hE]; exact hI.c.lt, by rw [hE]; exact hI.l.lt⟩
       clear hI hF hJ hX hc k1
       unfold Par.laid at hW1
       rw [hpa]
       go_upto_region 16 with fail
       rw [← hW1, ← hE]
       clear hW1 hE p0 p1 p2 p3 p4 p5 p6 p7
       have HC : Hid (∀ w', LI w x C N S a b1 b2 b5 F G T D w' → J w' (rtAt x (rtB x a) j) (hist ++ [(⟨2, 0, 0⟩, 2)] ++ partH L ++ chansH x H ++ fillH (chE x a) ++ tabsH x j) → Calls Tryz.prog 134 #[.int .i64 j, .slice X.ra X.rs.length X.rc, .func (.func f) #[] bs] w' fun e w'' => ∃ u, e = .returned (.tuple #[.int .i64 (rtAt x (rtB x a) j / 16), u]) ∧ Row eInt w'' w'.heap.size u (tabL (rtAt x (rtB x a) j) (cntT X.rs 16)) ∧
         J w'' (rtAt x (rtB x a) j + 16 + 16 * (cntT X.rs 16 : Int)) (hist ++ [(⟨2, 0, 0⟩, 2)] ++ partH L ++ chansH x H ++ fillH (chE x a) ++ tabsH x j ++ List.replicate (1 + cntT X.rs 16) (⟨9, j, 0⟩, 16)) ∧ Keeps S w' w'') := by
        intro w' hI' hJ'
        have hb := rtAt_bd x (rtB x a) j
        have hb0 := HB2.out
        have hXi := hI'.cin.pin X (List.mem_of_getElem? HK.out.2.2.2.1)
        have hlw : ∀ k, S k → k < w'.heap.size := fun k hk => Nat.lt_of_lt_of_le (hI'.low k hk).2 hI'.kp.size
        have hal := (Par.mayB_iff.1 ((Cfg.mayB_iff.1 HM.out).2.2.2.2.1 X (List.mem_of_getElem? HK.out.2.2.2.1))).2.2.1
        have h16 := hb.2.2 hb0.2.2
        exact layTables_any HD.out j X.ra X.rc X.rs w' (rtAt x (rtB x a) j) _ hJ' hlw (by omega) (by omega) h16 hXi.rseg hXi.rlen hal (fun h1 y hy e => by have := hXi.rlo h1 y hy; have := (hI'.low _ e).1; omega)
       have hS0 : W1.cell? ⟨b5, 1, none⟩ = some (.slice (some ⟨b1, 0, none⟩) L L) ∧ W1.cell? ⟨E, 6, none⟩ = some (.slice X.ra X.rs.length X.rc) := by
        have gl := HK.out.1.l.cell (i := 1) rfl
        rw [HLH.out.1] at gl
        exact ⟨gl, HK.out.2.2.2.2.1.cell rfl⟩
       refine wp_region_held_drew (S := (fun w' => w'.cell? ⟨b5, 1, none⟩ = some (.slice (some ⟨b1, 0, none⟩) L L) ∧ w'.cell? ⟨E, 6, none⟩ = some (.slice X.ra X.rs.length X.rc))) Tryz.mixed hS0 (fun hHeld => ?_)
       simp only [t1, t2, List.length_nil, Nat.reduceAdd, t4, Array.replicate_zero, t6, List.append_toArray, List.nil_append, t8]
       refine tk 0 (.pointer (some ⟨b5, 1, none⟩)) hHeld ?_
       refine tk 1 (.slice (some ⟨b1, 0, none⟩) L L) hHeld ?_
       refine tk 2 (.int .i64 j) hHeld ?_
       refine tk 3 (.pointer (some ⟨b5, 1, none⟩)) hHeld ?_
       refine tk 4 (.slice (some ⟨b1, 0, none⟩) L L) hHeld ?_
       refine tk 5 (.int .i64 j) hHeld ?_
       refine tk 6 (.int .i64 j) hHeld ?_
       refine tk 7 (.pointer (some ⟨E, 6, none⟩)) hHeld ?_
       refine tk 8 (.slice X.ra X.rs.length X.rc) hHeld ?_
       refine tk 9 (.func (.func f) #[] bs) hHeld ?_
       simp only [Act.put, s1, s2, s3]
       refine rd 10 fun K hK => ?_
       go_simp
       refine (HC.out W1.drew (HK.out.1.grow ((Keeps.refl _ _).drew)) (HD.out.kept HK.out.2.2.1 ((Keeps.refl (fun _ => False) _).drew) fun _ _ h => h)).mono ?_
       rintro r w8 ⟨v, rfl, hRow, hj8, hK8⟩
       have hI8 := (HK.out.1.grow ((Keeps.refl _ _).drew)).call hK8
       have hbl : ∀ k, v.ownBlock = some k → k ≠ b1 ∧ k ≠ b2 ∧ k ≠ b5 := fun k e => by
        have h1 := hRow.low k e
        have h2 : b1 < W1.heap.size := HK.out.1.p.lt
        have h3 : b2 < W1.heap.size := HK.out.1.c.lt
        have h4 : b5 < W1.heap.size := HK.out.1.l.lt
        have h5 : W1.drew.heap.size = W1.heap.size := rfl
        omega
       obtain ⟨vad, vcp, hvs, _⟩ := hRow.lst
       have hRow2 := hRow.lower' (lo' := C + 2) HK.out.1.sz
       obtain ⟨VL, hVL⟩ : ∃ VL, (tabL (rtAt x (rtB x a) j) (cntT X.rs 16)).length = VL := ⟨_, rfl⟩
       rw [hVL] at hvs
       subst hvs
       have HK8 : Hid (LI w x C N S a b1 b2 b5 F G T D w8 ∧ J w8 (rtAt x (rtB x a) (j + 1)) (hist ++ [(⟨2, 0, 0⟩, 2)] ++ partH L ++ chansH x H ++ fillH (chE x a) ++ tabsH x (j + 1)) ∧ Row eInt w8 (C + 2) (.slice vad VL vcp) (tabL (rtAt x (rtB x a) j) (cntT X.rs 16)) ∧ (∀ k, (Value.slice vad VL vcp).ownBlock = some k → k ≠ b1 ∧ k ≠ b2 ∧ k ≠ b5) ∧ Blk w8 E X.vs 41) := by
        refine ⟨hI8, ?_, hRow2, hbl, (HK.out.2.2.2.2.1.drew).kept hK8 fun e => ?_⟩
        ·
         rw [rtAt_succ HK.out.2.2.2.1, tabsH_succ HK.out.2.2.2.1, ← List.append_assoc]; exact hj8
        ·
         have := (HK.out.1.low _ e).2; have := HK.out.1.cw; have := HK.out.2.2.2.2.2.1; omega
       have hS8 : w8.cell? ⟨b5, 1, none⟩ = some (.slice (some ⟨b1, 0, none⟩) L L) ∧ w8.cell? ⟨E, 6, none⟩ = some (.slice X.ra X.rs.length X.rc) := by
        have gl := HK8.out.1.l.cell (i := 1) rfl
        rw [HLH.out.1] at gl
        exact ⟨gl, HK8.out.2.2.2.2.cell rfl⟩
       clear hj8 hK8 hI8 hbl hRow hRow2 hVL
       obtain ⟨RT, hRT⟩ : ∃ RT, rtAt x (rtB x a) j / 16 = RT := ⟨_, rfl⟩
       have HRT : Hid (rtAt x (rtB x a) j / 16 = RT) := hRT
       rw [hRT]
       clear hRT
       have hjx : j < x.ps.length := by rw [HLH.out.1]; exact hlt
       refine hK.out _ _ hS8 (fun hHeld => ?_)
       simp only [Act.put, s1, s2, s3]
       refine tk 11 (.tuple #[.int .i64 RT, .slice vad VL vcp]) hHeld ?_
       refine tk 12 (.int .i64 RT) hHeld ?_
       refine tk 13 (.slice vad VL vcp) hHeld ?_
       refine tk 14 (.pointer (some ⟨b1, j * 5, none⟩)) hHeld ?_
       refine tk 15 (.pointer (some ⟨b1, j * 5 + 3, none⟩)) hHeld ?_
       simp only [Act.put, s1, s2, s3]
       have z3 := HK8.out.1.p.cell (i := j * 5 + 3) (by rw [row5_get (fun i => PP.vs5 _) hjx (by omega)]; rfl)
       have zf3 := HK8.out.1.p.frozen (j * 5 + 3)
       refine rd 16 fun K hK => ?_
       go_simp
       have hr9 := HK8.out.1.root hjx RT
       obtain ⟨W9, hW9⟩ : ∃ W9, W9 = w8.setCell ⟨b1, j * 5 + 3, none⟩ (.int .i64 RT) := ⟨_, rfl⟩
       have k9 : Keeps (fun k => k = b1) w8 W9 := by rw [hW9]; exact (Keeps.refl _ _).setCell _ _ fun _ => rfl
       rw [← hW9] at hr9
       have HK9 : Hid (LI w x C N S a b1 b2 b5 (upd F j { F j with root := RT }) G T D W9 ∧ J W9 (rtAt x (rtB x a) (j + 1)) (hist ++ [(⟨2, 0, 0⟩, 2)] ++ partH L ++ chansH x H ++ fillH (chE x a) ++ tabsH x (j + 1)) ∧ Row eInt W9 (C + 2) (.slice vad VL vcp) (tabL (rtAt x (rtB x a) j) (cntT X.rs 16)) ∧ Blk W9 E X.vs 41) := by
        refine ⟨hr9, HD.out.kept HK8.out.2.1 k9 fun k hk e => by have := (HK8.out.1.low k hk).2; have := HK8.out.1.cw; have := HK8.out.1.lo; omega, HK8.out.2.2.1.own_kept eInt_bl k9 fun k hk e => (HK8.out.2.2.2.1 k hk).1 e, HK8.out.2.2.2.2.kept k9 fun e => ?_⟩
        have := HK.out.2.2.2.2.2.2.1
        omega
       have hS9 : W9.cell? ⟨b5, 1, none⟩ = some (.slice (some ⟨b1, 0, none⟩) L L) ∧ W9.cell? ⟨E, 6, none⟩ = some (.slice X.ra X.rs.length X.rc) := by
        have gl := HK9.out.1.l.cell (i := 1) rfl
        rw [HLH.out.1] at gl
        exact ⟨gl, HK9.out.2.2.2.cell rfl⟩
       clear hr9 k9 z3 zf3
       rw [← hW9]
       clear hW9
       refine hK.out _ _ hS9 (fun hHeld => ?_)
       simp only [Act.put, s1, s2, s3]
       refine tk 17 (.pointer (some ⟨b1, j * 5, none⟩)) hHeld ?_
       refine tk 18 (.pointer (some ⟨b1, j * 5 + 4, none⟩)) hHeld ?_
       simp only [Act.put, s1, s2, s3]
       have z4 := HK9.out.1.p.cell (i := j * 5 + 4) (by rw [row5_get (fun i => PP.vs5 _) hjx (by omega)]; rfl)
       have zf4 := HK9.out.1.p.frozen (j * 5 + 4)
       refine rd 19 fun K hK => ?_
       go_simp
       have ht10 := HK9.out.1.tabs hjx (.slice vad VL vcp) _ HK9.out.2.2.1 HK8.out.2.2.2.1
       obtain ⟨W10, hW10⟩ : ∃ W10, W10 = W9.setCell ⟨b1, j * 5 + 4, none⟩ (.slice vad VL vcp) := ⟨_, rfl⟩
       have k10 : Keeps (fun k => k = b1) W9 W10 := by rw [hW10]; exact (Keeps.refl _ _).setCell _ _ fun _ => rfl
       rw [← hW10] at ht10
       have hfk := HK.out.2.1.next HK.out.2.2.2.1 (.slice vad VL vcp)
       rw [HRT.out] at hfk
       have HK10 : Hid ((∃ F' T', LI w x C N S a b1 b2 b5 F' G T' D W10 ∧ FOK x (a + 2) (rtB x a) (j + 1) F' T') ∧ J W10 (rtAt x (rtB x a) (j + 1)) (hist ++ [(⟨2, 0, 0⟩, 2)] ++ partH L ++ chansH x H ++ fillH (chE x a) ++ tabsH x (j + 1)) ∧ Blk W10 E X.vs 41) := by
        refine ⟨⟨_, _, ht10, hfk⟩, HD.out.kept HK9.out.2.1 k10 fun k hk e => by have := (HK8.out.1.low k hk).2; have := HK8.out.1.cw; have := HK8.out.1.lo; omega, HK9.out.2.2.2.kept k10 fun e => ?_⟩
        have := HK.out.2.2.2.2.2.2.1
        omega
       have hS10 : W10.cell? ⟨b5, 1, none⟩ = some (.slice (some ⟨b1, 0, none⟩) L L) ∧ W10.cell? ⟨E, 6, none⟩ = some (.slice X.ra X.rs.length X.rc) := by
        have gl := ht10.l.cell (i := 1) rfl
        rw [HLH.out.1] at gl
        exact ⟨gl, HK10.out.2.2.cell rfl⟩
       clear ht10 k10 z4 zf4 hfk
       rw [← hW10]
       clear hW10
       refine hK.out _ _ hS10 (fun hHeld => ?_)
       simp only [Act.put, s1, s2, s3]
       refine wpAnyH_done (by kernel_rfl) ?_ _
       clear hS8 hS9 hS10 hHeld hS0 hjx
       go_wp2
       go_roundw
       case rel => obtain ⟨F', T', h1, h2⟩ := HK10.out.1; exact ⟨j + 1, by omega, by go_num, F', T', h1, h2, HK10.out.2.1⟩
       case measure => simp [intOf]; omega
      ·
       obtain rfl : L = j := by omega
       have HZ : Hid (LI w x C N S a b1 b2 b5 F G T D wr ∧ FOK x (a + 2) (rtB x a) L F T ∧ J wr (rtAt x (rtB x a) L) (hist ++ [(⟨2, 0, 0⟩, 2)] ++ partH L ++ chansH x H ++ fillH (chE x a) ++ tabsH x L)) := ⟨hI, hF, hJ⟩
       have HBZ : Hid (0 ≤ rtAt x (rtB x a) L ∧ rtAt x (rtB x a) L ≤ 50000) := by
        have hb := rtAt_bd x (rtB x a) L
        have hb0 := HB2.out
        show _ ∧ _
        omega
       clear hI hF hJ
       have HC : Hid (Calls Tryz.prog 135 #[.func (.func f) #[] bs] wr fun e w' => e = .returned (.int .i64 (rtAt x (rtB x a) L)) ∧ J w' (rtAt x (rtB x a) L) (hist ++ [(⟨2, 0, 0⟩, 2)] ++ partH L ++ chansH x H ++ fillH (chE x a) ++ tabsH x L ++ [(⟨0, 0, 0⟩, 0)]) ∧ Keeps S wr w') := here_any HD.out wr _ _ HZ.out.2.2 HBZ.out.1 (by have := HBZ.out.2; omega)
       go_wp2_with fail
       refine HC.out.mono ?_
       rintro e wG ⟨rfl, hjG, hKG⟩
       have HG : Hid (LI w x C N S a b1 b2 b5 F G T D wG ∧ J wG (rtAt x (rtB x a) L) (hist ++ [(⟨2, 0, 0⟩, 2)] ++ partH L ++ chansH x H ++ fillH (chE x a) ++ tabsH x L ++ [(⟨0, 0, 0⟩, 0)])) := ⟨HZ.out.1.call hKG, hjG⟩
       clear hjG hKG HC
       obtain ⟨Z, hZ⟩ : ∃ Z, rtAt x (rtB x a) L = Z := ⟨_, rfl⟩
       rw [hZ] at HBZ ⊢
       have HZZ : Hid (rtAt x (rtB x a) L = Z) := hZ
       clear hZ
       have z1 := HBZ.out.1
       have z2 := HBZ.out.2
       have hq : Z.tdiv 16 = Z / 16 := Int.tdiv_eq_ediv_of_nonneg z1
       have hq2 : IntKind.i64.wrap (Z / 16) = Z / 16 := by rw [IntKind.wrap_i64]; omega
       have t0 := HG.out.1.l.cell (i := 0) rfl
       have t1 := HG.out.1.l.cell (i := 1) rfl
       have t2 := HG.out.1.l.cell (i := 2) rfl
       have t3 := HG.out.1.l.cell (i := 3) rfl
       have tf := HG.out.1.l.frozen 3
       clear z1 z2
       obtain ⟨Wa, hWa⟩ : ∃ Wa, Wa = wG.setCell ⟨b5, 3, none⟩ (.int .i64 (Z / 16)) := ⟨_, rfl⟩
       have ka : Keeps (fun k => k = b5) wG Wa := by rw [hWa]; exact (Keeps.refl _ _).setCell _ _ fun _ => rfl
       have HWa : Hid (Blk Wa b5 [.int .i64 a, .slice (some ⟨b1, 0, none⟩) L L, .slice (some ⟨b2, 0, none⟩) H H, .int .i64 (Z / 16)] 92 ∧ Blk Wa (C + 1) [.int .i64 0, .slice none 0 0, .slice none 0 0, .int .i64 0] 92 ∧ Keeps (fun k => k = b5) wG Wa) := by
        have hl := HG.out.1.l.setCell 3 (.int .i64 (Z / 16))
        rw [← hWa, HLH.out.1, HLH.out.2] at hl
        exact ⟨hl, HG.out.1.res.kept ka (by have := HG.out.1.lo; omega), ka⟩
       go_upto_region 19 with fail
       rw [← hWa]
       clear hWa ka t0 t1 t2 t3 tf
       have t0 := HWa.out.1.cell (i := 0) rfl
       have t1 := HWa.out.1.cell (i := 1) rfl
       have t2 := HWa.out.1.cell (i := 2) rfl
       have t3 := HWa.out.1.cell (i := 3) rfl
       have r0 := HWa.out.2.1.cell (i := 0) rfl
       have r1 := HWa.out.2.1.cell (i := 1) rfl
       have r2 := HWa.out.2.1.cell (i := 2) rfl
       have r3 := HWa.out.2.1.cell (i := 3) rfl
       have f0 := HWa.out.2.1.frozen 0
       have f1 := HWa.out.2.1.frozen 1
       have f2 := HWa.out.2.1.frozen 2
       have f3 := HWa.out.2.1.frozen 3
       go_wp2
       obtain ⟨hB, hK4⟩ := set4 HWa.out.2.1 (.int .i64 a) (.slice (some ⟨b1, 0, none⟩) L L) (.slice (some ⟨b2, 0, none⟩) H H) (.int .i64 (Z / 16))
       obtain ⟨Wb, hWb⟩ : ∃ Wb, Wb = ((((Wa.setCell ⟨C + 1, 0, none⟩ (.int .i64 a)).setCell ⟨C + 1, 1, none⟩ (.slice (some ⟨b1, 0, none⟩) L L)).setCell ⟨C + 1, 2, none⟩ (.slice (some ⟨b2, 0, none⟩) H H)).setCell ⟨C + 1, 3, none⟩ (.int .i64 (Z / 16))) := ⟨_, rfl⟩
       rw [← hWb] at hB hK4 ⊢
       clear hWb
       (try simp only [Exit.inBlock, Exit.then])
       refine bodyPost_ret (results_cell_row rfl _ _ (C + 1) 92 _ (0, 0) _ rfl hB Tryz.underlying92 rfl (by kernel_rfl)) rfl ?_
       have hI := HG.out.1
       have hcw := hI.cw
       have hlo := hI.lo
       have hne := hI.ne
       have ka := HWa.out.2.2
       have kb : Keeps (fun k => k = b5 ∨ k = C + 1) wG Wb := (ka.mono fun k _ e => Or.inl e).trans hK4 fun k _ e => Or.inr e
       refine ⟨b1, b2, F, G, T, D, ?_, ⟨hI.p.kept kb (by omega), hI.c.kept kb (by omega), ⟨by omega, by omega, hne.1⟩, fun i hi => ⟨((hI.tr i hi).1.own_kept eInt_bl kb fun k hk e => ?_).lower' (by omega), fun k hk => ⟨((hI.tr i hi).2 k hk).1, ((hI.tr i hi).2 k hk).2.1⟩⟩, fun i hi => ⟨((hI.dr i hi).1.own_kept eDst_bl kb fun k hk e => ?_).lower' (by omega), fun k hk => ⟨((hI.dr i hi).2 k hk).1, ((hI.dr i hi).2 k hk).2.1⟩⟩⟩, ?_, ?_, ?_, ?_⟩
       ·
        rw [HLH.out.1, HLH.out.2, HZZ.out]
       ·
        have h1 := (hI.tr i hi).2 k hk
        have h2 := (hI.tr i hi).1.low k hk
        omega
       ·
        have h1 := (hI.dr i hi).2 k hk
        have h2 := (hI.dr i hi).1.low k hk
        omega
       ·
        rw [HLH.out.1]; exact HZ.out.2.1
       ·
        rw [HLH.out.2]; exact HF1.out.2.1
       ·
        have := HD.out.kept HG.out.2 kb fun k hk e => by have := (hI.low k hk).2; omega
        rw [HLH.out.1]
        unfold layH
        rw [HLH.out.1, HLH.out.2]
        simpa only [List.append_assoc] using this
       ·
        exact hI.kp.trans kb fun k hk e => by omega
end Go.Proofs.YtlnmlbkeemahcaaGreat
