import Derived.Test.YtlnmlbkeemahcaaGreatYd
namespace Go.Proofs.YtlnmlbkeemahcaaGreat
open Go.RowKit
set_option linter.unusedVariables false
set_option maxRecDepth 6000
set_option linter.unusedSimpArgs false
def rgN (x : Cfg) (p : Nat) (P : Par) (k : Nat) (r : Rgn) : Int := (firstF (rgnF x p P k r)).n
theorem rgN_bad {x : Cfg} {p : Nat} {P : Par} {k : Nat} {r : Rgn} (h : r.okB x.frames = false) : rgN x p P k r = 409 := by
 unfold rgN rgnF
 rw [h]
 simp [firstF, unl]
theorem rgN_page {x : Cfg} {p : Nat} {P : Par} {k : Nat} {r : Rgn} (h : r.okB x.frames = true) (h2 : ((P.rs.take k).any fun s => s.pg.meets r.pg) = true) : rgN x p P k r = 410 := by
 unfold rgN rgnF
 rw [h, h2]
 simp [firstF, unl, Flt.no]
theorem rgN_own {x : Cfg} {p : Nat} {P : Par} {k : Nat} {r : Rgn} (h : r.okB x.frames = true) (h2 : ((P.rs.take k).any fun s => s.pg.meets r.pg) = false) (h3 : ((P.rs.take k).any fun s => s.fr.meets r.fr) = true) : rgN x p P k r = 411 := by
 unfold rgN rgnF
 rw [h, h2, h3]
 simp [firstF, unl, Flt.no]
theorem rgN_other {x : Cfg} {p : Nat} {P : Par} {k : Nat} {r : Rgn} (h : r.okB x.frames = true) (h2 : ((P.rs.take k).any fun s => s.pg.meets r.pg) = false) (h3 : ((x.ps.take p).any fun Q => Q.rs.any fun s => s.fr.meets r.fr) = true) : rgN x p P k r = 411 := by
 unfold rgN rgnF
 rw [h, h2, h3]
 cases ((P.rs.take k).any fun s => s.fr.meets r.fr) <;> simp [firstF, unl, Flt.no]
theorem rgN_ok {x : Cfg} {p : Nat} {P : Par} {k : Nat} {r : Rgn} (h : r.okB x.frames = true) (h2 : ((P.rs.take k).any fun s => s.pg.meets r.pg) = false) (h3 : ((P.rs.take k).any fun s => s.fr.meets r.fr) = false) (h4 : ((x.ps.take p).any fun Q => Q.rs.any fun s => s.fr.meets r.fr) = false) : rgN x p P k r = 0 := by
 unfold rgN rgnF
 rw [h, h2, h3, h4]
 simp [firstF, unl, Flt.no]
structure RgI (w : World) (x : Cfg) (C N G : Nat) (r : Rgn) (wr : World) : Prop where
 one : One w x C N wr
 rg : Blk wr G r.vs 54
theorem RgI.kept {w : World} {x : Cfg} {C N G : Nat} {r : Rgn} {wr w' : World} (h : RgI w x C N G r wr) (hK : KF wr w') : RgI w x C N G r w' := ⟨h.one.kept hK, h.rg.kept hK fun h => h⟩
theorem any_next {α : Type} {l : List α} {f : α → Bool} {j : Nat} {a : α} (h : l[j]? = some a) (h0 : (l.take j).any f = false) (ha : f a = false) : (l.take (j + 1)).any f = false := by
 rw [List.take_add_one, h, List.any_append, h0]
 simpa using ha
theorem any_hit {α : Type} {l : List α} {f : α → Bool} {j k : Nat} {a : α} (h : l[j]? = some a) (hk : j < k) (ha : f a = true) : (l.take k).any f = true :=
 List.any_eq_true.2 ⟨a, List.mem_of_getElem? (i := j) (by rw [List.getElem?_take, if_pos hk]; exact h), ha⟩
set_option maxHeartbeats 4000000 in
theorem dregion_any (x : Cfg) (p : Nat) (P : Par) (k : Nat) (r : Rgn) (hP : x.ps[p]? = some P) (hr : P.rs[k]? = some r) (w : World) (N : Nat) (hi : x.In w N) (hN : N ≤ w.heap.size) (hf : 1 ≤ x.frames ∧ x.frames ≤ 1024)
  (hown : ∀ s ∈ P.rs.take k, s.okB x.frames = true) (hoth : ∀ Q ∈ x.ps.take p, ∀ s ∈ Q.rs, s.okB x.frames = true) :
  Calls Tryz.prog 28 #[x.v, .int .i64 (p : Int), .int .i64 (k : Int)] w (NuP (rgN x p P k r) w) := by
 obtain ⟨V, hV⟩ : ∃ V, rgN x p P k r = V := ⟨_, rfl⟩
 rw [hV]
 obtain ⟨W, hW⟩ : ∃ W, W = x.laid w := ⟨_, rfl⟩
 obtain ⟨C, hC⟩ : ∃ C, C = w.heap.size := ⟨_, rfl⟩
 have hO : One w x C N W := by rw [hW, hC]; exact One.mk' hi hN
 have HO : Hid (One w x C N W) := hO
 obtain ⟨L, hL⟩ : ∃ L, x.ps.length = L := ⟨_, rfl⟩
 obtain ⟨M, hM⟩ : ∃ M, P.rs.length = M := ⟨_, rfl⟩
 have hpl : p < L := by rw [← hL]; exact (List.getElem?_eq_some_iff.1 hP).1
 have hkl : k < M := by rw [← hM]; exact (List.getElem?_eq_some_iff.1 hr).1
 have hpl' : (p : Int) < L := by omega
 have hkl' : (k : Int) < M := by omega
 have HX : Hid (rgN x p P k r = V ∧ x.ps[p]? = some P ∧ P.rs[k]? = some r ∧ x.ps.length = L ∧ P.rs.length = M ∧ (1 ≤ x.frames ∧ x.frames ≤ 1024) ∧ (∀ s ∈ P.rs.take k, s.okB x.frames = true) ∧ (∀ Q ∈ x.ps.take p, ∀ s ∈ Q.rs, s.okB x.frames = true)) := ⟨hV, hP, hr, hL, hM, hf, hown, hoth⟩
 have hpc1 : (L : Int) ≤ x.pc := by have := hi.plen; omega
 have hpc2 : (x.pc : Int) ≤ 9223372036854775807 := by have := hi.plen; unfold maxLen at this; omega
 have hPi := hO.cin.pin P (List.mem_of_getElem? hP)
 have hrc1 : (M : Int) ≤ P.rc := by have := hPi.rlen; omega
 have hrc2 : (P.rc : Int) ≤ 9223372036854775807 := by have := hPi.rlen; unfold maxLen at this; omega
 obtain ⟨gp, op, hpa, hcp⟩ := hO.cin.par hP
 obtain ⟨gr, og, hra, hcr⟩ := hPi.rseg.at hr
 have HA : Hid (x.pa = some ⟨gp, op, none⟩ ∧ P.ra = some ⟨gr, og, none⟩) := ⟨hpa, hra⟩
 have q5 := hO.cells.2.2.2.2.2.1
 rw [hL, hpa] at q5
 have p6 := hcp 6 _ rfl
 rw [hM, hra] at p6
 have y0 := hcr 0 _ rfl
 rw [Nat.add_zero] at y0
 have y1 := hcr 1 _ rfl
 have y2 := hcr 2 _ rfl
 have y3 := hcr 3 _ rfl
 obtain ⟨G, hG⟩ : ∃ G, G = W.heap.size := ⟨_, rfl⟩
 obtain ⟨W1, hW1⟩ : ∃ W1, W1 = W.alloc (.cells r.vs.toArray 54) := ⟨_, rfl⟩
 have hI1 : RgI w x C N G r W1 := by rw [hW1, hG]; exact ⟨hO.kept ((Keeps.refl _ _).alloc _), Blk.new _ _ _⟩
 have HI1 : Hid (RgI w x C N G r W1) := hI1
 have hfine : r.Fine := hPi.rfine r (List.mem_of_getElem? hr)
 have HC : Hid (Calls Tryz.prog 55 #[x.v, r.v] W1 (BoP (r.okB x.frames) W1)) := dright_any x r hfine W1 N hI1.one.cin hI1.one.nn hf
 obtain ⟨pg, pn, pf, rt⟩ := r
 simp only [Rgn.vs] at hW1
 clear hV hi hN hO hL hM hf hown hoth hP hr hPi hpa hcp hra hcr hI1 hfine
 unfold Cfg.laid at hW
 go_enter Tryz.func28, Tryz.ntmps28
 go_upto_region 1 with fail
 rw [← hW, ← hC]
 clear hW hC
 go_upto_region 2 with fail
 rw [← hW1, ← hG]
 clear hW1 hG q5 p6 y0 y1 y2 y3
 obtain ⟨q0, q1, q2, q3, q4, q5, q6⟩ := HI1.out.one.cells
 have g0 := HI1.out.rg.cell (i := 0) rfl
 have g1 := HI1.out.rg.cell (i := 1) rfl
 have g2 := HI1.out.rg.cell (i := 2) rfl
 have g3 := HI1.out.rg.cell (i := 3) rfl
 dsimp only at g0 g1 g2 g3
 go_wp2_with fail
 refine HC.out.mono ?_
 rintro e w2 ⟨rfl, hK2⟩
 have HI2 : Hid (RgI w x C N G ⟨pg, pn, pf, rt⟩ w2) := HI1.out.kept hK2
 clear HC hK2 q0 q1 q2 q3 q4 q5 q6 g0 g1 g2 g3
 cases hok : Rgn.okB ⟨pg, pn, pf, rt⟩ x.frames with
 | false =>
  have HF : Hid (V = 409) := by show V = 409; rw [← HX.out.1]; exact rgN_bad hok
  clear hok
  go_wp2
  go_ret
  exact ⟨by rw [HF.out]; rfl, HI2.out.one.keeps⟩
 | true =>
 have HK : Hid (Rgn.okB ⟨pg, pn, pf, rt⟩ x.frames = true) := hok
 have hbd := okB_bd hok HX.out.2.2.2.2.2.1.2
 dsimp only at hbd
 have HM : Hid (∀ (s : Rgn) (w : World), s.okB x.frames = true → Calls Tryz.prog 32 #[.int .i64 pg, .int .i64 pn, .int .i64 s.page, .int .i64 s.pages] w (NaP (s.pg.meets (Rgn.pg ⟨pg, pn, pf, rt⟩)) w)) := fun s w hs => by
  have := okB_bd hs HX.out.2.2.2.2.2.1.2
  exact rmeet_any ⟨pg, pn⟩ ⟨s.page, s.pages⟩ w ⟨by dsimp only; omega, by dsimp only; omega, by dsimp only; omega, by dsimp only; omega⟩ ⟨by dsimp only; omega, by dsimp only; omega, by dsimp only; omega, by dsimp only; omega⟩
 have HMf : Hid (∀ (s : Rgn) (w : World), s.okB x.frames = true → Calls Tryz.prog 32 #[.int .i64 pf, .int .i64 pn, .int .i64 s.frame, .int .i64 s.pages] w (NaP (s.fr.meets (Rgn.fr ⟨pg, pn, pf, rt⟩)) w)) := fun s w hs => by
  have := okB_bd hs HX.out.2.2.2.2.2.1.2
  exact rmeet_any ⟨pf, pn⟩ ⟨s.frame, s.pages⟩ w ⟨by dsimp only; omega, by dsimp only; omega, by dsimp only; omega, by dsimp only; omega⟩ ⟨by dsimp only; omega, by dsimp only; omega, by dsimp only; omega, by dsimp only; omega⟩
 clear hok hbd
 go_wp2
 go_loopw [8] (fun i wr => ∃ j : Nat, j ≤ k ∧ i = .int .i64 j ∧ ((P.rs.take j).any fun s => s.pg.meets (Rgn.pg ⟨pg, pn, pf, rt⟩)) = false ∧ RgI w x C N G ⟨pg, pn, pf, rt⟩ wr) (fun i _ => k - (intOf i).toNat)
 case atStart => exact ⟨0, by omega, rfl, rfl, HI2.out⟩
 case round =>
  obtain ⟨j, hj, rfl, hno, hI⟩ := hrel
  by_cases hlt : j < k
  ·
   obtain ⟨s, hs⟩ : ∃ s, P.rs[j]? = some s := ⟨_, List.getElem?_eq_getElem (by have := HX.out.2.2.2.2.1; omega)⟩
   have hPi := hI.one.cin.pin P (List.mem_of_getElem? HX.out.2.1)
   obtain ⟨g', o', ha', hc'⟩ := hI.one.cin.par HX.out.2.1
   rw [HA.out.1] at ha'
   cases ha'
   obtain ⟨g'', o'', hb', hd'⟩ := hPi.rseg.at hs
   rw [HA.out.2] at hb'
   cases hb'
   have q5 := hI.one.cells.2.2.2.2.2.1
   rw [HX.out.2.2.2.1, HA.out.1] at q5
   have p6 := hc' 6 _ rfl
   rw [HX.out.2.2.2.2.1, HA.out.2] at p6
   obtain ⟨sg, sn, sf, st⟩ := s
   have y0 := hd' 0 _ rfl
   rw [Nat.add_zero] at y0
   have y1 := hd' 1 _ rfl
   have y2 := hd' 2 _ rfl
   have y3 := hd' 3 _ rfl
   dsimp only at y0 y1 y2 y3
   have hjk : (j : Int) < k := by omega
   have hjm : (j : Int) < M := by omega
   obtain ⟨A, hA⟩ : ∃ A, A = wr.heap.size := ⟨_, rfl⟩
   obtain ⟨W3, hW3⟩ : ∃ W3, W3 = wr.alloc (.cells #[.int .i64 sg, .int .i64 sn, .int .i64 sf, .int .i64 st] 54) := ⟨_, rfl⟩
   have hI3 : RgI w x C N G ⟨pg, pn, pf, rt⟩ W3 := by rw [hW3]; exact hI.kept ((Keeps.refl _ _).alloc _)
   have hb3 : Blk W3 A [.int .i64 sg, .int .i64 sn, .int .i64 sf, .int .i64 st] 54 := by rw [hW3, hA]; exact Blk.new _ _ _
   have HI3 : Hid (RgI w x C N G ⟨pg, pn, pf, rt⟩ W3 ∧ ((P.rs.take j).any fun s => s.pg.meets (Rgn.pg ⟨pg, pn, pf, rt⟩)) = false ∧ P.rs[j]? = some ⟨sg, sn, sf, st⟩) := ⟨hI3, hno, hs⟩
   have hsok : Rgn.okB ⟨sg, sn, sf, st⟩ x.frames = true := HX.out.2.2.2.2.2.2.1 _ (List.mem_of_getElem? (i := j) (by rw [List.getElem?_take, if_pos hlt]; exact hs))
   have HC : Hid (Calls Tryz.prog 32 #[.int .i64 pg, .int .i64 pn, .int .i64 sg, .int .i64 sn] W3 (NaP (Rn.meets (Rgn.pg ⟨sg, sn, sf, st⟩) (Rgn.pg ⟨pg, pn, pf, rt⟩)) W3)) := HM.out ⟨sg, sn, sf, st⟩ W3 hsok
   have g0 := hI3.rg.cell (i := 0) rfl
   have g1 := hI3.rg.cell (i := 1) rfl
   have z0 := hb3.cell (i := 0) rfl
   have z1 := hb3.cell (i := 1) rfl
   dsimp only at g0 g1
   clear hs hPi hc' hd' hno hI hI3 hb3 hsok
   go_upto_region 8 with fail
   rw [← hW3, ← hA]
   clear hW3 hA y0 y1 y2 y3 q5 p6
   go_wp2_with fail
   refine HC.out.mono ?_
   rintro e w4 ⟨rfl, rfl⟩
   cases hb : Rn.meets (Rgn.pg ⟨sg, sn, sf, st⟩) (Rgn.pg ⟨pg, pn, pf, rt⟩) with
   | true =>
    have HF : Hid (V = 410) := by show V = 410; rw [← HX.out.1]; exact rgN_page HK.out (any_hit HI3.out.2.2 hlt hb)
    clear hb
    go_wp2
    go_ret
    exact ⟨by rw [HF.out]; rfl, HI3.out.1.one.keeps⟩
   | false =>
    have HF : Hid (((P.rs.take (j + 1)).any fun s => s.pg.meets (Rgn.pg ⟨pg, pn, pf, rt⟩)) = false) := any_next HI3.out.2.2 HI3.out.2.1 hb
    clear hb
    go_wp2
    go_roundw
    case rel => exact ⟨j + 1, by omega, by go_num, HF.out, HI3.out.1⟩
    case measure => simp [intOf]; omega
  ·
   obtain rfl : j = k := by omega
   have HP1 : Hid (((P.rs.take j).any fun s => s.pg.meets (Rgn.pg ⟨pg, pn, pf, rt⟩)) = false) := hno
   have HI3 : Hid (RgI w x C N G ⟨pg, pn, pf, rt⟩ wr) := hI
   clear hno hI hlt hj
   go_wp2
   go_loopw [10] (fun q wr => ∃ t : Nat, t ≤ p + 1 ∧ q = .int .i64 t ∧ (∀ v, v < t → ∀ Q, x.ps[v]? = some Q → ((if v = p then Q.rs.take j else Q.rs).any fun s => s.fr.meets (Rgn.fr ⟨pg, pn, pf, rt⟩)) = false) ∧ RgI w x C N G ⟨pg, pn, pf, rt⟩ wr) (fun q _ => p + 1 - (intOf q).toNat)
   case atStart => exact ⟨0, by omega, rfl, fun v hv => absurd hv (by omega), HI3.out⟩
   case round =>
    obtain ⟨t, ht, rfl, hS, hI⟩ := hrel
    have HS : Hid (∀ v, v < t → ∀ Q, x.ps[v]? = some Q → ((if v = p then Q.rs.take j else Q.rs).any fun s => s.fr.meets (Rgn.fr ⟨pg, pn, pf, rt⟩)) = false) := hS
    have HI4 : Hid (RgI w x C N G ⟨pg, pn, pf, rt⟩ wr) := hI
    clear hS hI
    by_cases htp : t < p
    ·
     have htp' : (t : Int) ≤ p := by omega
     have htn : ¬ (t : Int) = p := by omega
     have htb : ((t : Int) == p) = false := by simp; omega
     have htL : (t : Int) < L := by omega
     obtain ⟨Q, hQ⟩ : ∃ Q, x.ps[t]? = some Q := ⟨_, List.getElem?_eq_getElem (by have := HX.out.2.2.2.1; omega)⟩
     have HQ : Hid (x.ps[t]? = some Q) := hQ
     obtain ⟨D, hD⟩ : ∃ D, Q.rs.length = D := ⟨_, rfl⟩
     have hQi0 := HI4.out.one.cin.pin Q (List.mem_of_getElem? hQ)
     have hqc1 : (D : Int) ≤ Q.rc := by have := hQi0.rlen; omega
     have hqc2 : (Q.rc : Int) ≤ 9223372036854775807 := by have := hQi0.rlen; unfold maxLen at this; omega
     have HD : Hid (Q.rs.length = D ∧ t < p) := ⟨hD, htp⟩
     obtain ⟨qa, hqa⟩ : ∃ qa, qa = Q.ra := ⟨_, rfl⟩
     have HRA0 : Hid (Q.ra = qa) := hqa.symm
     clear hQ hD hQi0 hqa
     go_wp2
     go_loopw [11] (fun i wr => ∃ u : Nat, u ≤ D ∧ i = .int .i64 u ∧ ((Q.rs.take u).any fun s => s.fr.meets (Rgn.fr ⟨pg, pn, pf, rt⟩)) = false ∧ RgI w x C N G ⟨pg, pn, pf, rt⟩ wr) (fun i _ => D - (intOf i).toNat)
     case atStart => exact ⟨0, by omega, rfl, rfl, HI4.out⟩
     case round =>
      obtain ⟨u, hu, rfl, hno, hI⟩ := hrel
      have hQi := hI.one.cin.pin Q (List.mem_of_getElem? HQ.out)
      obtain ⟨g', o', ha', hc'⟩ := hI.one.cin.par HQ.out
      rw [HA.out.1] at ha'
      cases ha'
      have q5 := hI.one.cells.2.2.2.2.2.1
      rw [HX.out.2.2.2.1, HA.out.1] at q5
      have p6 := hc' 6 _ rfl
      rw [HD.out.1, HRA0.out] at p6
      by_cases hlu : u < D
      ·
       skip
       obtain ⟨s, hs⟩ : ∃ s, Q.rs[u]? = some s := ⟨_, List.getElem?_eq_getElem (by have := HD.out; omega)⟩
       obtain ⟨g'', o'', hb', hd'⟩ := hQi.rseg.at hs
       rw [HRA0.out] at hb'
       subst hb'
       obtain ⟨sg, sn, sf, st⟩ := s
       have y0 := hd' 0 _ rfl
       rw [Nat.add_zero] at y0
       have y1 := hd' 1 _ rfl
       have y2 := hd' 2 _ rfl
       have y3 := hd' 3 _ rfl
       dsimp only at y0 y1 y2 y3
       have huD : (u : Int) < D := by have := HD.out; omega
       skip
       obtain ⟨A, hA⟩ : ∃ A, A = wr.heap.size := ⟨_, rfl⟩
       obtain ⟨W3, hW3⟩ : ∃ W3, W3 = wr.alloc (.cells #[.int .i64 sg, .int .i64 sn, .int .i64 sf, .int .i64 st] 54) := ⟨_, rfl⟩
       have hI3 : RgI w x C N G ⟨pg, pn, pf, rt⟩ W3 := by rw [hW3]; exact hI.kept ((Keeps.refl _ _).alloc _)
       have hb3 : Blk W3 A [.int .i64 sg, .int .i64 sn, .int .i64 sf, .int .i64 st] 54 := by rw [hW3, hA]; exact Blk.new _ _ _
       have HI4 : Hid (RgI w x C N G ⟨pg, pn, pf, rt⟩ W3 ∧ ((Q.rs.take u).any fun s => s.fr.meets (Rgn.fr ⟨pg, pn, pf, rt⟩)) = false ∧ Q.rs[u]? = some ⟨sg, sn, sf, st⟩) := ⟨hI3, hno, hs⟩
       have hsok : Rgn.okB ⟨sg, sn, sf, st⟩ x.frames = true := HX.out.2.2.2.2.2.2.2 Q (List.mem_of_getElem? (i := t) (by rw [List.getElem?_take, if_pos HD.out.2]; exact HQ.out)) _ (List.mem_of_getElem? hs)
       have HC : Hid (Calls Tryz.prog 32 #[.int .i64 pf, .int .i64 pn, .int .i64 sf, .int .i64 sn] W3 (NaP (Rn.meets (Rgn.fr ⟨sg, sn, sf, st⟩) (Rgn.fr ⟨pg, pn, pf, rt⟩)) W3)) := HMf.out ⟨sg, sn, sf, st⟩ W3 hsok
       have g2 := hI3.rg.cell (i := 2) rfl
       have g1 := hI3.rg.cell (i := 1) rfl
       have z2 := hb3.cell (i := 2) rfl
       have z1 := hb3.cell (i := 1) rfl
       dsimp only at g2 g1
       clear hs hQi hc' hd' hno hI hI3 hb3 hsok
       go_upto_region 18 with fail
       rw [← hW3, ← hA]
       clear hW3 hA y0 y1 y2 y3 q5 p6
       go_wp2_with fail
       refine HC.out.mono ?_
       rintro e w4 ⟨rfl, rfl⟩
       cases hb : Rn.meets (Rgn.fr ⟨sg, sn, sf, st⟩) (Rgn.fr ⟨pg, pn, pf, rt⟩) with
       | true =>
        have HF : Hid (V = 411) := by
         show V = 411
         rw [← HX.out.1]
         exact rgN_other HK.out HP1.out (any_hit HQ.out HD.out.2 (List.any_eq_true.2 ⟨_, List.mem_of_getElem? HI4.out.2.2, hb⟩))
        clear hb
        go_wp2
        go_ret
        exact ⟨by rw [HF.out]; rfl, HI4.out.1.one.keeps⟩
       | false =>
        have HF : Hid (((Q.rs.take (u + 1)).any fun s => s.fr.meets (Rgn.fr ⟨pg, pn, pf, rt⟩)) = false) := any_next HI4.out.2.2 HI4.out.2.1 hb
        clear hb
        go_wp2
        go_roundw
        case rel => exact ⟨u + 1, by omega, by go_num, HF.out, HI4.out.1⟩
        case measure => simp [intOf]; omega
      ·
       obtain rfl : u = D := by omega
       have HE : Hid (((Q.rs.take u).any fun s => s.fr.meets (Rgn.fr ⟨pg, pn, pf, rt⟩)) = false ∧ RgI w x C N G ⟨pg, pn, pf, rt⟩ wr) := ⟨hno, hI⟩
       clear hQi hc' hno hI
       go_wp2
       go_roundw
       case rel =>
        refine ⟨t + 1, by omega, by go_num, fun v hv Q' hQ' => ?_, HE.out.2⟩
        by_cases e : v = t
        ·
         subst e
         rw [HQ.out] at hQ'
         cases hQ'
         rw [if_neg (by omega), ← List.take_of_length_le (l := Q.rs) (i := u) (by have := HD.out; omega)]
         exact HE.out.1
        ·
         exact HS.out v (by omega) Q' hQ'
       case measure => simp [intOf]; omega
    ·
     by_cases hte : t = p
     ·
      subst hte
      have htp' : (t : Int) ≤ t := by omega
      have HQ : Hid (x.ps[t]? = some P) := HX.out.2.1
      have HD : Hid (P.rs.length = M ∧ j < M) := ⟨HX.out.2.2.2.2.1, hkl⟩
      go_wp2
      go_loopw [11] (fun i wr => ∃ u : Nat, u ≤ j ∧ i = .int .i64 u ∧ ((P.rs.take u).any fun s => s.fr.meets (Rgn.fr ⟨pg, pn, pf, rt⟩)) = false ∧ RgI w x C N G ⟨pg, pn, pf, rt⟩ wr) (fun i _ => j - (intOf i).toNat)
      case atStart => exact ⟨0, by omega, rfl, rfl, HI4.out⟩
      case round =>
       obtain ⟨u, hu, rfl, hno, hI⟩ := hrel
       have hQi := hI.one.cin.pin P (List.mem_of_getElem? HQ.out)
       obtain ⟨g', o', ha', hc'⟩ := hI.one.cin.par HQ.out
       rw [HA.out.1] at ha'
       cases ha'
       have q5 := hI.one.cells.2.2.2.2.2.1
       rw [HX.out.2.2.2.1, HA.out.1] at q5
       have p6 := hc' 6 _ rfl
       rw [HD.out.1, HA.out.2] at p6
       by_cases hlu : u < j
       ·
        skip
        obtain ⟨s, hs⟩ : ∃ s, P.rs[u]? = some s := ⟨_, List.getElem?_eq_getElem (by have := HD.out; omega)⟩
        obtain ⟨g'', o'', hb', hd'⟩ := hQi.rseg.at hs
        rw [HA.out.2] at hb'
        cases hb'
        obtain ⟨sg, sn, sf, st⟩ := s
        have y0 := hd' 0 _ rfl
        rw [Nat.add_zero] at y0
        have y1 := hd' 1 _ rfl
        have y2 := hd' 2 _ rfl
        have y3 := hd' 3 _ rfl
        dsimp only at y0 y1 y2 y3
        have huD : (u : Int) < M := by have := HD.out; omega
        have hul : (u : Int) < j := by omega
        have huj : ¬ (j : Int) ≤ u := by omega
        obtain ⟨A, hA⟩ : ∃ A, A = wr.heap.size := ⟨_, rfl⟩
        obtain ⟨W3, hW3⟩ : ∃ W3, W3 = wr.alloc (.cells #[.int .i64 sg, .int .i64 sn, .int .i64 sf, .int .i64 st] 54) := ⟨_, rfl⟩
        have hI3 : RgI w x C N G ⟨pg, pn, pf, rt⟩ W3 := by rw [hW3]; exact hI.kept ((Keeps.refl _ _).alloc _)
        have hb3 : Blk W3 A [.int .i64 sg, .int .i64 sn, .int .i64 sf, .int .i64 st] 54 := by rw [hW3, hA]; exact Blk.new _ _ _
        have HI4 : Hid (RgI w x C N G ⟨pg, pn, pf, rt⟩ W3 ∧ ((P.rs.take u).any fun s => s.fr.meets (Rgn.fr ⟨pg, pn, pf, rt⟩)) = false ∧ P.rs[u]? = some ⟨sg, sn, sf, st⟩) := ⟨hI3, hno, hs⟩
        have hsok : Rgn.okB ⟨sg, sn, sf, st⟩ x.frames = true := HX.out.2.2.2.2.2.2.1 _ (List.mem_of_getElem? (i := u) (by rw [List.getElem?_take, if_pos hlu]; exact hs))
        have HC : Hid (Calls Tryz.prog 32 #[.int .i64 pf, .int .i64 pn, .int .i64 sf, .int .i64 sn] W3 (NaP (Rn.meets (Rgn.fr ⟨sg, sn, sf, st⟩) (Rgn.fr ⟨pg, pn, pf, rt⟩)) W3)) := HMf.out ⟨sg, sn, sf, st⟩ W3 hsok
        have g2 := hI3.rg.cell (i := 2) rfl
        have g1 := hI3.rg.cell (i := 1) rfl
        have z2 := hb3.cell (i := 2) rfl
        have z1 := hb3.cell (i := 1) rfl
        dsimp only at g2 g1
        clear hs hQi hc' hd' hno hI hI3 hb3 hsok
        go_upto_region 18 with fail
        rw [← hW3, ← hA]
        clear hW3 hA y0 y1 y2 y3 q5 p6
        go_wp2_with fail
        refine HC.out.mono ?_
        rintro e w4 ⟨rfl, rfl⟩
        cases hb : Rn.meets (Rgn.fr ⟨sg, sn, sf, st⟩) (Rgn.fr ⟨pg, pn, pf, rt⟩) with
        | true =>
         have HF : Hid (V = 411) := by
          show V = 411
          rw [← HX.out.1]
          exact rgN_own HK.out HP1.out (any_hit HI4.out.2.2 hlu hb)
         clear hb
         go_wp2
         go_ret
         exact ⟨by rw [HF.out]; rfl, HI4.out.1.one.keeps⟩
        | false =>
         have HF : Hid (((P.rs.take (u + 1)).any fun s => s.fr.meets (Rgn.fr ⟨pg, pn, pf, rt⟩)) = false) := any_next HI4.out.2.2 HI4.out.2.1 hb
         clear hb
         go_wp2
         go_roundw
         case rel => exact ⟨u + 1, by omega, by go_num, HF.out, HI4.out.1⟩
         case measure => simp [intOf]; omega
       ·
        obtain rfl : u = j := by omega
        have HE : Hid (((P.rs.take u).any fun s => s.fr.meets (Rgn.fr ⟨pg, pn, pf, rt⟩)) = false ∧ RgI w x C N G ⟨pg, pn, pf, rt⟩ wr) := ⟨hno, hI⟩
        clear hQi hc' hno hI
        go_wp2
        go_roundw
        case rel =>
         refine ⟨t + 1, by omega, by go_num, fun v hv Q' hQ' => ?_, HE.out.2⟩
         by_cases e : v = t
         ·
          subst e
          rw [HQ.out] at hQ'
          cases hQ'
          rw [if_pos rfl]
          exact HE.out.1
         ·
          exact HS.out v (by omega) Q' hQ'
        case measure => simp [intOf]
     ·
      obtain rfl : t = p + 1 := by omega
      have htp' : ¬ ((p + 1 : Nat) : Int) ≤ p := by omega
      have HF : Hid (V = 0) := by
       show V = 0
       rw [← HX.out.1]
       refine rgN_ok HK.out HP1.out ?_ ?_
       ·
        have := HS.out p (by omega) P HX.out.2.1
        rw [if_pos rfl] at this
        exact this
       ·
        refine List.any_eq_false.2 fun Q hQ => ?_
        obtain ⟨v, hv⟩ := List.getElem?_of_mem hQ
        rw [List.getElem?_take] at hv
        split at hv
        ·
         have := HS.out v (by omega) Q hv
         rw [if_neg (by omega)] at this
         rw [this]
         decide
        ·
         cases hv
      go_wp2
      go_ret
      exact ⟨by rw [HF.out]; rfl, HI4.out.one.keeps⟩
end Go.Proofs.YtlnmlbkeemahcaaGreat
