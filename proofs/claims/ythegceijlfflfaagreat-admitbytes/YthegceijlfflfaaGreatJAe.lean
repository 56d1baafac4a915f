import Derived.Test.YthegceijlfflfaaGreatJAd
import Derived.Test.YthegceijlfflfaaGreatJPy
import Derived.Test.YthegceijlfflfaaGreatCv
namespace Go.Proofs.YthegceijlfflfaaGreat
open Go.RowKit
set_option linter.unusedVariables false
set_option linter.unusedSimpArgs false
set_option maxRecDepth 6000
def Rg (f : Flt) : Prop := f = Flt.no ∨ (400 ≤ f.n ∧ f.n ≤ 423 ∧ -1 ≤ f.a ∧ -1 ≤ f.b)
theorem Rg.unl {b : Bool} {f : Flt} (h : 400 ≤ f.n ∧ f.n ≤ 423 ∧ -1 ≤ f.a ∧ -1 ≤ f.b) : Rg (unl b f) := by
 cases b
 ·
  exact .inr h
 ·
  exact .inl rfl
theorem Rg.first {fs : List Flt} (h : ∀ f ∈ fs, Rg f) : Rg (firstF fs) := by
 induction fs with
 | nil => exact .inl rfl
 | cons f fs ih =>
  unfold firstF
  split
  ·
   exact ih fun g hg => h g (List.mem_cons_of_mem _ hg)
  ·
   exact h f (List.mem_cons_self ..)
theorem Rg.range {n : Nat} {f : Nat → Flt} (h : ∀ i, Rg (f i)) : Rg (firstF ((List.range n).map f)) := Rg.first fun g hg => by
 obtain ⟨i, _, rfl⟩ := List.mem_map.1 hg
 exact h i
theorem rgnF_rg (x : Cfg) (p : Nat) (P : Par) (i : Nat) (r : Rgn) : ∀ f ∈ rgnF x p P i r, Rg f := by
 intro f hf
 simp only [rgnF, List.mem_cons, List.not_mem_nil, or_false] at hf
 rcases hf with rfl | rfl | rfl | rfl <;> exact Rg.unl (by dsimp only; omega)
theorem parF_rg (x : Cfg) (p : Nat) (P : Par) : ∀ f ∈ parF x p P, Rg f := by
 intro f hf
 simp only [parF, List.mem_cons, List.not_mem_nil, or_false] at hf
 rcases hf with rfl | rfl | rfl | rfl | rfl | rfl | rfl | rfl
 ·
  exact Rg.unl (by dsimp only; omega)
 ·
  exact Rg.unl (by dsimp only; omega)
 ·
  exact Rg.unl (by dsimp only; omega)
 ·
  exact Rg.unl (by dsimp only; omega)
 ·
  refine Rg.range fun i => ?_
  unfold rgnF'
  cases P.rs[i]? with
  | none => exact .inl rfl
  | some r => exact Rg.first (rgnF_rg x p P i r)
 ·
  exact Rg.unl (by dsimp only; omega)
 ·
  exact Rg.unl (by dsimp only; omega)
 ·
  refine Rg.range fun i => ?_
  unfold prtF'
  cases P.ps[i]? with
  | none => exact .inl rfl
  | some t =>
   refine Rg.first fun f hf => ?_
   simp only [prtF, List.mem_cons, List.not_mem_nil, or_false] at hf
   rcases hf with rfl
   exact Rg.unl (by dsimp only; omega)
theorem chk_rg (x : Cfg) : Rg (chk x) := by
 refine Rg.first fun f hf => ?_
 simp only [cfgF, List.mem_cons, List.not_mem_nil, or_false] at hf
 rcases hf with rfl | rfl | rfl | rfl | rfl | rfl | rfl | rfl | rfl
 ·
  exact Rg.unl (by dsimp only; omega)
 ·
  exact Rg.unl (by dsimp only; omega)
 ·
  exact Rg.unl (by dsimp only; omega)
 ·
  exact Rg.unl (by dsimp only; omega)
 ·
  exact Rg.unl (by dsimp only; omega)
 ·
  refine Rg.range fun i => ?_
  unfold parF'
  cases x.ps[i]? with
  | none => exact .inl rfl
  | some P => exact Rg.first (parF_rg x i P)
 ·
  refine Rg.range fun i => ?_
  unfold chnF'
  cases x.hs[i]? with
  | none => exact .inl rfl
  | some h =>
   refine Rg.first fun f hf => ?_
   simp only [chnF, List.mem_cons, List.not_mem_nil, or_false] at hf
   rcases hf with rfl | rfl | rfl <;> exact Rg.unl (by dsimp only; omega)
 ·
  refine Rg.range fun i => ?_
  unfold corF'
  cases x.cs[i]? with
  | none => exact .inl rfl
  | some X =>
   refine Rg.first fun f hf => ?_
   simp only [corF, List.mem_cons, List.not_mem_nil, or_false] at hf
   rcases hf with rfl | rfl | rfl
   ·
    exact Rg.unl (by dsimp only; omega)
   ·
    refine Rg.range fun k => ?_
    unfold winF'
    cases X.ws[k]? with
    | none => exact .inl rfl
    | some y =>
     refine Rg.first fun f hf => ?_
     simp only [winF, List.mem_cons, List.not_mem_nil, or_false] at hf
     rcases hf with rfl | rfl | rfl <;> exact Rg.unl (by dsimp only; omega)
   ·
    exact Rg.unl (by dsimp only; omega)
 ·
  exact Rg.unl (by dsimp only; omega)
theorem Cfg.Eqv.pure {x y : Cfg} (h : x.Eqv y) : y.pure = x.pure := by
 have hps : y.ps.map Par.pure = x.ps.map Par.pure := by
  apply List.ext_getElem?
  intro j
  simp only [List.getElem?_map]
  by_cases hj : j < y.ps.length
  ·
   obtain ⟨z, hz⟩ : ∃ z, y.ps[j]? = some z := ⟨_, List.getElem?_eq_getElem hj⟩
   obtain ⟨P, hP⟩ : ∃ P, x.ps[j]? = some P := ⟨_, List.getElem?_eq_getElem (by rw [← h.len]; exact hj)⟩
   rw [hz, hP]
   obtain ⟨e1, e2, e3, e4, e5, e6, e7, e8⟩ := h.ps j z P hz hP
   simp only [Option.map_some, Par.pure, e1, e2, e3, e4, e5, e6, e7, e8]
  ·
   rw [List.getElem?_eq_none (by omega), List.getElem?_eq_none (by have := h.len; omega)]
 have hcs : y.cs.map Core.ws = x.cs.map Core.ws := h.cs
 unfold Cfg.pure
 rw [h.frames, h.major, h.kernel, h.room, hcs, hps, h.hs]
theorem ret_t {b : Bool} (h : b = true) : Ending.returned (Value.bool b) = .returned (.bool true) := by rw [h]
theorem form_pos (x : Cfg) : 8 ≤ (form x).length := by
 unfold form body markB; rw [List.length_append, List.length_append, lowB_len, lowB_len]; omega
theorem dec_back {x : Cfg} {w : World} {N : Nat} (h : x.In w N) (hd : x.d = false) : dec (form x) = .ok x.pure := by
 rw [cfgForm]
 exact dec_form x.pure (by rw [← cfgD x h.fine]; exact hd)
end Go.Proofs.YthegceijlfflfaaGreat
namespace Go.Proofs.YthegceijlfflfaaGreat
open Go.RowKit
set_option linter.unusedVariables false
set_option linter.unusedSimpArgs false
set_option maxRecDepth 6000
set_option maxHeartbeats 8000000 in
theorem admitBytes_any (x : Cfg) (A : Int) (tn : UInt8) (w : World) (N : Nat) (hi : x.In w N) (hN : N ≤ w.heap.size) (hs : Sml x) (hA : I64 A) :
  Calls Tryz.prog 3 #[x.v, .int .i64 A, .int .u8 (tn.toNat : Int)] w fun e w' => e = .returned (.bool true) ∧ Keeps (fun _ => False) w w' := by
 have HS : Hid (Sml x ∧ I64 A) := ⟨hs, hA⟩
 have HO1 := One.mk' hi hN
 obtain ⟨W, hW⟩ : ∃ W, W = x.laid w := ⟨_, rfl⟩
 obtain ⟨C, hC⟩ : ∃ C, C = w.heap.size := ⟨_, rfl⟩
 rw [← hW, ← hC] at HO1
 have HO : Hid (One w x C N W) := HO1
 have HC : Hid (∀ w', One w x C N w' → Calls Tryz.prog 5 #[x.v] w' (CopP x w')) := fun w' h => Copied_any x w' N h.cin h.nn hs
 obtain ⟨q0, q1, q2, q3, q4, q5, q6⟩ := HO1.cells
 obtain ⟨TN, hTN⟩ : ∃ TN : Nat, tn.toNat = TN := ⟨_, rfl⟩
 have HTN : Hid (tn.toNat = TN) := hTN
 rw [hTN]
 unfold Cfg.laid at hW
 clear hi hN HO1 hs hA hTN
 go_enter Tryz.func3, Tryz.ntmps3
 go_upto_region 1 with fail
 rw [← hW, ← hC]
 clear hW hC
 go_wp2_with fail
 refine (HC.out W HO.out).mono ?_
 rintro e w1 ⟨x1, rfl, hE1, hi1, _, hK1⟩
 have hp1 : x1.pure = x.pure := hE1.pure
 have HO2 : Hid (One w x C N w1) := HO.out.kept hK1
 have HEn : Hid (Calls Tryz.prog 4 #[x1.v] w1 _) := encode_any _ x1 w1 hi1 (Nat.le_refl _)
 have H1 : Hid (x1.pure = x.pure ∧ x1.In w1 w1.heap.size) := ⟨hp1, hi1⟩
 clear hE1 hi1 hp1 hK1 HO q0 q1 q2 q3 q4 q5 q6
 go_wp2_with fail
 refine HEn.out.mono ?_
 clear HEn
 rintro e w2 ⟨hK2, ⟨h1, rfl⟩ | ⟨h1, h2, rfl⟩ | ⟨h1, h2, g, hg, hB, rfl⟩⟩
 ·
  have HO3 : Hid (One w x C N w2) := HO2.out.kept hK2
  clear hK2 h1
  go_wp2
  go_ret
  exact ⟨rfl, HO3.out.keeps⟩
 ·
  have HO3 : Hid (One w x C N w2) := HO2.out.kept hK2
  clear hK2 h1 h2
  go_wp2
  go_ret
  exact ⟨rfl, HO3.out.keeps⟩
 ·
  have HO3 : Hid (One w x C N w2) := HO2.out.kept hK2
  have hdec := dec_back H1.out.2 h1
  obtain ⟨B, hBB⟩ : ∃ B, form x1 = B := ⟨_, rfl⟩
  have hfp := cfgForm x1
  have hd1 : x1.pure.d = false := by rw [← cfgD x1 H1.out.2.fine]; exact h1
  rw [hBB] at hdec h2 hB hfp ⊢
  have hfp8 := form_pos x1
  rw [hBB] at hfp8
  have H2 : Hid (dec B = .ok x.pure ∧ B.length ≤ 16384 ∧ B = pform x1.pure ∧ x1.pure.d = false ∧ w.heap.size ≤ g ∧ 8 ≤ B.length) :=
   ⟨by rw [hdec, H1.out.1], h2, hfp, hd1, Nat.le_trans HO2.out.keeps.size hg, hfp8⟩
  obtain ⟨M, hM⟩ : ∃ M, B.length = M := ⟨_, rfl⟩
  have HB : Hid (Blk w2 g (bvs B) 5 ∧ B.length = M) := ⟨hB, hM⟩
  rw [hM]
  obtain ⟨q0, q1, q2, q3, q4, q5, q6⟩ := HO3.out.cells
  clear hK2 h1 h2 hB hdec hBB hfp hfp8 hd1 hg hM HO2
  go_wp2_with fail
  refine (HC.out w2 HO3.out).mono ?_
  rintro e w3 ⟨x3, rfl, hE3, hi3, _, hK3⟩
  have hp3 : x3.pure = x.pure := hE3.pure
  have HO4 : Hid (One w x C N w3) := HO3.out.kept hK3
  have HCk : Hid (Calls Tryz.prog 6 #[x3.v] w3 _) := Check_any x3 w3 _ hi3 (Nat.le_refl _)
  have HB3 : Hid (Blk w3 g (bvs B) 5) := HB.out.1.kept hK3 fun e => e
  have hc3 : chk x3 = chk x := chk_pure hp3
  clear hE3 hi3 hp3 hK3 HO3 q0 q1 q2 q3 q4 q5 q6
  go_wp2_with fail
  refine HCk.out.mono ?_
  clear HCk
  rintro e w4 ⟨rfl, hK4⟩
  rw [hc3]
  clear hc3
  have hrg := chk_rg x
  obtain ⟨F, hF⟩ : ∃ F, chk x = F := ⟨_, rfl⟩
  have HF : Hid (chk x = F) := hF
  rw [hF] at hrg ⊢
  clear hF
  obtain ⟨fn, fa, fb⟩ := F
  dsimp only at hrg ⊢
  obtain ⟨W5, hW5⟩ : ∃ W5, W5 = w4.alloc (.cells #[.int .i64 fa, .int .i64 fb] 33) := ⟨_, rfl⟩
  obtain ⟨D, hD⟩ : ∃ D, D = w4.heap.size := ⟨_, rfl⟩
  have hKW5 : Keeps (fun _ => False) w4 W5 := by rw [hW5]; exact (Keeps.refl _ _).alloc _
  have HO5 : Hid (One w x C N W5) := (HO4.out.kept hK4).kept hKW5
  have hB5 : Blk W5 g (bvs B) 5 := (HB3.out.kept hK4 fun e => e).kept hKW5 fun e => e
  have HD5 : Hid (Blk W5 D [.int .i64 fa, .int .i64 fb] 33) := by rw [hW5, hD]; exact Blk.new _ _ _
  have HAd0 := admit_any B (some ⟨g, 0, none⟩) B.length W5 (seg_blk hB5) ⟨Nat.le_refl _, by have := H2.out.2.1; unfold maxLen; omega⟩ H2.out.2.1 (fun _ y hy => by cases hy; exact hB5.lt)
  rw [HB.out.2] at HAd0
  have HAd : Hid (Calls _ _ _ _ _) := HAd0
  have HB5 : Hid (Blk W5 g (bvs B) 5) := hB5
  have HRG : Hid (Rg ⟨fn, fa, fb⟩) := hrg
  clear hK4 hKW5 hB5 HAd0 HO4 HB3 hrg
  go_upto_region 5 with fail
  rw [← hW5, ← hD]
  clear hW5 hD
  go_wp2_with fail
  refine HAd.out.mono ?_
  clear HAd
  rintro e w6 ⟨hK6, ⟨y, hdy, hyi, ⟨hn, rfl⟩ | ⟨hn, rfl⟩⟩ | ⟨q, k, hd, rfl⟩⟩
  rotate_right
  ·
   rw [H2.out.1] at hd; cases hd
  ·
   have hyp : y.pure = x.pure := by rw [H2.out.1] at hdy; exact (Except.ok.inj hdy).symm
   rw [chk_pure hyp, HF.out] at hn
   simp only at hn
   subst hn
   have hrg := HRG.out
   obtain ⟨rfl, rfl⟩ : fa = 0 ∧ fb = 0 := by
    rcases hrg with h | h
    ·
     cases h; exact ⟨rfl, rfl⟩
    ·
     have := h.1; simp only at this; omega
   obtain ⟨m1, m2, m3, m4, da, dc, ds, qa, qc, qs, ea, ec, es⟩ := y
   obtain ⟨Y, hYY⟩ : ∃ Y : Cfg, Y = ⟨m1, m2, m3, m4, da, dc, ds, qa, qc, qs, ea, ec, es⟩ := ⟨_, rfl⟩
   rw [← hYY] at hdy hyi hyp ⊢
   obtain ⟨K1, hk1⟩ : ∃ L, ds.length = L := ⟨_, rfl⟩
   obtain ⟨K2, hk2⟩ : ∃ L, qs.length = L := ⟨_, rfl⟩
   obtain ⟨K3, hk3⟩ : ∃ L, es.length = L := ⟨_, rfl⟩
   have hyv : Y.v = .agg #[.int .i64 m1, .int .i64 m2, .int .i64 m3, .int .i64 m4, .slice da K1 dc, .slice qa K2 qc, .slice ea K3 ec] := by rw [hYY, ← hk1, ← hk2, ← hk3]
   rw [hyv]
   obtain ⟨W7, hW7⟩ : ∃ W7, W7 = (w6.alloc (.cells #[.int .i64 m1, .int .i64 m2, .int .i64 m3, .int .i64 m4, .slice da K1 dc, .slice qa K2 qc, .slice ea K3 ec] 26)).alloc (.cells #[.int .i64 0, .int .i64 0] 33) := ⟨_, rfl⟩
   obtain ⟨T, hT⟩ : ∃ T, T = w6.heap.size := ⟨_, rfl⟩
   have hKW7 : Keeps (fun _ => False) w6 W7 := by rw [hW7]; exact ((Keeps.refl _ _).alloc _).alloc _
   have hK57 : Keeps (fun _ => False) W5 W7 := hK6.trans hKW7 fun _ _ e => e
   have hBT : Blk W7 T #[.int .i64 m1, .int .i64 m2, .int .i64 m3, .int .i64 m4, .slice da K1 dc, .slice qa K2 qc, .slice ea K3 ec].toList 26 := by rw [hW7, hT]; exact (Blk.new _ _ _).alloc _
   have hBE : Blk W7 (T + 1) [.int .i64 0, .int .i64 0] 33 := by
    rw [hW7, hT]
    have := Blk.new (w6.alloc (.cells #[.int .i64 m1, .int .i64 m2, .int .i64 m3, .int .i64 m4, .slice da K1 dc, .slice qa K2 qc, .slice ea K3 ec] 26)) #[.int .i64 0, .int .i64 0] 33
    simpa using this
   have HO7 : Hid (One w x C N W7) := HO5.out.kept hK57
   have HB7 : Hid (Blk W7 g (bvs B) 5) := HB5.out.kept hK57 fun e => e
   have hBD := HD5.out.kept hK57 fun e => e
   have HSm : Hid (Calls Tryz.prog 8 #[.agg #[.int .i64 m1, .int .i64 m2, .int .i64 m3, .int .i64 m4, .slice da K1 dc, .slice qa K2 qc, .slice ea K3 ec], x.v] W7 fun e w' => e = .returned (.bool true) ∧ Keeps (fun _ => False) W7 w') := by
    rw [← hyv]
    exact same_eq Y x W7 hyp (hyi.ok.grown hKW7) HO7.out.cin.ok
   have c0 := hBT.cell (i := 0) rfl
   have c1 := hBT.cell (i := 1) rfl
   have c2 := hBT.cell (i := 2) rfl
   have c3 := hBT.cell (i := 3) rfl
   have c4 := hBT.cell (i := 4) rfl
   have c5 := hBT.cell (i := 5) rfl
   have c6 := hBT.cell (i := 6) rfl
   have e0 := hBE.cell (i := 0) rfl
   have e1 := hBE.cell (i := 1) rfl
   have d0 := hBD.cell (i := 0) rfl
   have d1 := hBD.cell (i := 1) rfl
   obtain ⟨q0, q1, q2, q3, q4, q5, q6⟩ := HO7.out.cells
   clear hyp hdy hyi hYY hk1 hk2 hk3 hyv hKW7 hK57 hBT hBE hBD hK6 HO5 HB5 HD5 hrg HRG
   go_upto_region 6 with fail
   rw [← hW7, ← hT]
   clear hW7 hT
   go_wp2_with fail
   refine HSm.out.mono ?_
   clear HSm
   rintro e w8 ⟨rfl, hK8⟩
   have HK8 : Hid (Keeps (fun _ => False) w w8) := HO7.out.keeps.trans hK8 fun _ _ e => e
   have HB8 : Hid (Blk w8 g (bvs B) 5) := HB7.out.kept hK8 fun e => e
   clear hK8 HO7 HB7 c0 c1 c2 c3 c4 c5 c6 e0 e1 d0 d1 q0 q1 q2 q3 q4 q5 q6
   have hMi : (M : Int) ≤ 16384 := by have := HB.out.2; have := H2.out.2.1; omega
   have hM0 : (0 : Int) < M := by have := HB.out.2; have := H2.out.2.2.2.2.2; omega
   by_cases a1 : A < 0
   ·
    go_wp2
    go_ret
    exact ⟨ret_t (b := decide (0 < M)) (decide_eq_true (by omega)), HK8.out⟩
   by_cases a2 : (M : Int) ≤ A
   ·
    go_wp2
    go_ret
    exact ⟨ret_t (b := decide (0 < M)) (decide_eq_true (by omega)), HK8.out⟩
   by_cases a3 : (TN : Int) = 0
   ·
    rw [a3]
    go_wp2
    go_ret
    exact ⟨ret_t (b := decide (0 < M)) (decide_eq_true (by omega)), HK8.out⟩
   obtain ⟨R, rfl⟩ : ∃ R : Nat, A = R := ⟨A.toNat, by omega⟩
   have ht : ¬ tn = 0 := fun e => a3 (by have := HTN.out; rw [e] at this; have h0 : (0 : UInt8).toNat = 0 := rfl; omega)
   have hRf : R < B.length := by have := HB.out.2; omega
   have hRl : R < (pform x1.pure).length := by rw [← H2.out.2.2.1]; exact hRf
   obtain ⟨q', k', hdq⟩ := dec_turned x1.pure R hRl tn ht
   have hF' : (pform x1.pure).set R ((pform x1.pure)[R] ^^^ tn) = B.set R (B[R] ^^^ tn) := by
    have e : ∀ (A B : List UInt8) (hA : R < A.length) (hB : R < B.length), A = B → A.set R (A[R] ^^^ tn) = B.set R (B[R] ^^^ tn) := by
     intro A B hA hB e; subst e; rfl
    exact e _ _ hRl hRf H2.out.2.2.1.symm
   rw [hF'] at hdq
   have y0 : w8.cell? ⟨g, R, none⟩ = some (.int .u8 ((B[R]).toNat : Int)) := HB8.out.cell (bvs_get _ R hRf)
   have yf := HB8.out.frozen R
   have hB2 : Blk (w8.setCell ⟨g, R, none⟩ (.int .u8 (((B[R]) ^^^ tn).toNat : Int))) g (bvs (B.set R (B[R] ^^^ tn))) 5 := by
    have h3 := HB8.out.setCell R (.int .u8 (((B[R]) ^^^ tn).toNat : Int))
    have e : bvs (B.set R (B[R] ^^^ tn)) = (bvs B).set R (.int .u8 (((B[R]) ^^^ tn).toNat : Int)) := by simp [bvs, List.map_set]
    rw [e]; exact h3
   have hK9 : Keeps (fun _ => False) w (w8.setCell ⟨g, R, none⟩ (.int .u8 (((B[R]) ^^^ tn).toNat : Int))) := HK8.out.setCell _ _ (fun h => by have := H2.out.2.2.2.2.1; simp at h; omega)
   have hxr : bits .xor .u8 ((B[R]).toNat : Int) (tn.toNat : Int) = (((B[R]) ^^^ tn).toNat : Int) := by
    rw [UInt8.toNat_xor]
    exact u8_xor_nat _ _ (B[R]).toNat_lt tn.toNat_lt
   have hlen2 : (B.set R (B[R] ^^^ tn)).length = M := by rw [List.length_set]; exact HB.out.2
   have HD1 := admit_any (B.set R (B[R] ^^^ tn)) (some ⟨g, 0, none⟩) M _ (seg_blk hB2) (by rw [hlen2]; unfold maxLen; omega) (by rw [hlen2]; omega) (fun _ y hy => by cases hy; exact hB2.lt)
   rw [hlen2] at HD1
   obtain ⟨Av, hAv⟩ : ∃ Av : Nat, (B[R]).toNat = Av := ⟨_, rfl⟩
   obtain ⟨Q, hQ⟩ : ∃ Q : Nat, ((B[R]) ^^^ tn).toNat = Q := ⟨_, rfl⟩
   rw [hAv, hQ, HTN.out] at hxr
   rw [hAv] at y0
   rw [hQ] at HD1 hK9
   obtain ⟨B', hB'⟩ : ∃ B', B.set R (B[R] ^^^ tn) = B' := ⟨_, rfl⟩
   rw [hB'] at HD1 hdq
   have HD2 : Hid (Calls _ _ _ _ _) := HD1
   have HQ9 : Hid (dec B' = .error (q', k') ∧ Keeps (fun _ => False) w (w8.setCell ⟨g, R, none⟩ (.int .u8 (Q : Int)))) := ⟨hdq, hK9⟩
   have hRMi : (R : Int) < M := by omega
   have hRt : ((R : Int)).toNat = R := by omega
   have a3b : ((TN : Int) == 0) = false := by simp; omega
   clear hB' hdq hF' hB2 hK9 hlen2 hAv hQ hRf hRl ht HD1
   go_wp2_with fail
   refine HD2.out.mono ?_
   clear HD2
   rintro e w9 ⟨hK9, ⟨y', hd', _, _⟩ | ⟨q2, k2, hd', rfl⟩⟩
   ·
    rw [HQ9.out.1] at hd'; cases hd'
   have HK9 : Hid (Keeps (fun _ => False) w w9) := HQ9.out.2.trans hK9 fun _ _ e => e
   clear hK9 y0 yf hxr hd' HQ9
   go_wp2
   go_ret
   exact ⟨rfl, (HK9.out.alloc _).alloc _⟩
  ·
   have hyp : y.pure = x.pure := by rw [H2.out.1] at hdy; exact (Except.ok.inj hdy).symm
   rw [chk_pure hyp, HF.out] at hn ⊢
   simp only at hn
   have hn2 : (fn == 0) = false := by simp; omega
   obtain ⟨w8, hW7⟩ : ∃ W7, W7 = (w6.alloc (.cells #[.int .i64 0, .int .i64 0, .int .i64 0, .int .i64 0, .slice none 0 0, .slice none 0 0, .slice none 0 0] 26)).alloc (.cells #[.int .i64 fa, .int .i64 fb] 33) := ⟨_, rfl⟩
   obtain ⟨T, hT⟩ : ∃ T, T = w6.heap.size := ⟨_, rfl⟩
   have hKW7 : Keeps (fun _ => False) w6 w8 := by rw [hW7]; exact ((Keeps.refl _ _).alloc _).alloc _
   have hK57 : Keeps (fun _ => False) W5 w8 := hK6.trans hKW7 fun _ _ e => e
   have hBE : Blk w8 (T + 1) [.int .i64 fa, .int .i64 fb] 33 := by
    rw [hW7, hT]
    have := Blk.new (w6.alloc (.cells #[.int .i64 0, .int .i64 0, .int .i64 0, .int .i64 0, .slice none 0 0, .slice none 0 0, .slice none 0 0] 26)) #[.int .i64 fa, .int .i64 fb] 33
    simpa using this
   have hBD := HD5.out.kept hK57 fun e => e
   have e0 := hBE.cell (i := 0) rfl
   have e1 := hBE.cell (i := 1) rfl
   have d0 := hBD.cell (i := 0) rfl
   have d1 := hBD.cell (i := 1) rfl
   have HK8 : Hid (Keeps (fun _ => False) w w8) := (HO5.out.kept hK57).keeps
   have HB8 : Hid (Blk w8 g (bvs B) 5) := HB5.out.kept hK57 fun e => e
   clear hyp hdy hyi hKW7 hK57 hBE hBD hK6 HO5 HB5 HD5 HRG
   go_upto_region 6 with fail
   rw [← hW7, ← hT]
   clear hW7 hT
   go_upto_region 10 with fail
   clear e0 e1 d0 d1
   have hMi : (M : Int) ≤ 16384 := by have := HB.out.2; have := H2.out.2.1; omega
   have hM0 : (0 : Int) < M := by have := HB.out.2; have := H2.out.2.2.2.2.2; omega
   by_cases a1 : A < 0
   ·
    go_wp2
    go_ret
    exact ⟨ret_t (b := decide (0 < M)) (decide_eq_true (by omega)), HK8.out⟩
   by_cases a2 : (M : Int) ≤ A
   ·
    go_wp2
    go_ret
    exact ⟨ret_t (b := decide (0 < M)) (decide_eq_true (by omega)), HK8.out⟩
   by_cases a3 : (TN : Int) = 0
   ·
    rw [a3]
    go_wp2
    go_ret
    exact ⟨ret_t (b := decide (0 < M)) (decide_eq_true (by omega)), HK8.out⟩
   obtain ⟨R, rfl⟩ : ∃ R : Nat, A = R := ⟨A.toNat, by omega⟩
   have ht : ¬ tn = 0 := fun e => a3 (by have := HTN.out; rw [e] at this; have h0 : (0 : UInt8).toNat = 0 := rfl; omega)
   have hRf : R < B.length := by have := HB.out.2; omega
   have hRl : R < (pform x1.pure).length := by rw [← H2.out.2.2.1]; exact hRf
   obtain ⟨q', k', hdq⟩ := dec_turned x1.pure R hRl tn ht
   have hF' : (pform x1.pure).set R ((pform x1.pure)[R] ^^^ tn) = B.set R (B[R] ^^^ tn) := by
    have e : ∀ (A B : List UInt8) (hA : R < A.length) (hB : R < B.length), A = B → A.set R (A[R] ^^^ tn) = B.set R (B[R] ^^^ tn) := by
     intro A B hA hB e; subst e; rfl
    exact e _ _ hRl hRf H2.out.2.2.1.symm
   rw [hF'] at hdq
   have y0 : w8.cell? ⟨g, R, none⟩ = some (.int .u8 ((B[R]).toNat : Int)) := HB8.out.cell (bvs_get _ R hRf)
   have yf := HB8.out.frozen R
   have hB2 : Blk (w8.setCell ⟨g, R, none⟩ (.int .u8 (((B[R]) ^^^ tn).toNat : Int))) g (bvs (B.set R (B[R] ^^^ tn))) 5 := by
    have h3 := HB8.out.setCell R (.int .u8 (((B[R]) ^^^ tn).toNat : Int))
    have e : bvs (B.set R (B[R] ^^^ tn)) = (bvs B).set R (.int .u8 (((B[R]) ^^^ tn).toNat : Int)) := by simp [bvs, List.map_set]
    rw [e]; exact h3
   have hK9 : Keeps (fun _ => False) w (w8.setCell ⟨g, R, none⟩ (.int .u8 (((B[R]) ^^^ tn).toNat : Int))) := HK8.out.setCell _ _ (fun h => by have := H2.out.2.2.2.2.1; simp at h; omega)
   have hxr : bits .xor .u8 ((B[R]).toNat : Int) (tn.toNat : Int) = (((B[R]) ^^^ tn).toNat : Int) := by
    rw [UInt8.toNat_xor]
    exact u8_xor_nat _ _ (B[R]).toNat_lt tn.toNat_lt
   have hlen2 : (B.set R (B[R] ^^^ tn)).length = M := by rw [List.length_set]; exact HB.out.2
   have HD1 := admit_any (B.set R (B[R] ^^^ tn)) (some ⟨g, 0, none⟩) M _ (seg_blk hB2) (by rw [hlen2]; unfold maxLen; omega) (by rw [hlen2]; omega) (fun _ y hy => by cases hy; exact hB2.lt)
   rw [hlen2] at HD1
   obtain ⟨Av, hAv⟩ : ∃ Av : Nat, (B[R]).toNat = Av := ⟨_, rfl⟩
   obtain ⟨Q, hQ⟩ : ∃ Q : Nat, ((B[R]) ^^^ tn).toNat = Q := ⟨_, rfl⟩
   rw [hAv, hQ, HTN.out] at hxr
   rw [hAv] at y0
   rw [hQ] at HD1 hK9
   obtain ⟨B', hB'⟩ : ∃ B', B.set R (B[R] ^^^ tn) = B' := ⟨_, rfl⟩
   rw [hB'] at HD1 hdq
   have HD2 : Hid (Calls _ _ _ _ _) := HD1
   have HQ9 : Hid (dec B' = .error (q', k') ∧ Keeps (fun _ => False) w (w8.setCell ⟨g, R, none⟩ (.int .u8 (Q : Int)))) := ⟨hdq, hK9⟩
   have hRMi : (R : Int) < M := by omega
   have hRt : ((R : Int)).toNat = R := by omega
   have a3b : ((TN : Int) == 0) = false := by simp; omega
   clear hB' hdq hF' hB2 hK9 hlen2 hAv hQ hRf hRl ht HD1
   go_wp2_with fail
   refine HD2.out.mono ?_
   clear HD2
   rintro e w9 ⟨hK9, ⟨y', hd', _, _⟩ | ⟨q2, k2, hd', rfl⟩⟩
   ·
    rw [HQ9.out.1] at hd'; cases hd'
   have HK9 : Hid (Keeps (fun _ => False) w w9) := HQ9.out.2.trans hK9 fun _ _ e => e
   clear hK9 y0 yf hxr hd' HQ9
   go_wp2
   go_ret
   exact ⟨rfl, (HK9.out.alloc _).alloc _⟩
end Go.Proofs.YthegceijlfflfaaGreat
