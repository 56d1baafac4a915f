import Derived.Test.YtlnmlbkeemahcaaGreatYi
namespace Go.Proofs.YtlnmlbkeemahcaaGreat
open Go.RowKit
set_option linter.unusedVariables false
set_option maxRecDepth 6000
set_option linter.unusedSimpArgs false
def wiN (x : Cfg) (i k : Nat) (y : Win) : Int := (firstF (winF x i k y)).n
theorem winF_at {x : Cfg} {i k : Nat} {y : Win} (h : wiN x i k y ≠ 0) : firstF (winF x i k y) = ⟨wiN x i k y, i, k⟩ := by
 revert h
 unfold wiN winF
 cases (inR y.p (-1) ((x.ps.length : Int) - 1) && inR y.u 1 16384)
 ·
  simp [firstF, unl]
 ·
  cases (inR y.s 82 16384)
  ·
   simp [firstF, unl, Flt.no]
  ·
   cases (hasW y.p (x.cs.take i))
   ·
    intro h; exact absurd rfl h
   ·
    simp [firstF, unl, Flt.no]
theorem wiN_p {x : Cfg} {i k : Nat} {y : Win} (h : (inR y.p (-1) ((x.ps.length : Int) - 1) && inR y.u 1 16384) = false) : wiN x i k y = 419 := by
 unfold wiN winF; rw [h]; simp [firstF, unl]
theorem wiN_s {x : Cfg} {i k : Nat} {y : Win} (h : (inR y.p (-1) ((x.ps.length : Int) - 1) && inR y.u 1 16384) = true) (h2 : inR y.s 82 16384 = false) : wiN x i k y = 420 := by
 unfold wiN winF; rw [h, h2]; simp [firstF, unl, Flt.no]
theorem wiN_w {x : Cfg} {i k : Nat} {y : Win} (h : (inR y.p (-1) ((x.ps.length : Int) - 1) && inR y.u 1 16384) = true) (h2 : inR y.s 82 16384 = true) (h3 : hasW y.p (x.cs.take i) = true) : wiN x i k y = 422 := by
 unfold wiN winF; rw [h, h2, h3]; simp [firstF, unl, Flt.no]
theorem wiN_ok {x : Cfg} {i k : Nat} {y : Win} (h : (inR y.p (-1) ((x.ps.length : Int) - 1) && inR y.u 1 16384) = true) (h2 : inR y.s 82 16384 = true) (h3 : hasW y.p (x.cs.take i) = false) : wiN x i k y = 0 := by
 unfold wiN winF; rw [h, h2, h3]; simp [firstF, unl, Flt.no]
theorem winsF_hit {x : Cfg} {i : Nat} {X : Core} {j : Nat} {y : Win} (hy : X.ws[j]? = some y) (h0 : ∀ (k : Nat) (z : Win), k < j → X.ws[k]? = some z → wiN x i k z = 0) (h : wiN x i j y ≠ 0) : winsF x i X = ⟨wiN x i j y, i, j⟩ := by
 have hj := (List.getElem?_eq_some_iff.1 hy).1
 have e : firstF (winF' x i X j) = ⟨wiN x i j y, i, j⟩ := by unfold winF'; rw [hy]; exact winF_at h
 unfold winsF
 refine (firstF_take (j := j) (f := firstF (winF' x i X j)) (by simp [hj]) (fun k hk f hf => ?_) (by rw [e]; exact h)).trans e
 rw [List.getElem?_map, List.getElem?_range (by omega)] at hf
 simp only [Option.map_some, Option.some.injEq] at hf
 rw [← hf]
 have hs : X.ws[k]? = some (X.ws[k]'(by omega)) := List.getElem?_eq_getElem (by omega)
 unfold winF'
 rw [hs]
 exact h0 k _ hk hs
theorem winsF_no {x : Cfg} {i : Nat} {X : Core} (h0 : ∀ (k : Nat) (z : Win), X.ws[k]? = some z → wiN x i k z = 0) : (winsF x i X).n = 0 := by
 unfold winsF
 rw [firstF_range]
 intro k hk
 have hs : X.ws[k]? = some (X.ws[k]'hk) := List.getElem?_eq_getElem hk
 unfold winF'
 rw [hs]
 exact h0 k _ hs
structure CoI (w : World) (x : Cfg) (C N R : Nat) (wr : World) : Prop where
 one : One w x C N wr
 res : Blk wr R [.int .i64 0, .int .i64 0] 34
 lo : w.heap.size ≤ R
theorem CoI.kept {w : World} {x : Cfg} {C N R : Nat} {wr w' : World} (h : CoI w x C N R wr) (hK : KF wr w') : CoI w x C N R w' := ⟨h.one.kept hK, h.res.kept hK fun h => h, h.lo⟩
theorem CoI.set {w : World} {x : Cfg} {C N R : Nat} {wr : World} (h : CoI w x C N R wr) (a b : Int) :
  Blk ((wr.setCell ⟨R, 0, none⟩ (.int .i64 a)).setCell ⟨R, 1, none⟩ (.int .i64 b)) R [.int .i64 a, .int .i64 b] 34 ∧ KF w ((wr.setCell ⟨R, 0, none⟩ (.int .i64 a)).setCell ⟨R, 1, none⟩ (.int .i64 b)) := by
 obtain ⟨h1, h2⟩ := set2 h.res (.int .i64 a) (.int .i64 b)
 exact ⟨h1, h.one.keeps.trans h2 fun k hk e => by have := h.lo; omega⟩
set_option maxHeartbeats 8000000 in
theorem dcore_any (x : Cfg) (i : Nat) (X : Core) (hX : x.cs[i]? = some X) (w : World) (N : Nat) (hi : x.In w N) (hN : N ≤ w.heap.size) (hp : x.ps.length ≤ 8) (hc4 : x.cs.length ≤ 4) (hw : ∀ Y ∈ x.cs.take i, Y.ws.length ≤ 16) :
  Calls Tryz.prog 20 #[x.v, .int .i64 (i : Int)] w (FlP (firstF (corF x i X)) w) := by
 obtain ⟨F, hF⟩ : ∃ F, firstF (corF x i X) = F := ⟨_, rfl⟩
 rw [hF]
 obtain ⟨W, hW⟩ : ∃ W, W = (x.laid w).alloc (.cells #[.int .i64 0, .int .i64 0] 34) := ⟨_, rfl⟩
 obtain ⟨C, hC⟩ : ∃ C, C = w.heap.size := ⟨_, rfl⟩
 obtain ⟨R, hR⟩ : ∃ R, R = w.heap.size + 1 := ⟨_, rfl⟩
 have hO : One w x C N W := by rw [hW, hC]; exact (One.mk' hi hN).kept ((Keeps.refl _ _).alloc _)
 have hRb : Blk W R [.int .i64 0, .int .i64 0] 34 := by
  have := Blk.new (x.laid w) #[.int .i64 0, .int .i64 0] 34
  rw [hW, hR]
  simpa [Cfg.laid] using this
 have HI : Hid (CoI w x C N R W) := ⟨hO, hRb, by omega⟩
 obtain ⟨L, hL⟩ : ∃ L, x.cs.length = L := ⟨_, rfl⟩
 obtain ⟨PL, hPL⟩ : ∃ L, x.ps.length = L := ⟨_, rfl⟩
 have hil : (i : Int) < L := by have := (List.getElem?_eq_some_iff.1 hX).1; omega
 have hcc1 : (L : Int) ≤ x.cc := by have := hi.clen; omega
 have hcc2 : (x.cc : Int) ≤ 9223372036854775807 := by have := hi.clen; unfold maxLen at this; omega
 obtain ⟨g, o, ha, hc⟩ := hO.cin.cseg.at hX
 have r0 := hc 0 _ rfl
 rw [Nat.mul_one, Nat.add_zero] at r0
 have q4 := hO.cells.2.2.2.2.1
 rw [hL, ha] at q4
 have hXi := hi.cin X (List.mem_of_getElem? hX)
 obtain ⟨xa, xc, ws⟩ := X
 obtain ⟨K, hK⟩ : ∃ K, ws.length = K := ⟨_, rfl⟩
 dsimp only at r0
 rw [hK] at r0
 have hkc1 : (K : Int) ≤ xc := by have := hXi.len; dsimp only at this; omega
 have hkc2 : (xc : Int) ≤ 9223372036854775807 := by have := hXi.len; dsimp only at this; unfold maxLen at this; omega
 have HX : Hid (firstF (corF x i ⟨xa, xc, ws⟩) = F ∧ x.cs[i]? = some ⟨xa, xc, ws⟩ ∧ ws.length = K ∧ x.cs.length = L ∧ x.ca = some ⟨g, o, none⟩ ∧ x.ps.length = PL ∧ PL ≤ 8 ∧ L ≤ 4 ∧ (∀ Y ∈ x.cs.take i, Y.ws.length ≤ 16)) := ⟨hF, hX, hK, hL, ha, hPL, by omega, by omega, hw⟩
 have HIn : Hid (∀ n a b w, Calls Tryz.prog 26 #[.int .i64 n, .int .i64 a, .int .i64 b] w fun e w' => e = .returned (.bool (inR n a b)) ∧ w' = w) := rin_any
 have HOf : Hid (∀ w, Calls Tryz.prog 19 #[.int .i64 (i : Int)] w fun e w' => e = .returned (.agg #[.int .i64 (i : Int), .int .i64 (-1)]) ∧ KF w w') := rof_any i
 clear hF hX hi hN hp hc4 hw hO hRb hL hPL hc ha hXi hK
 unfold Cfg.laid at hW
 go_enter Tryz.func20, Tryz.ntmps20
 go_upto_region 1 with fail
 rw [← hW, ← hR, ← hC]
 clear hW hC hR
 go_wp2_with fail
 refine (HIn.out (K : Int) 1 16 W).mono ?_
 rintro e w1 ⟨rfl, rfl⟩
 cases b1 : inR (K : Int) 1 16 with
 | false =>
  have HB1 : Hid (inR (K : Int) 1 16 = false) := b1
  clear b1 q4 r0
  have HF : Hid (F = ⟨418, i, -1⟩) := by
   show F = _
   rw [← HX.out.1]
   unfold corF; dsimp only; rw [HX.out.2.2.1, HB1.out, firstF_unl_false (by simp)]
  go_wp2_with fail
  refine (HOf.out w1).mono ?_
  rintro e w9 ⟨rfl, hK9⟩
  have HI9 : Hid (CoI w x C N R w9) := HI.out.kept hK9
  clear hK9
  have t0 := HI9.out.res.cell (i := 0) rfl
  have t1 := HI9.out.res.cell (i := 1) rfl
  have u0 := HI9.out.res.frozen 0
  have u1 := HI9.out.res.frozen 1
  go_wp2
  obtain ⟨W9, hW9⟩ : ∃ W9, W9 = (w9.setCell ⟨R, 0, none⟩ (.int .i64 (i : Int))).setCell ⟨R, 1, none⟩ (.int .i64 (-1)) := ⟨_, rfl⟩
  rw [← hW9]
  obtain ⟨hb9, hk9⟩ := HI9.out.set (i : Int) (-1)
  rw [← hW9] at hb9 hk9
  (try simp only [Exit.inBlock, Exit.then])
  refine bodyPost_ret (results_two_cell rfl _ _ R 34 _ (0, 0) _ rfl hb9 Tryz.underlying34 rfl (by kernel_rfl)) rfl ?_
  exact ⟨by rw [HF.out]; rfl, hk9⟩
 | true =>
 have H1 : Hid (inR (K : Int) 1 16 = true) := b1
 have hK16 : (K : Int) ≤ 16 := (inR_iff.1 b1).2
 clear b1 q4 r0
 have HF2 : Hid (F = firstF [winsF x i ⟨xa, xc, ws⟩, unl (cyc ws == x.major) ⟨421, i, -1⟩]) := by
  show F = _
  rw [← HX.out.1]
  unfold corF
  dsimp only
  rw [HX.out.2.2.1, H1.out, firstF_unl_true]
 go_wp2
 go_loopw [6, 7] (fun s j wr => ∃ k : Nat, k ≤ K ∧ j = .int .i64 k ∧ s = .int .i64 (cyc (ws.take k)) ∧ (0 ≤ cyc (ws.take k) ∧ cyc (ws.take k) ≤ 32768 * k) ∧ (∀ (v : Nat) (z : Win), v < k → ws[v]? = some z → wiN x i v z = 0) ∧ CoI w x C N R wr) (fun _ j _ => K - (intOf j).toNat)
 case atStart => exact ⟨0, by omega, rfl, rfl, ⟨Int.le_refl _, by simp [cyc]⟩, fun v z h => absurd h (by omega), HI.out⟩
 case round =>
  obtain ⟨k, hk, rfl, rfl, hcy, hno, hI⟩ := hrel
  clear HI
  have HI : Hid (CoI w x C N R wr) := hI
  have HN : Hid (∀ (v : Nat) (z : Win), v < k → ws[v]? = some z → wiN x i v z = 0) := hno
  obtain ⟨S, hS⟩ : ∃ S, cyc (ws.take k) = S := ⟨_, rfl⟩
  rw [hS] at hcy ⊢
  have HS : Hid (cyc (ws.take k) = S) := hS
  have q4 := hI.one.cells.2.2.2.2.1
  rw [HX.out.2.2.2.1, HX.out.2.2.2.2.1] at q4
  obtain ⟨g', o', ha', hc'⟩ := hI.one.cin.cseg.at HX.out.2.1
  rw [HX.out.2.2.2.2.1] at ha'
  cases ha'
  have r0 := hc' 0 _ rfl
  rw [Nat.mul_one, Nat.add_zero] at r0
  dsimp only at r0
  rw [HX.out.2.2.1] at r0
  clear hno hS hc'
  by_cases hlt : k < K
  ·
   have hkk : (k : Int) < K := by omega
   obtain ⟨y, hy⟩ : ∃ y, ws[k]? = some y := ⟨_, List.getElem?_eq_getElem (by have := HX.out.2.2.1; omega)⟩
   obtain ⟨g2, o2, ha2, hc2⟩ := (hI.one.cin.cin _ (List.mem_of_getElem? HX.out.2.1)).seg.at hy
   dsimp only at ha2
   subst ha2
   obtain ⟨yp, yu, ys⟩ := y
   have y0 := hc2 0 _ rfl
   rw [Nat.add_zero] at y0
   have y1 := hc2 1 _ rfl
   have y2 := hc2 2 _ rfl
   dsimp only at y0 y1 y2
   obtain ⟨A, hA⟩ : ∃ A, A = wr.heap.size := ⟨_, rfl⟩
   obtain ⟨W3, hW3⟩ : ∃ W3, W3 = wr.alloc (.cells #[.int .i64 yp, .int .i64 yu, .int .i64 ys] 44) := ⟨_, rfl⟩
   obtain ⟨T, hT⟩ : ∃ T, T = W3.heap.size := ⟨_, rfl⟩
   obtain ⟨W4, hW4⟩ : ∃ W4, W4 = W3.alloc (.cells #[.int .i64 (i : Int), .int .i64 (k : Int)] 34) := ⟨_, rfl⟩
   have HI4 : Hid (CoI w x C N R W4 ∧ Blk W4 A [.int .i64 yp, .int .i64 yu, .int .i64 ys] 44 ∧ Blk W4 T [.int .i64 (i : Int), .int .i64 (k : Int)] 34 ∧ T ≠ R) := by
    have h1 : CoI w x C N R W3 := by rw [hW3]; exact hI.kept ((Keeps.refl _ _).alloc _)
    have h2 := h1.res.lt
    refine ⟨by rw [hW4]; exact h1.kept ((Keeps.refl _ _).alloc _), ?_, by rw [hW4, hT]; exact Blk.new _ _ _, by omega⟩
    rw [hW4]
    refine Blk.alloc ?_ _
    rw [hW3, hA]
    exact Blk.new _ _ _
   have HY : Hid (ws[k]? = some ⟨yp, yu, ys⟩) := hy
   have a0 := HI4.out.2.1.cell (i := 0) rfl
   have a1 := HI4.out.2.1.cell (i := 1) rfl
   have a2 := HI4.out.2.1.cell (i := 2) rfl
   clear hy hc2 hI HI
   go_upto_region 8 with fail
   rw [← hW3, ← hA]
   clear hW3 hA y0 y1 y2 q4 r0
   go_upto_region 9 with fail
   rw [← hW4, ← hT]
   clear hW4 hT
   obtain ⟨q0, q1, q2, q3, q4, q5, q6⟩ := HI4.out.1.one.cells
   have qp := q5
   rw [HX.out.2.2.2.2.2.1] at qp
   have qh : IntKind.i64.wrap ((PL : Int) - 1) = PL - 1 := by have := HX.out.2.2.2.2.2.2.1; rw [IntKind.wrap_i64]; omega
   have HQ5 : Hid (W4.cell? ⟨C, 5, none⟩ = some (.slice x.pa x.ps.length x.pc)) := q5
   clear q5
   go_wp2_with fail
   refine (HIn.out yp (-1) ((PL : Int) - 1) W4).mono ?_
   rintro e w5 ⟨rfl, rfl⟩
   cases b2 : inR yp (-1) ((PL : Int) - 1) with
   | false =>
    have HW : Hid (wiN x i k ⟨yp, yu, ys⟩ = 419) := wiN_p (by dsimp only; rw [HX.out.2.2.2.2.2.1, b2]; rfl)
    clear b2 q0 q1 q2 q3 q4 q6 qp
    have HF : Hid (F = ⟨419, i, k⟩) := by
     show F = _
     rw [HF2.out, firstF_cons_yes (by rw [winsF_hit HY.out HN.out (by rw [HW.out]; decide)]; dsimp only; rw [HW.out]; decide), winsF_hit HY.out HN.out (by rw [HW.out]; decide), HW.out]
    obtain ⟨Wd, hWd⟩ : ∃ Wd, Wd = w5.drew := ⟨_, rfl⟩
    obtain ⟨W9, hW9⟩ : ∃ W9, W9 = Wd.setRow R #[.int .i64 (i : Int), .int .i64 (k : Int)] := ⟨_, rfl⟩
    have HId : Hid (CoI w x C N R Wd ∧ Blk Wd T [.int .i64 (i : Int), .int .i64 (k : Int)] 34) := by rw [hWd]; exact ⟨HI4.out.1.kept (Keeps.refl _ _).drew, HI4.out.2.2.1.drew⟩
    have H9 : Hid (Blk W9 R [.int .i64 (i : Int), .int .i64 (k : Int)] 34 ∧ KF w W9) := by
     rw [hW9]
     exact ⟨HId.out.1.res.setRow _, HId.out.1.one.keeps.setRow _ _ fun h => by have := HId.out.1.lo; omega⟩
    have hTR : T ≠ R := HI4.out.2.2.2
    have hT9 : Blk W9 T [.int .i64 (i : Int), .int .i64 (k : Int)] 34 := by
     rw [hW9]
     exact HId.out.2.setRow_ne hTR _
    have HSd : Hid ((Wd.cell? ⟨T, 0, none⟩ = some (.int .i64 (i : Int)) ∧ Wd.cell? ⟨T, 1, none⟩ = some (.int .i64 (k : Int))) ∧ (W9.cell? ⟨T, 0, none⟩ = some (.int .i64 (i : Int)) ∧ W9.cell? ⟨T, 1, none⟩ = some (.int .i64 (k : Int)))) := ⟨⟨HId.out.2.cell rfl, HId.out.2.cell rfl⟩, hT9.cell rfl, hT9.cell rfl⟩
    clear hT9 hTR a0 a1 a2
    go_upto_region 10 with fail
    refine wp_region_held_drew (S := (fun w' => w'.cell? ⟨T, 0, none⟩ = some (.int .i64 (i : Int)) ∧ w'.cell? ⟨T, 1, none⟩ = some (.int .i64 (k : Int)))) Tryz.mixd (by rw [← hWd]; exact HSd.out.1) (fun hHeld => ?_)
    rw [← hWd]
    rw [← hWd] at hHeld
    simp only [t1, t2, List.length_nil, Nat.reduceAdd, t4, Array.replicate_zero, t6, List.nil_append, t8]
    refine tk 0 (.agg #[.int .i64 (i : Int), .int .i64 (k : Int)]) hHeld ?_
    refine tk 1 (.int .i64 419) hHeld ?_
    simp only [Act.put, s1, s2, s3]
    refine rd 2 fun Kq hK => ?_
    refine wp_store_row 34 _ _ rfl R #[.int .i64 (i : Int), .int .i64 (k : Int)] (by rfl) (by rfl) 34 _ HId.out.1.res Tryz.size34 rfl (all29 ..) ?_
    rw [← hW9]
    refine hK.out _ _ HSd.out.2 (fun hHeld => ?_)
    simp only [Act.put, s1, s2, s3]
    refine wpAnyH_done (by kernel_rfl) ?_ _
    clear hHeld
    go_wp2
    (try simp only [Exit.inBlock, Exit.then])
    refine bodyPost_ret (results_two_cell rfl _ _ R 34 _ (0, 0) _ rfl H9.out.1 Tryz.underlying34 rfl (by kernel_rfl)) rfl ?_
    exact ⟨by rw [HF.out]; rfl, H9.out.2⟩
   | true =>
   have H2 : Hid (inR yp (-1) ((PL : Int) - 1) = true) := b2
   clear b2
   go_wp2_with fail
   refine (HIn.out yu 1 16384 w5).mono ?_
   rintro e w6 ⟨rfl, rfl⟩
   cases b3 : inR yu 1 16384 with
   | false =>
    have HW : Hid (wiN x i k ⟨yp, yu, ys⟩ = 419) := wiN_p (by dsimp only; rw [b3]; simp)
    clear b3 q0 q1 q2 q3 q4 q6 qp
    have HF : Hid (F = ⟨419, i, k⟩) := by
     show F = _
     rw [HF2.out, firstF_cons_yes (by rw [winsF_hit HY.out HN.out (by rw [HW.out]; decide)]; dsimp only; rw [HW.out]; decide), winsF_hit HY.out HN.out (by rw [HW.out]; decide), HW.out]
    obtain ⟨Wd, hWd⟩ : ∃ Wd, Wd = w6.drew := ⟨_, rfl⟩
    obtain ⟨W9, hW9⟩ : ∃ W9, W9 = Wd.setRow R #[.int .i64 (i : Int), .int .i64 (k : Int)] := ⟨_, rfl⟩
    have HId : Hid (CoI w x C N R Wd ∧ Blk Wd T [.int .i64 (i : Int), .int .i64 (k : Int)] 34) := by rw [hWd]; exact ⟨HI4.out.1.kept (Keeps.refl _ _).drew, HI4.out.2.2.1.drew⟩
    have H9 : Hid (Blk W9 R [.int .i64 (i : Int), .int .i64 (k : Int)] 34 ∧ KF w W9) := by
     rw [hW9]
     exact ⟨HId.out.1.res.setRow _, HId.out.1.one.keeps.setRow _ _ fun h => by have := HId.out.1.lo; omega⟩
    have hTR : T ≠ R := HI4.out.2.2.2
    have hT9 : Blk W9 T [.int .i64 (i : Int), .int .i64 (k : Int)] 34 := by
     rw [hW9]
     exact HId.out.2.setRow_ne hTR _
    have HSd : Hid ((Wd.cell? ⟨T, 0, none⟩ = some (.int .i64 (i : Int)) ∧ Wd.cell? ⟨T, 1, none⟩ = some (.int .i64 (k : Int))) ∧ (W9.cell? ⟨T, 0, none⟩ = some (.int .i64 (i : Int)) ∧ W9.cell? ⟨T, 1, none⟩ = some (.int .i64 (k : Int)))) := ⟨⟨HId.out.2.cell rfl, HId.out.2.cell rfl⟩, hT9.cell rfl, hT9.cell rfl⟩
    clear hT9 hTR a0 a1 a2
    go_upto_region 10 with fail
    refine wp_region_held_drew (S := (fun w' => w'.cell? ⟨T, 0, none⟩ = some (.int .i64 (i : Int)) ∧ w'.cell? ⟨T, 1, none⟩ = some (.int .i64 (k : Int)))) Tryz.mixd (by rw [← hWd]; exact HSd.out.1) (fun hHeld => ?_)
    rw [← hWd]
    rw [← hWd] at hHeld
    simp only [t1, t2, List.length_nil, Nat.reduceAdd, t4, Array.replicate_zero, t6, List.nil_append, t8]
    refine tk 0 (.agg #[.int .i64 (i : Int), .int .i64 (k : Int)]) hHeld ?_
    refine tk 1 (.int .i64 419) hHeld ?_
    simp only [Act.put, s1, s2, s3]
    refine rd 2 fun Kq hK => ?_
    refine wp_store_row 34 _ _ rfl R #[.int .i64 (i : Int), .int .i64 (k : Int)] (by rfl) (by rfl) 34 _ HId.out.1.res Tryz.size34 rfl (all29 ..) ?_
    rw [← hW9]
    refine hK.out _ _ HSd.out.2 (fun hHeld => ?_)
    simp only [Act.put, s1, s2, s3]
    refine wpAnyH_done (by kernel_rfl) ?_ _
    clear hHeld
    go_wp2
    (try simp only [Exit.inBlock, Exit.then])
    refine bodyPost_ret (results_two_cell rfl _ _ R 34 _ (0, 0) _ rfl H9.out.1 Tryz.underlying34 rfl (by kernel_rfl)) rfl ?_
    exact ⟨by rw [HF.out]; rfl, H9.out.2⟩
   | true =>
   have H3 : Hid ((inR yp (-1) ((x.ps.length : Int) - 1) && inR yu 1 16384) = true) := by show _ = _; rw [HX.out.2.2.2.2.2.1, H2.out, b3]; rfl
   have hyu := inR_iff.1 b3
   clear b3
   go_wp2_with fail
   refine (HIn.out ys 82 16384 w6).mono ?_
   rintro e w7 ⟨rfl, rfl⟩
   cases b4 : inR ys 82 16384 with
   | false =>
    have HW : Hid (wiN x i k ⟨yp, yu, ys⟩ = 420) := wiN_s H3.out b4
    clear b4 q0 q1 q2 q3 q4 q6 qp
    have HF : Hid (F = ⟨420, i, k⟩) := by
     show F = _
     rw [HF2.out, firstF_cons_yes (by rw [winsF_hit HY.out HN.out (by rw [HW.out]; decide)]; dsimp only; rw [HW.out]; decide), winsF_hit HY.out HN.out (by rw [HW.out]; decide), HW.out]
    obtain ⟨Wd, hWd⟩ : ∃ Wd, Wd = w7.drew := ⟨_, rfl⟩
    obtain ⟨W9, hW9⟩ : ∃ W9, W9 = Wd.setRow R #[.int .i64 (i : Int), .int .i64 (k : Int)] := ⟨_, rfl⟩
    have HId : Hid (CoI w x C N R Wd ∧ Blk Wd T [.int .i64 (i : Int), .int .i64 (k : Int)] 34) := by rw [hWd]; exact ⟨HI4.out.1.kept (Keeps.refl _ _).drew, HI4.out.2.2.1.drew⟩
    have H9 : Hid (Blk W9 R [.int .i64 (i : Int), .int .i64 (k : Int)] 34 ∧ KF w W9) := by
     rw [hW9]
     exact ⟨HId.out.1.res.setRow _, HId.out.1.one.keeps.setRow _ _ fun h => by have := HId.out.1.lo; omega⟩
    have hTR : T ≠ R := HI4.out.2.2.2
    have hT9 : Blk W9 T [.int .i64 (i : Int), .int .i64 (k : Int)] 34 := by
     rw [hW9]
     exact HId.out.2.setRow_ne hTR _
    have HSd : Hid ((Wd.cell? ⟨T, 0, none⟩ = some (.int .i64 (i : Int)) ∧ Wd.cell? ⟨T, 1, none⟩ = some (.int .i64 (k : Int))) ∧ (W9.cell? ⟨T, 0, none⟩ = some (.int .i64 (i : Int)) ∧ W9.cell? ⟨T, 1, none⟩ = some (.int .i64 (k : Int)))) := ⟨⟨HId.out.2.cell rfl, HId.out.2.cell rfl⟩, hT9.cell rfl, hT9.cell rfl⟩
    clear hT9 hTR a0 a1 a2
    go_upto_region 12 with fail
    refine wp_region_held_drew (S := (fun w' => w'.cell? ⟨T, 0, none⟩ = some (.int .i64 (i : Int)) ∧ w'.cell? ⟨T, 1, none⟩ = some (.int .i64 (k : Int)))) Tryz.mixd (by rw [← hWd]; exact HSd.out.1) (fun hHeld => ?_)
    rw [← hWd]
    rw [← hWd] at hHeld
    simp only [t1, t2, List.length_nil, Nat.reduceAdd, t4, Array.replicate_zero, t6, List.nil_append, t8]
    refine tk 0 (.agg #[.int .i64 (i : Int), .int .i64 (k : Int)]) hHeld ?_
    refine tk 1 (.int .i64 420) hHeld ?_
    simp only [Act.put, s1, s2, s3]
    refine rd 2 fun Kq hK => ?_
    refine wp_store_row 34 _ _ rfl R #[.int .i64 (i : Int), .int .i64 (k : Int)] (by rfl) (by rfl) 34 _ HId.out.1.res Tryz.size34 rfl (all29 ..) ?_
    rw [← hW9]
    refine hK.out _ _ HSd.out.2 (fun hHeld => ?_)
    simp only [Act.put, s1, s2, s3]
    refine wpAnyH_done (by kernel_rfl) ?_ _
    clear hHeld
    go_wp2
    (try simp only [Exit.inBlock, Exit.then])
    refine bodyPost_ret (results_two_cell rfl _ _ R 34 _ (0, 0) _ rfl H9.out.1 Tryz.underlying34 rfl (by kernel_rfl)) rfl ?_
    exact ⟨by rw [HF.out]; rfl, H9.out.2⟩
   | true =>
   have H4 : Hid (inR ys 82 16384 = true) := b4
   have hys := inR_iff.1 b4
   clear b4
   have q5 := HQ5.out
   clear qp
   have HC : Hid (Calls Tryz.prog 31 #[x.v, .int .i64 (i : Int), .int .i64 yp] w7 (BoP (hasW yp (x.cs.take i)) w7)) := dsplit_any x i yp w7 N HI4.out.1.one.cin HI4.out.1.one.nn (by have := HX.out.2.2.2.1; omega) (by have := HX.out.2.2.2.1; have := HX.out.2.2.2.2.2.2.2.1; omega) HX.out.2.2.2.2.2.2.2.2
   go_wp2_with fail
   refine HC.out.mono ?_
   rintro e w8 ⟨rfl, hK8⟩
   have HI8 : Hid (CoI w x C N R w8 ∧ Blk w8 A [.int .i64 yp, .int .i64 yu, .int .i64 ys] 44 ∧ Blk w8 T [.int .i64 (i : Int), .int .i64 (k : Int)] 34 ∧ T ≠ R) := ⟨HI4.out.1.kept hK8, HI4.out.2.1.kept hK8 fun h => h, HI4.out.2.2.1.kept hK8 fun h => h, HI4.out.2.2.2⟩
   clear HC hK8 HI4 q0 q1 q2 q3 q4 q5 q6 a0 a1 a2 HQ5
   have HI4 := HI8
   clear HI8
   have a0 := HI4.out.2.1.cell (i := 0) rfl
   have a1 := HI4.out.2.1.cell (i := 1) rfl
   have a2 := HI4.out.2.1.cell (i := 2) rfl
   cases b5 : hasW yp (x.cs.take i) with
   | true =>
    have HW : Hid (wiN x i k ⟨yp, yu, ys⟩ = 422) := wiN_w H3.out H4.out b5
    clear b5
    have HF : Hid (F = ⟨422, i, k⟩) := by
     show F = _
     rw [HF2.out, firstF_cons_yes (by rw [winsF_hit HY.out HN.out (by rw [HW.out]; decide)]; dsimp only; rw [HW.out]; decide), winsF_hit HY.out HN.out (by rw [HW.out]; decide), HW.out]
    obtain ⟨Wd, hWd⟩ : ∃ Wd, Wd = w8.drew := ⟨_, rfl⟩
    obtain ⟨W9, hW9⟩ : ∃ W9, W9 = Wd.setRow R #[.int .i64 (i : Int), .int .i64 (k : Int)] := ⟨_, rfl⟩
    have HId : Hid (CoI w x C N R Wd ∧ Blk Wd T [.int .i64 (i : Int), .int .i64 (k : Int)] 34) := by rw [hWd]; exact ⟨HI4.out.1.kept (Keeps.refl _ _).drew, HI4.out.2.2.1.drew⟩
    have H9 : Hid (Blk W9 R [.int .i64 (i : Int), .int .i64 (k : Int)] 34 ∧ KF w W9) := by
     rw [hW9]
     exact ⟨HId.out.1.res.setRow _, HId.out.1.one.keeps.setRow _ _ fun h => by have := HId.out.1.lo; omega⟩
    have hTR : T ≠ R := HI4.out.2.2.2
    have hT9 : Blk W9 T [.int .i64 (i : Int), .int .i64 (k : Int)] 34 := by
     rw [hW9]
     exact HId.out.2.setRow_ne hTR _
    have HSd : Hid ((Wd.cell? ⟨T, 0, none⟩ = some (.int .i64 (i : Int)) ∧ Wd.cell? ⟨T, 1, none⟩ = some (.int .i64 (k : Int))) ∧ (W9.cell? ⟨T, 0, none⟩ = some (.int .i64 (i : Int)) ∧ W9.cell? ⟨T, 1, none⟩ = some (.int .i64 (k : Int)))) := ⟨⟨HId.out.2.cell rfl, HId.out.2.cell rfl⟩, hT9.cell rfl, hT9.cell rfl⟩
    clear hT9 hTR a0 a1 a2
    go_upto_region 14 with fail
    refine wp_region_held_drew (S := (fun w' => w'.cell? ⟨T, 0, none⟩ = some (.int .i64 (i : Int)) ∧ w'.cell? ⟨T, 1, none⟩ = some (.int .i64 (k : Int)))) Tryz.mixd (by rw [← hWd]; exact HSd.out.1) (fun hHeld => ?_)
    rw [← hWd]
    rw [← hWd] at hHeld
    simp only [t1, t2, List.length_nil, Nat.reduceAdd, t4, Array.replicate_zero, t6, List.nil_append, t8]
    refine tk 0 (.agg #[.int .i64 (i : Int), .int .i64 (k : Int)]) hHeld ?_
    refine tk 1 (.int .i64 422) hHeld ?_
    simp only [Act.put, s1, s2, s3]
    refine rd 2 fun Kq hK => ?_
    refine wp_store_row 34 _ _ rfl R #[.int .i64 (i : Int), .int .i64 (k : Int)] (by rfl) (by rfl) 34 _ HId.out.1.res Tryz.size34 rfl (all29 ..) ?_
    rw [← hW9]
    refine hK.out _ _ HSd.out.2 (fun hHeld => ?_)
    simp only [Act.put, s1, s2, s3]
    refine wpAnyH_done (by kernel_rfl) ?_ _
    clear hHeld
    go_wp2
    (try simp only [Exit.inBlock, Exit.then])
    refine bodyPost_ret (results_two_cell rfl _ _ R 34 _ (0, 0) _ rfl H9.out.1 Tryz.underlying34 rfl (by kernel_rfl)) rfl ?_
    exact ⟨by rw [HF.out]; rfl, H9.out.2⟩
   | false =>
    have HW : Hid (wiN x i k ⟨yp, yu, ys⟩ = 0) := wiN_ok H3.out H4.out b5
    clear b5
    have s1 : IntKind.i64.wrap (yu + ys) = yu + ys := by rw [IntKind.wrap_i64]; omega
    have s2 : IntKind.i64.wrap (S + (yu + ys)) = S + (yu + ys) := by rw [IntKind.wrap_i64]; omega
    go_wp2
    go_roundw
    case rel =>
     have e : cyc (ws.take (k + 1)) = S + (yu + ys) := by rw [cyc_take HY.out, HS.out]
     refine ⟨k + 1, by omega, by go_num, by rw [e], by rw [e]; omega, fun v z h1 h2 => ?_, HI4.out.1⟩
     by_cases hv : v = k
     ·
      subst hv
      rw [HY.out] at h2
      cases h2
      exact HW.out
     ·
      exact HN.out v z (by omega) h2
    case measure => simp [intOf]; omega
  ·
   obtain rfl : k = K := by omega
   have q1 := hI.one.cells.2.1
   have HF3 : Hid (F = firstF [unl (S == x.major) ⟨421, i, -1⟩]) := by
    show F = _
    rw [HF2.out, firstF_cons_no (winsF_no fun v z h => HN.out v z (by have h3 : v < ws.length := (List.getElem?_eq_some_iff.1 h).1; have := HX.out.2.2.1; omega) h)]
    have := HS.out
    rw [List.take_of_length_le (by have := HX.out.2.2.1; omega)] at this
    rw [this]
   clear hI
   by_cases hsm : S = x.major
   ·
    have e1 : (S == x.major) = true := by simp [hsm]
    have HF : Hid (F = Flt.no) := by show F = _; rw [HF3.out, e1]; rfl
    have HI9 := HI
    have t0 := HI9.out.res.cell (i := 0) rfl
    have t1 := HI9.out.res.cell (i := 1) rfl
    have u0 := HI9.out.res.frozen 0
    have u1 := HI9.out.res.frozen 1
    go_wp2
    obtain ⟨W9, hW9⟩ : ∃ W9, W9 = (wr.setCell ⟨R, 0, none⟩ (.int .i64 0)).setCell ⟨R, 1, none⟩ (.int .i64 0) := ⟨_, rfl⟩
    rw [← hW9]
    obtain ⟨hb9, hk9⟩ := HI9.out.set 0 0
    rw [← hW9] at hb9 hk9
    (try simp only [Exit.inBlock, Exit.then])
    refine bodyPost_ret (results_two_cell rfl _ _ R 34 _ (0, 0) _ rfl hb9 Tryz.underlying34 rfl (by kernel_rfl)) rfl ?_
    exact ⟨by rw [HF.out]; rfl, hk9⟩
   ·
    have e1 : (S == x.major) = false := by simp [hsm]
    have HE1 : Hid ((S == x.major) = false) := e1
    have HF : Hid (F = ⟨421, i, -1⟩) := by
     show F = _
     rw [HF3.out, HE1.out, firstF_unl_false (by simp)]
    go_wp2_with fail
    refine (HOf.out wr).mono ?_
    rintro e w9 ⟨rfl, hK9⟩
    have HI9 : Hid (CoI w x C N R w9) := HI.out.kept hK9
    clear hK9
    have t0 := HI9.out.res.cell (i := 0) rfl
    have t1 := HI9.out.res.cell (i := 1) rfl
    have u0 := HI9.out.res.frozen 0
    have u1 := HI9.out.res.frozen 1
    go_wp2
    obtain ⟨W9, hW9⟩ : ∃ W9, W9 = (w9.setCell ⟨R, 0, none⟩ (.int .i64 (i : Int))).setCell ⟨R, 1, none⟩ (.int .i64 (-1)) := ⟨_, rfl⟩
    rw [← hW9]
    obtain ⟨hb9, hk9⟩ := HI9.out.set (i : Int) (-1)
    rw [← hW9] at hb9 hk9
    (try simp only [Exit.inBlock, Exit.then])
    refine bodyPost_ret (results_two_cell rfl _ _ R 34 _ (0, 0) _ rfl hb9 Tryz.underlying34 rfl (by kernel_rfl)) rfl ?_
    exact ⟨by rw [HF.out]; rfl, hk9⟩
end Go.Proofs.YtlnmlbkeemahcaaGreat
