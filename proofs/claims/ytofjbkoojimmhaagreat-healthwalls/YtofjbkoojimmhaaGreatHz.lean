import Derived.Test.YtofjbkoojimmhaaGreatHs
import Derived.Test.YtofjbkoojimmhaaGreatHt
namespace Go.Proofs.YtofjbkoojimmhaaGreat
open Go.RowKit Go.Shelf
open Mq
set_option linter.unusedVariables false
set_option maxRecDepth 6000
set_option linter.unusedSimpArgs false
structure WlI (w : World) (x : Cfg) (C N D A B K Lb : Nat) (o : Opr) (xs xs' : List UInt32) (kv : List Value) (wr : World) : Prop where
 one : One w x C N wr
 op : Blk wr D o.vs 43
 was : Blk wr A (wvs xs) 38
 now : Blk wr B (wvs xs') 38
 pl : Blk wr K kv 65
theorem WlI.kept {w : World} {x : Cfg} {C N D A B K Lb : Nat} {o : Opr} {xs xs' : List UInt32} {kv : List Value} {wr wr' : World} (h : WlI w x C N D A B K Lb o xs xs' kv wr) (k : Keeps (fun _ => False) wr wr') : WlI w x C N D A B K Lb o xs xs' kv wr' :=
 ⟨h.one.kept k, h.op.kept k fun h => h, h.was.kept k fun h => h, h.now.kept k fun h => h, h.pl.kept k fun h => h⟩
set_option maxHeartbeats 4000000 in
theorem walls_of (hof : ∀ (x : Cfg) (w : World) (N : Nat), x.In w N → N ≤ w.heap.size → Calls Tryz.prog 13 #[x.v] w (OfP x w)) (x : Cfg) (p : Int) (o : Opr) (w : World) (N : Nat) (hi : x.In w N) (hN : N ≤ w.heap.size) (hx : o.x.length = 17) :
  Calls Tryz.prog 5 #[x.v, .int .i64 p, o.v] w fun e w' => e = .returned (.bool true) ∧ Keeps (fun _ => False) w w' := by
 obtain ⟨W0, hW0⟩ : ∃ W, W = x.laid w := ⟨_, rfl⟩
 obtain ⟨W, hW⟩ : ∃ W, W = W0.alloc (.cells o.vs.toArray 43) := ⟨_, rfl⟩
 obtain ⟨C, hC⟩ : ∃ C, C = w.heap.size := ⟨_, rfl⟩
 have hO : One w x C N W := by rw [hW, hW0, hC]; exact (One.mk' hi hN).kept ((Keeps.refl _ _).alloc _)
 have hz : W0.heap.size = C + 1 := by rw [hW0, hC]; simp [Cfg.laid]
 have hB : Blk W (C + 1) o.vs 43 := by rw [hW, ← hz]; exact Blk.new W0 _ 43
 have HO : Hid (One w x C N W ∧ Blk W (C + 1) o.vs 43 ∧ o.x.length = 17 ∧ C + 1 < W.heap.size ∧ w.heap.size ≤ W.heap.size) := ⟨hO, hB, hx, hB.lt, hO.keeps.size⟩
 have HC : Hid (Calls Tryz.prog 7 #[x.v, .int .i64 p] W (BegP x p W)) := begun_of hof x p W N hO.cin hO.nn
 have HOF : Hid (∀ (x : Cfg) (w : World) (N : Nat), x.In w N → N ≤ w.heap.size → Calls Tryz.prog 13 #[x.v] w (OfP x w)) := hof
 obtain ⟨q0, q1, q2, q3, q4, q5, q6⟩ := HO.out.1.cells
 unfold Cfg.laid at hW0
 rw [hW0] at hW
 unfold Opr.v
 clear hi hN hO hof hx hB hz hW0
 go_enter Tryz.func5, Tryz.ntmps5
 go_upto_region 1 with fail
 rw [← hW, ← hC]
 clear hW hC
 go_wp2_with fail
 refine HC.out.mono ?_
 rintro e w1 (⟨rfl, hK1⟩ | ⟨c, P, xs, rfl, hK1, hp, hh, hab⟩)
 ·
  have HK : Hid (Keeps (fun _ => False) w w1) := HO.out.1.keeps.trans hK1 fun _ _ h => h
  clear q0 q1 q2 q3 q4 q5 q6 hK1 HC
  go_wp2
  go_ret
  exact ⟨rfl, HK.out⟩
 subst hp
 clear q0 q1 q2 q3 q4 q5 q6 HC
 have HA : Hid (Hw w1 c xs Sta0 (ent c.d.en) ∧ Abt x W.heap.size c xs.length P) := ⟨hh, hab⟩
 have H1 : Hid (One w x C N w1 ∧ Blk w1 (C + 1) o.vs 43) := ⟨HO.out.1.kept hK1, HO.out.2.1.kept hK1 fun h => h⟩
 clear hK1 hh hab
 have HC2 : Hid (Calls Tryz.prog 13 #[x.v] w1 (OfP x w1)) := HOF.out x w1 N H1.out.1.cin H1.out.1.nn
 obtain ⟨q0, q1, q2, q3, q4, q5, q6⟩ := H1.out.1.cells
 go_wp2_with fail
 refine HC2.out.mono ?_
 rintro e w2 ⟨hK2, ⟨hm, _⟩ | ⟨hm, b1, b2, F, G, T, Dd, rfl, hLD, hF, hG⟩⟩
 ·
  exact absurd hm (by rw [HA.out.2.gd.fit.1]; decide)
 obtain ⟨Z, hZ⟩ : ∃ Z, Z = rtAt x (rtB x (16 * x.kernel)) x.ps.length / 16 := ⟨_, rfl⟩
 rw [← hZ]
 clear hZ hG hm q0 q1 q2 q3 q4 q5 q6 HC2
 have hkl : c.p < x.ps.length := (List.getElem?_eq_some_iff.1 HA.out.2.par).1
 obtain ⟨Lb, hLb⟩ : ∃ Lb, Lb = w2.heap.size := ⟨_, rfl⟩
 obtain ⟨W3, hW3⟩ : ∃ W3, W3 = w2.alloc (.cells #[.int .i64 (16 * x.kernel), .slice (some ⟨b1, 0, none⟩) x.ps.length x.ps.length, .slice (some ⟨b2, 0, none⟩) x.hs.length x.hs.length, .int .i64 Z] 58) := ⟨_, rfl⟩
 have hK3 : Keeps (fun _ => False) w1 W3 := by rw [hW3]; exact hK2.alloc _
 have H3 : Hid (Hw W3 c xs Sta0 (ent c.d.en) ∧ One w x C N W3 ∧ Blk W3 (C + 1) o.vs 43 ∧ Blk W3 Lb [.int .i64 (16 * x.kernel), .slice (some ⟨b1, 0, none⟩) x.ps.length x.ps.length, .slice (some ⟨b2, 0, none⟩) x.hs.length x.hs.length, .int .i64 Z] 58 ∧ Blk W3 b1 (row5 (fun i => (F i).vs) x.ps.length) 65 ∧ (F c.p).save = (c.d.sv : Int) ∧ (F c.p).state = (c.d.st : Int) ∧ c.p < x.ps.length ∧ (C + 1 < c.g ∧ w.heap.size ≤ c.g ∧ c.g < w1.heap.size) ∧ w1.heap.size ≤ b1 ∧ w1.heap.size ≤ Lb) := by
  have e1 := HO.out
  have e2 := HA.out.2.lo
  refine ⟨HA.out.1.kept hK3, H1.out.1.kept hK3, H1.out.2.kept hK3 fun h => h, ?_, ?_, ?_, ?_, hkl, ⟨by omega, by omega, HA.out.1.mm.row.lt⟩, hLD.lw.1, by rw [hLb]; exact hK2.size⟩
  ·
   rw [hW3, hLb]; exact Blk.new _ _ _
  ·
   rw [hW3]; exact hLD.p.alloc _
  ·
   rw [(hF c.p hkl).2.1, HA.out.2.sv]; rfl
  ·
   rw [(hF c.p hkl).2.2.1, HA.out.2.st]; rfl
 obtain ⟨ad, mm, cq, htv⟩ : ∃ ad mm cq, (F c.p).tv = .slice ad mm cq := by
  rcases (hLD.tr c.p hkl).1.own.2 with ⟨e, _⟩ | ⟨_, _, _, e, _⟩
  ·
   exact ⟨_, _, _, e⟩
  ·
   exact ⟨_, _, _, e⟩
 have HTV : Hid ((F c.p).tv = .slice ad mm cq) := htv
 clear htv
 clear hK2 hK3 hLD hF hkl
 go_upto_region 7 with fail
 rw [← hW3, ← hLb]
 clear hW3 hLb
 have HC3 : Hid (Calls Tryz.prog 14 #[.pointer (some ⟨c.b, 0, none⟩)] W3 _) := words_any c.b c.g xs W3 H3.out.1.mm
 go_wp2_with fail
 refine HC3.out.mono ?_
 rintro e w4 ⟨rfl, hb4, hK4⟩
 obtain ⟨A, hA⟩ : ∃ A, A = W3.heap.size := ⟨_, rfl⟩
 rw [← hA] at hb4 ⊢
 have H4 : Hid (Hw w4 c xs Sta0 (ent c.d.en) ∧ One w x C N w4 ∧ Blk w4 (C + 1) o.vs 43 ∧ Blk w4 Lb [.int .i64 (16 * x.kernel), .slice (some ⟨b1, 0, none⟩) x.ps.length x.ps.length, .slice (some ⟨b2, 0, none⟩) x.hs.length x.hs.length, .int .i64 Z] 58 ∧ Blk w4 b1 (row5 (fun i => (F i).vs) x.ps.length) 65 ∧ Blk w4 A (wvs xs) 38 ∧ A ≠ c.g) := by
  have h := H3.out
  exact ⟨h.1.kept hK4, h.2.1.kept hK4, h.2.2.1.kept hK4 fun h => h, h.2.2.2.1.kept hK4 fun h => h, h.2.2.2.2.1.kept hK4 fun h => h, hb4, by rw [hA]; have := h.1.mm.row.lt; omega⟩
 clear hb4 hK4 HC3 hA
 have HC4 : Hid (Calls Tryz.prog 8 #[.pointer (some ⟨c.W, 0, none⟩), .pointer (some ⟨c.b, 0, none⟩), .int .i64 c.p, .agg o.vs.toArray] w4 (PlyP c o xs Sta0 w4)) := played_any c xs Sta0 (ent c.d.en) w4 H4.out.1 o HO.out.2.2.1
 have HSz : Hid (o.vs.toArray.size = 23) := by show o.vs.toArray.size = 23; rw [List.size_toArray, o.vs_len HO.out.2.2.1]
 go_upto_region 8 with fail
 go_wp2_with (refine wpList_load_row rfl 43 (.tmp 5) rfl (C + 1) rfl 43 o.vs.toArray (0, 0) _ H4.out.2.2.1 Tryz.underlying43 rfl (by rw [HSz.out]; exact Tryz.size43) ?_; refine Hid.out ?_)
 unfold Hid
 go_wp2_with fail
 refine HC4.out.mono ?_
 rintro e w5 ⟨dn, xs2, z2, v2, rfl, hh, hK, hp⟩
 have H5 : Hid (Hw w5 c xs2 z2 v2 ∧ One w x C N w5 ∧ Blk w5 (C + 1) o.vs 43 ∧ Blk w5 Lb [.int .i64 (16 * x.kernel), .slice (some ⟨b1, 0, none⟩) x.ps.length x.ps.length, .slice (some ⟨b2, 0, none⟩) x.hs.length x.hs.length, .int .i64 Z] 58 ∧ Blk w5 b1 (row5 (fun i => (F i).vs) x.ps.length) 65 ∧ Blk w5 A (wvs xs) 38 ∧ Plyd c o xs xs2 Sta0 z2 dn ∧ xs2.length = xs.length) := by
  have h := H4.out
  have n := H3.out.2.2.2.2.2.2.2.2
  refine ⟨hh, h.2.1.kept' hK (fun e => by omega) (fun j e => by have := h.2.1.n; omega) (fun j e => by omega), h.2.2.1.kept hK (fun e => by omega), h.2.2.2.1.kept hK (fun e => by omega), h.2.2.2.2.1.kept hK (fun e => by omega), h.2.2.2.2.2.1.kept hK h.2.2.2.2.2.2, hp, ?_⟩
  by_cases h6 : o.k = 6
  ·
   exact (hp.sv h6).1
  ·
   by_cases h5 : 2 ≤ o.k ∧ o.k ≤ 5
   ·
    exact (hp.st h5.1 h5.2).1
   ·
    rw [hp.no (by omega)]
 clear hh hK hp HC4
 have HC5 : Hid (Calls Tryz.prog 14 #[.pointer (some ⟨c.b, 0, none⟩)] w5 _) := words_any c.b c.g xs2 w5 H5.out.1.mm
 go_wp2_with fail
 refine HC5.out.mono ?_
 rintro e w6 ⟨rfl, hb6, hK6⟩
 obtain ⟨B, hBB⟩ : ∃ B, B = w5.heap.size := ⟨_, rfl⟩
 rw [← hBB] at hb6 ⊢
 obtain ⟨L, hL⟩ : ∃ L, L = xs.length := ⟨_, rfl⟩
 have H6 : Hid (One w x C N w6 ∧ Blk w6 (C + 1) o.vs 43 ∧ Blk w6 Lb [.int .i64 (16 * x.kernel), .slice (some ⟨b1, 0, none⟩) x.ps.length x.ps.length, .slice (some ⟨b2, 0, none⟩) x.hs.length x.hs.length, .int .i64 Z] 58 ∧ Blk w6 b1 (row5 (fun i => (F i).vs) x.ps.length) 65 ∧ Blk w6 A (wvs xs) 38 ∧ Blk w6 B (wvs xs2) 38 ∧ Plyd c o xs xs2 Sta0 z2 dn ∧ xs2.length = L ∧ xs.length = L ∧ L ≤ 16384) := by
  have h := H5.out
  exact ⟨h.2.1.kept hK6, h.2.2.1.kept hK6 fun h => h, h.2.2.2.1.kept hK6 fun h => h, h.2.2.2.2.1.kept hK6 fun h => h, h.2.2.2.2.2.1.kept hK6 fun h => h, hb6, h.2.2.2.2.2.2.1, by rw [hL]; exact h.2.2.2.2.2.2.2, hL.symm, by rw [hL, ← h.2.2.2.2.2.2.2]; exact h.1.mm.small⟩
 have hL2 := H6.out.2.2.2.2.2.2.2.1
 rw [hL2, ← hL]
 clear hb6 hK6 HC5 hBB hL hL2
 obtain ⟨K, hKk⟩ : ∃ K, K = w6.heap.size := ⟨_, rfl⟩
 obtain ⟨W7, hW7⟩ : ∃ W7, W7 = w6.alloc (.cells #[.int .i64 (F c.p).lock, .int .i64 (c.d.sv : Int), .int .i64 (c.d.st : Int), .int .i64 (F c.p).root, .slice ad mm cq] 65) := ⟨_, rfl⟩
 have HI : Hid (WlI w x C N (C + 1) A B K 0 o xs xs2 [.int .i64 (F c.p).lock, .int .i64 (c.d.sv : Int), .int .i64 (c.d.st : Int), .int .i64 (F c.p).root, .slice ad mm cq] W7) := by
  have h := H6.out
  have k : Keeps (fun _ => False) w6 W7 := by rw [hW7]; exact (Keeps.refl _ _).alloc _
  exact ⟨h.1.kept k, h.2.1.kept k fun h => h, h.2.2.2.2.1.kept k fun h => h, h.2.2.2.2.2.1.kept k fun h => h, by rw [hW7, hKk]; exact Blk.new w6 _ 65⟩
 have l1 := H6.out.2.2.1.cell (i := 1) rfl
 have hyy : ∀ i v, (F c.p).vs[i]? = some v → i < 5 → w6.cell? ⟨b1, c.p * 5 + i, none⟩ = some v := fun i v hv hi5 => H6.out.2.2.2.1.cell (by rw [row5_get (fun _ => rfl) H3.out.2.2.2.2.2.2.2.1 hi5]; exact hv)
 have y0 := hyy 0 _ rfl (by decide)
 rw [Nat.add_zero] at y0
 have y1 := hyy 1 _ rfl (by decide)
 rw [H3.out.2.2.2.2.2.1] at y1
 have y2 := hyy 2 _ rfl (by decide)
 rw [H3.out.2.2.2.2.2.2.1] at y2
 have y3 := hyy 3 _ rfl (by decide)
 have y4 := hyy 4 _ rfl (by decide)
 rw [HTV.out] at y4
 have p3 : (c.p : Int) < x.ps.length := by have := H3.out.2.2.2.2.2.2.2.1; omega
 have p1 : (x.ps.length : Int) ≤ 8 := by have := HA.out.2.gd.ps.2; omega
 have hLi : (L : Int) ≤ 16384 := by have := H6.out.2.2.2.2.2.2.2.2.2; omega
 clear hyy
 go_upto_region 13 with fail
 rw [← hW7, ← hKk]
 clear hW7 hKk l1 y0 y1 y2 y3 y4 p3 p1
 have hsv : (c.d.sv : Int) + 17 ≤ 16384 ∧ (c.d.st : Int) + 5 ≤ 16384 := by
  have a := H3.out.1.lo
  have b := H3.out.1.hi
  have d := H6.out.2.2.2.2.2.2.2.2
  omega
 have HSV : Hid ((c.d.sv : Int) + 17 ≤ 16384 ∧ (c.d.st : Int) + 5 ≤ 16384) := hsv
 clear hsv
 go_wp2_with fail
 go_loopw [67] (fun i wr => ∃ j : Nat, j ≤ L ∧ i = .int .i64 j ∧ WlI w x C N (C + 1) A B K 0 o xs xs2 [.int .i64 (F c.p).lock, .int .i64 (c.d.sv : Int), .int .i64 (c.d.st : Int), .int .i64 (F c.p).root, .slice ad mm cq] wr) (fun i _ => L - (intOf i).toNat)
 case atStart => exact ⟨0, by omega, rfl, HI.out⟩
 case round =>
  obtain ⟨j, hj, rfl, hI⟩ := hrel
  clear HI
  by_cases hlt : j < L
  ·
   have HJ : Hid (WlI w x C N (C + 1) A B K 0 o xs xs2 [.int .i64 (F c.p).lock, .int .i64 (c.d.sv : Int), .int .i64 (c.d.st : Int), .int .i64 (F c.p).root, .slice ad mm cq] wr) := hI
   obtain ⟨sB, hsB⟩ : ∃ sB : Bool, sB = (decide ((c.d.st : Int) ≤ j) && decide ((j : Int) < c.d.st + 5) && decide (2 ≤ o.k) && decide (o.k ≤ 5)) := ⟨_, rfl⟩
   obtain ⟨vB, hvB⟩ : ∃ vB : Bool, vB = (decide ((c.d.sv : Int) ≤ j) && decide ((j : Int) < c.d.sv + 17) && decide (o.k = 6)) := ⟨_, rfl⟩
   have HsB : Hid (sB = (decide ((c.d.st : Int) ≤ j) && decide ((j : Int) < c.d.st + 5) && decide (2 ≤ o.k) && decide (o.k ≤ 5))) := hsB
   have HvB : Hid (vB = (decide ((c.d.sv : Int) ≤ j) && decide ((j : Int) < c.d.sv + 17) && decide (o.k = 6))) := hvB
   have j1 : (j : Int) < L := by omega
   have c2 := hI.pl.cell (i := 2) rfl
   have c1 := hI.pl.cell (i := 1) rfl
   have d0 := hI.op.cell (i := 0) rfl
   have w5 : IntKind.i64.wrap ((c.d.st : Int) + 5) = c.d.st + 5 := by rw [IntKind.wrap_i64]; have := HSV.out; omega
   have w17 : IntKind.i64.wrap ((c.d.sv : Int) + 17) = c.d.sv + 17 := by rw [IntKind.wrap_i64]; have := HSV.out; omega
   clear hsB hvB hI
   go_upto_region 16 with fail
   go_cut [19] from 70 to 91 (fun t wx => t = .bool sB ∧ wr = wx)
   case first =>
    by_cases k1 : (c.d.st : Int) ≤ j
    ·
     by_cases k2 : (j : Int) < c.d.st + 5
     ·
      by_cases k3 : 2 ≤ o.k
      ·
       by_cases k4 : o.k ≤ 5
       ·
        go_wp2_with fail
        go_meet
        exact ⟨by rw [HsB.out]; simp [k1, k2, k3, k4], rfl⟩
       ·
        go_wp2_with fail
        go_meet
        exact ⟨by rw [HsB.out]; simp; intros; omega, rfl⟩
      ·
       go_wp2_with fail
       go_meet
       exact ⟨by rw [HsB.out]; simp; intros; omega, rfl⟩
     ·
      go_wp2_with fail
      go_meet
      exact ⟨by rw [HsB.out]; simp; intros; omega, rfl⟩
    ·
     go_wp2_with fail
     go_meet
     exact ⟨by rw [HsB.out]; simp; intros; omega, rfl⟩
   case rest =>
   obtain ⟨rfl, rfl⟩ := hcut
   clear c2 w5
   go_upto_region 17 with fail
   go_cut [20] from 91 to 107 (fun t wx => t = .bool vB ∧ wr = wx)
   case first =>
    by_cases k1 : (c.d.sv : Int) ≤ j
    ·
     by_cases k2 : (j : Int) < c.d.sv + 17
     ·
      by_cases k3 : o.k = 6
      ·
       have k4 : (o.k == 6) = true := by simpa using k3
       have k5 : decide (o.k = 6) = true := by simpa using k3
       rw [k3] at d0
       clear k3 k4
       go_wp2_with fail
       go_meet
       exact ⟨by rw [HvB.out, k5]; simp [k1, k2], rfl⟩
      ·
       have k4 : (o.k == 6) = false := by simpa using k3
       have k5 : decide (o.k = 6) = false := by simpa using k3
       clear k3
       go_wp2_with fail
       go_meet
       exact ⟨by rw [HvB.out, k5]; simp, rfl⟩
     ·
      have k5 : decide ((j : Int) < c.d.sv + 17) = false := by simpa using k2
      go_wp2_with fail
      go_meet
      exact ⟨by rw [HvB.out, k5]; simp, rfl⟩
    ·
     have k5 : decide ((c.d.sv : Int) ≤ j) = false := by simpa using k1
     go_wp2_with fail
     go_meet
     exact ⟨by rw [HvB.out, k5]; simp, rfl⟩
   case rest =>
   obtain ⟨rfl, rfl⟩ := hcut
   clear c1 w17 d0
   have jx1 : j < xs.length := by have := H6.out.2.2.2.2.2.2.2.2.1; omega
   have jx2 : j < xs2.length := by have := H6.out.2.2.2.2.2.2.2.1; omega
   obtain ⟨X1, hX1⟩ : ∃ X1 : Nat, X1 = (xs[j]'jx1).toNat := ⟨_, rfl⟩
   obtain ⟨X2, hX2⟩ : ∃ X2 : Nat, X2 = (xs2[j]'jx2).toNat := ⟨_, rfl⟩
   have e1 : wr.drew.cell? ⟨A, j, none⟩ = some (.int .u32 (X1 : Int)) := by rw [hX1]; exact HJ.out.was.drew.cell (wvs_get xs j jx1)
   have e2 : wr.drew.cell? ⟨B, j, none⟩ = some (.int .u32 (X2 : Int)) := by rw [hX2]; exact HJ.out.now.drew.cell (wvs_get xs2 j jx2)
   have hfar : ¬ X2 = X1 → sB = true ∨ vB = true := fun hne => by
    have hgn : ¬ xs2[j]? = xs[j]? := fun e => by
     rw [List.getElem?_eq_getElem jx1, List.getElem?_eq_getElem jx2] at e
     injection e with e
     exact hne (by rw [hX1, hX2, e])
    have hp := H6.out.2.2.2.2.2.2.1
    by_cases h6 : o.k = 6
    ·
     refine .inr ?_
     have hw : c.d.sv ≤ j ∧ j < c.d.sv + 17 := Classical.byContradiction fun hn => hgn ((hp.sv h6).2 j hn)
     rw [HvB.out]
     simp only [Bool.and_eq_true, decide_eq_true_eq]
     omega
    ·
     by_cases h5 : 2 ≤ o.k ∧ o.k ≤ 5
     ·
      refine .inl ?_
      have hw : c.d.st ≤ j ∧ j < c.d.st + 5 := Classical.byContradiction fun hn => hgn ((hp.st h5.1 h5.2).2 j hn)
      rw [HsB.out]
      simp only [Bool.and_eq_true, decide_eq_true_eq]
      omega
     ·
      exact absurd (by rw [hp.no (by omega)]) hgn
   clear hX1 hX2 jx1 jx2 HsB HvB
   go_upto_region 18 with fail
   by_cases hne : X2 = X1
   ·
    have f1 : ((X2 : Int) != (X1 : Int)) = false := by simp; omega
    clear hfar hne
    refine wp_region_held_drew (S := fun w' => w'.cell? ⟨B, j, none⟩ = some (.int .u32 (X2 : Int)) ∧ w'.cell? ⟨A, j, none⟩ = some (.int .u32 (X1 : Int))) Tryz.mixh ⟨e2, e1⟩ (fun hHeld => ?_)
    simp only [t1, t2, List.length_nil, Nat.reduceAdd, t4, Array.replicate_zero, t6, List.nil_append, t8]
    refine hk 0 (.slice (some ⟨B, 0, none⟩) L L) hHeld ?_
    refine hk 1 (.int .i64 (j : Int)) hHeld ?_
    refine hk 2 (.pointer (some ⟨B, j, none⟩)) hHeld ?_
    refine hk 3 (.int .u32 (X2 : Int)) hHeld ?_
    refine hk 4 (.slice (some ⟨A, 0, none⟩) L L) hHeld ?_
    refine hk 5 (.int .i64 (j : Int)) hHeld ?_
    refine hk 6 (.pointer (some ⟨A, j, none⟩)) hHeld ?_
    refine hk 7 (.int .u32 (X1 : Int)) hHeld ?_
    refine hk 8 (.bool false) hHeld ?_
    refine hk 9 (.bool false) hHeld ?_
    refine hn 10 hHeld ?_
    refine hn 11 hHeld ?_
    refine hk 12 (.bool false) hHeld ?_
    refine hk 13 (.bool false) hHeld ?_
    refine hn 14 hHeld ?_
    refine hn 15 hHeld ?_
    refine hk 16 (.bool false) hHeld ?_
    simp only [Act.put, s1, s2, s3]
    refine wpAnyH_done (by kernel_rfl) ?_ _
    clear hHeld
    go_wp2
    exact ⟨⟨j + 1, by omega, by go_num, HJ.out.kept (Keeps.refl _ _).drew⟩, by simp [intOf]; omega⟩
   ·
    have f1 : ((X2 : Int) != (X1 : Int)) = true := by simp; omega
    have hf := hfar hne
    clear hfar hne
    cases sB
    ·
     cases vB
     ·
      simp at hf
     ·
      clear hf
      refine wp_region_held_drew (S := fun w' => w'.cell? ⟨B, j, none⟩ = some (.int .u32 (X2 : Int)) ∧ w'.cell? ⟨A, j, none⟩ = some (.int .u32 (X1 : Int))) Tryz.mixh ⟨e2, e1⟩ (fun hHeld => ?_)
      simp only [t1, t2, List.length_nil, Nat.reduceAdd, t4, Array.replicate_zero, t6, List.nil_append, t8]
      refine hk 0 (.slice (some ⟨B, 0, none⟩) L L) hHeld ?_
      refine hk 1 (.int .i64 (j : Int)) hHeld ?_
      refine hk 2 (.pointer (some ⟨B, j, none⟩)) hHeld ?_
      refine hk 3 (.int .u32 (X2 : Int)) hHeld ?_
      refine hk 4 (.slice (some ⟨A, 0, none⟩) L L) hHeld ?_
      refine hk 5 (.int .i64 (j : Int)) hHeld ?_
      refine hk 6 (.pointer (some ⟨A, j, none⟩)) hHeld ?_
      refine hk 7 (.int .u32 (X1 : Int)) hHeld ?_
      refine hk 8 (.bool true) hHeld ?_
      refine hk 9 (.bool true) hHeld ?_
      refine hk 10 (.bool false) hHeld ?_
      refine hk 11 (.bool true) hHeld ?_
      refine hk 12 (.bool true) hHeld ?_
      refine hk 13 (.bool true) hHeld ?_
      refine hk 14 (.bool true) hHeld ?_
      refine hk 15 (.bool false) hHeld ?_
      refine hk 16 (.bool false) hHeld ?_
      simp only [Act.put, s1, s2, s3]
      refine wpAnyH_done (by kernel_rfl) ?_ _
      clear hHeld
      go_wp2
      exact ⟨⟨j + 1, by omega, by go_num, HJ.out.kept (Keeps.refl _ _).drew⟩, by simp [intOf]; omega⟩
    ·
     clear hf
     refine wp_region_held_drew (S := fun w' => w'.cell? ⟨B, j, none⟩ = some (.int .u32 (X2 : Int)) ∧ w'.cell? ⟨A, j, none⟩ = some (.int .u32 (X1 : Int))) Tryz.mixh ⟨e2, e1⟩ (fun hHeld => ?_)
     simp only [t1, t2, List.length_nil, Nat.reduceAdd, t4, Array.replicate_zero, t6, List.nil_append, t8]
     refine hk 0 (.slice (some ⟨B, 0, none⟩) L L) hHeld ?_
     refine hk 1 (.int .i64 (j : Int)) hHeld ?_
     refine hk 2 (.pointer (some ⟨B, j, none⟩)) hHeld ?_
     refine hk 3 (.int .u32 (X2 : Int)) hHeld ?_
     refine hk 4 (.slice (some ⟨A, 0, none⟩) L L) hHeld ?_
     refine hk 5 (.int .i64 (j : Int)) hHeld ?_
     refine hk 6 (.pointer (some ⟨A, j, none⟩)) hHeld ?_
     refine hk 7 (.int .u32 (X1 : Int)) hHeld ?_
     refine hk 8 (.bool true) hHeld ?_
     refine hk 9 (.bool true) hHeld ?_
     refine hk 10 (.bool true) hHeld ?_
     refine hk 11 (.bool false) hHeld ?_
     refine hk 12 (.bool false) hHeld ?_
     refine hk 13 (.bool false) hHeld ?_
     refine hn 14 hHeld ?_
     refine hn 15 hHeld ?_
     refine hk 16 (.bool false) hHeld ?_
     simp only [Act.put, s1, s2, s3]
     refine wpAnyH_done (by kernel_rfl) ?_ _
     clear hHeld
     go_wp2
     exact ⟨⟨j + 1, by omega, by go_num, HJ.out.kept (Keeps.refl _ _).drew⟩, by simp [intOf]; omega⟩
  ·
   obtain rfl : j = L := by omega
   have HJ : Hid (WlI w x C N (C + 1) A B K 0 o xs xs2 [.int .i64 (F c.p).lock, .int .i64 (c.d.sv : Int), .int .i64 (c.d.st : Int), .int .i64 (F c.p).root, .slice ad mm cq] wr) := hI
   clear hI
   go_wp2
   go_ret
   exact ⟨rfl, HJ.out.one.keeps⟩
end Go.Proofs.YtofjbkoojimmhaaGreat
