import Derived.Test.YtofjbkoojimmhaaGreatHx
import Derived.Test.YtofjbkoojimmhaaGreatHs
namespace Go.Proofs.YtofjbkoojimmhaaGreat
open Go.RowKit Go.Shelf
open Mq
set_option linter.unusedVariables false
set_option maxRecDepth 6000
set_option linter.unusedSimpArgs false
structure BkI (w : World) (x : Cfg) (C N : Nat) (c : Cns) (T : Nat) (X : List UInt32) (Eb : Nat) (xs : List UInt32) (z : Sta) (v : List UInt32) (wr : World) : Prop where
 hw : Hw wr c xs z v
 one : One w x C N wr
 tx : Blk wr T (wvs X) 41
 te : Blk wr Eb (wvs (ent c.d.en)) 41
 ne : C < c.g ∧ T ≠ c.g ∧ Eb ≠ c.g ∧ w.heap.size ≤ c.g
theorem BkI.next {w : World} {x : Cfg} {C N : Nat} {c : Cns} {T : Nat} {X : List UInt32} {Eb : Nat} {xs xs' : List UInt32} {z z' : Sta} {v v' : List UInt32} {wr wr' : World} (h : BkI w x C N c T X Eb xs z v wr) (k : Keeps (· = c.g) wr wr') (hh : Hw wr' c xs' z' v') : BkI w x C N c T X Eb xs' z' v' wr' :=
 ⟨hh, h.one.kept' k (fun e => by have := h.ne.1; omega) (fun j e => by rw [e]; exact Nat.le_trans h.one.n h.ne.2.2.2) (fun j e => by rw [e]; exact h.ne.2.2.2), h.tx.kept k h.ne.2.1, h.te.kept k h.ne.2.2.1, h.ne⟩
theorem BkI.kept {w : World} {x : Cfg} {C N : Nat} {c : Cns} {T : Nat} {X : List UInt32} {Eb : Nat} {xs : List UInt32} {z : Sta} {v : List UInt32} {wr wr' : World} (h : BkI w x C N c T X Eb xs z v wr) (k : Keeps (fun _ => False) wr wr') : BkI w x C N c T X Eb xs z v wr' :=
 ⟨h.hw.kept k, h.one.kept k, h.tx.kept k fun h => h, h.te.kept k fun h => h, h.ne⟩
set_option maxHeartbeats 4000000 in
theorem back_of (hof : ∀ (x : Cfg) (w : World) (N : Nat), x.In w N → N ≤ w.heap.size → Calls Tryz.prog 13 #[x.v] w (OfP x w)) (x : Cfg) (p : Int) (a : Option Addr) (cp : Nat) (ops : List Opr) (w : World) (N : Nat) (hi : x.In w N) (hN : N ≤ w.heap.size) (hs : OpsIn w N a cp ops) :
  Calls Tryz.prog 4 #[x.v, .int .i64 p, .slice a ops.length cp] w fun e w' => e = .returned (.bool true) ∧ Keeps (fun _ => False) w w' := by
 obtain ⟨W, hW⟩ : ∃ W, W = x.laid w := ⟨_, rfl⟩
 obtain ⟨C, hC⟩ : ∃ C, C = w.heap.size := ⟨_, rfl⟩
 have hO : One w x C N W := by rw [hW, hC]; exact One.mk' hi hN
 obtain ⟨T, hT⟩ : ∃ T, T = W.heap.size := ⟨_, rfl⟩
 obtain ⟨W1, hW1⟩ : ∃ W1, W1 = W.alloc (.cells #[.int .u32 0, .int .u32 0, .int .u32 0, .int .u32 0, .int .u32 0, .int .u32 0, .int .u32 0, .int .u32 0, .int .u32 0, .int .u32 0, .int .u32 0, .int .u32 0, .int .u32 0, .int .u32 0, .int .u32 0, .int .u32 0, .int .u32 77] 41) := ⟨_, rfl⟩
 have hB1 : Blk W1 T (wvs (ent 77)) 41 := by rw [hW1, hT]; exact Blk.new W _ 41
 have hO1 : One w x C N W1 := by rw [hW1]; exact hO.kept ((Keeps.refl _ _).alloc _)
 have HOF : Hid (∀ (x : Cfg) (w : World) (N : Nat), x.In w N → N ≤ w.heap.size → Calls Tryz.prog 13 #[x.v] w (OfP x w)) := hof
 have HS : Hid (OpsIn w N a cp ops) := hs
 have HT : Hid (C < W.heap.size ∧ w.heap.size ≤ W.heap.size ∧ T = W.heap.size) := ⟨hO.cfg.lt, hO.keeps.size, hT⟩
 have H1 : Hid (One w x C N W1 ∧ Blk W1 T (wvs (ent 77)) 41) := ⟨hO1, hB1⟩
 obtain ⟨L, hL⟩ : ∃ L, L = ops.length := ⟨_, rfl⟩
 have HLn : Hid (L = ops.length) := hL
 rw [← hL]
 have hl1 : (L : Int) ≤ cp := by rw [hL]; have := hs.len.1; omega
 have hl2 : (cp : Int) ≤ 9223372036854775807 := by have := hs.len.2; unfold maxLen at this; omega
 unfold Cfg.laid at hW
 clear hi hN hof hs hL hO hO1 hB1
 go_enter Tryz.func4, Tryz.ntmps4
 go_upto_region 1 with fail
 rw [← hW, ← hC]
 clear hW hC
 go_upto_region 2 with fail
 rw [← hW1, ← hT]
 clear hW1 hT
 by_cases h0 : L = 0
 ·
  have HX : Hid ((ent 77).length = 17) := rfl
  have H3 : Hid (One w x C N W1 ∧ Blk W1 T (wvs (ent 77)) 41 ∧ W.heap.size < W1.heap.size) := ⟨H1.out.1, H1.out.2, by have := H1.out.2.lt; have := HT.out.2.2; omega⟩
  have l0 : ¬ (0 : Int) < L := by omega
  go_upto_region 4 with fail
  have HC : Hid (Calls Tryz.prog 7 #[x.v, .int .i64 p] W1 (BegP x p W1)) := begun_of HOF.out x p W1 N H3.out.1.cin H3.out.1.nn
  obtain ⟨q0, q1, q2, q3, q4, q5, q6⟩ := H3.out.1.cells
  go_wp2_with fail
  refine HC.out.mono ?_
  rintro e w4 (⟨rfl, hK4⟩ | ⟨c, P, xs, rfl, hK4, hp, hh, hab⟩)
  ·
   have HK : Hid (Keeps (fun _ => False) w w4) := H3.out.1.keeps.trans hK4 fun _ _ h => h
   clear q0 q1 q2 q3 q4 q5 q6 hK4 HC
   go_wp2
   go_ret
   exact ⟨rfl, HK.out⟩
  subst hp
  clear q0 q1 q2 q3 q4 q5 q6 HC
  have HA : Hid (Hw w4 c xs Sta0 (ent c.d.en) ∧ Abt x W1.heap.size c xs.length P) := ⟨hh, hab⟩
  have H4 : Hid (One w x C N w4 ∧ Blk w4 T (wvs (ent 77)) 41 ∧ C < c.g ∧ T ≠ c.g ∧ w.heap.size ≤ c.g) := by
   have e1 := HT.out
   have e2 := H3.out.2.2
   have e3 := hab.lo
   exact ⟨H3.out.1.kept hK4, H3.out.2.1.kept hK4 fun h => h, by omega, by omega, by omega⟩
  clear hK4 hh hab
  have HC5 : Hid (Calls Tryz.prog 11 #[.pointer (some ⟨c.W, 0, none⟩), .pointer (some ⟨c.b, 0, none⟩), .int .i64 c.p] w4 fun e w' => Left c w4 e (.tuple #[cxv (ent c.d.en), .int .i64 0, .int .i64 0]) xs Sta0 (ent c.d.en) w') := load_st c xs Sta0 (ent c.d.en) w4 HA.out.1 (by decide) (by decide)
  go_upto_region 7 with fail
  go_wp2_with fail
  refine HC5.out.mono ?_
  rintro e w5 ⟨rfl, hh, hK⟩
  have HN : Hid _ := ctx_new w5 (ent c.d.en)
  obtain ⟨W6, hW6⟩ : ∃ W6, W6 = (w5.alloc (.cells #[.int .u32 0, .int .u32 0, .int .u32 0, .int .u32 0, .int .u32 0, .int .u32 0, .int .u32 0, .int .u32 0, .int .u32 0, .int .u32 0, .int .u32 0, .int .u32 0, .int .u32 0, .int .u32 0, .int .u32 0, .int .u32 0, .int .u32 0] 41)).setRow w5.heap.size (wvs (ent c.d.en)).toArray := ⟨_, rfl⟩
  obtain ⟨F, hF⟩ : ∃ F, F = w5.heap.size := ⟨_, rfl⟩
  have H6 : Hid (Hw W6 c xs Sta0 (ent c.d.en) ∧ One w x C N W6 ∧ Blk W6 T (wvs (ent 77)) 41 ∧ Blk W6 F (wvs (ent c.d.en)) 41 ∧ c.g < F) := by
   obtain ⟨_, b, k⟩ := HN.out
   rw [← hW6] at b k
   rw [← hF] at b
   have ne := H4.out
   have o5 : One w x C N w5 := ne.1.kept' hK (fun e => by omega) (fun j e => by have := ne.1.n; omega) (fun j e => by omega)
   exact ⟨hh.kept k, o5.kept k, (ne.2.1.kept hK ne.2.2.2.1).kept k fun h => h, b, by rw [hF]; exact hh.mm.row.lt⟩
  clear hh hK HC5
  unfold cxv
  go_wp2_with (refine wpList_store_row rfl 41 (.tmp 12) (.tmp 49) rfl w5.heap.size (wvs (ent c.d.en)).toArray rfl rfl 41 (wvs z17).toArray HN.out.1 Tryz.size41 rfl (wvs_all _) ?_; refine Hid.out ?_)
  unfold Hid
  rw [← hW6, ← hF]
  clear hW6 hF HN
  obtain ⟨g1, o1, hpa, hg1⟩ := H6.out.2.1.cin.par HA.out.2.par
  have hkl : c.p < x.ps.length := (List.getElem?_eq_some_iff.1 HA.out.2.par).1
  have hplen := H6.out.2.1.cin.plen
  obtain ⟨q0, q1, q2, q3, q4, q5, q6⟩ := H6.out.2.1.cells
  clear q0 q1 q2 q3 q4 q6
  rw [hpa] at q5
  have p1 : (x.ps.length : Int) ≤ x.pc := by omega
  have p2 : (x.pc : Int) ≤ 9223372036854775807 := by have := hplen.2; unfold maxLen at this; omega
  have p3 : (c.p : Int) < x.ps.length := by omega
  have y1 := hg1 1 _ rfl
  have hen : P.entry = (c.d.en.toNat : Int) := HA.out.2.en.symm
  rw [hen] at y1
  have HPA : Hid (x.pa = some ⟨g1, o1, none⟩ ∧ ∀ i v, P.vs[i]? = some v → W6.cell? ⟨g1, o1 + c.p * 8 + i, none⟩ = some v) := ⟨hpa, hg1⟩
  have m1 : (c.d.en.toNat : Int) % 4294967296 = c.d.en.toNat := by have := c.d.en.toNat_lt; omega
  obtain ⟨Eb, hEb⟩ : ∃ Eb, Eb = W6.heap.size := ⟨_, rfl⟩
  obtain ⟨W7, hW7⟩ : ∃ W7, W7 = W6.alloc (.cells #[.int .u32 0, .int .u32 0, .int .u32 0, .int .u32 0, .int .u32 0, .int .u32 0, .int .u32 0, .int .u32 0, .int .u32 0, .int .u32 0, .int .u32 0, .int .u32 0, .int .u32 0, .int .u32 0, .int .u32 0, .int .u32 0, .int .u32 (c.d.en.toNat : Int)] 41) := ⟨_, rfl⟩
  have HI : Hid (BkI w x C N c T (ent 77) Eb (xs) Sta0 (ent c.d.en) W7 ∧ Blk W7 F (wvs (ent c.d.en)) 41) := by
   have k : Keeps (fun _ => False) W6 W7 := by rw [hW7]; exact (Keeps.refl _ _).alloc _
   have b : Blk W7 Eb (wvs (ent c.d.en)) 41 := by rw [hW7, hEb]; exact Blk.new W6 _ 41
   exact ⟨⟨H6.out.1.kept k, H6.out.2.1.kept k, H6.out.2.2.1.kept k fun h => h, b, H4.out.2.2.1, H4.out.2.2.2.1, by rw [hEb]; have := H6.out.1.mm.row.lt; omega, H4.out.2.2.2.2⟩, H6.out.2.2.2.1.kept k fun h => h⟩
  have HPP : Hid (P.action = c.act ∧ c.p < x.ps.length ∧ (x.ps.length ≤ x.pc ∧ x.pc ≤ maxLen)) := ⟨HA.out.2.act.symm, hkl, hplen⟩
  clear hpa hkl hplen hg1 hen
  go_upto_region 9 with fail
  rw [← hW7, ← hEb]
  clear hW7 hEb q5 p1 p2 p3 y1 m1
  have HNE : Hid (∀ w, (binOp .neq 41 (.agg (wvs (ent c.d.en)).toArray) (.agg (wvs (ent c.d.en)).toArray)).run Tryz.prog w = .ok (.bool false) w) := fun w => neq_ctx (ent c.d.en) rfl w
  go_wp2_with (refine wpList_load_on rfl 41 (.tmp 12) rfl F rfl 41 (wvs (ent c.d.en)).toArray (0, 0) _ HI.out.2 Tryz.underlying41 rfl Tryz.size41 ?_; refine Hid.out ?_)
  unfold Hid
  go_wp2_with (refine wpList_load_on rfl 41 (.tmp 15) rfl Eb rfl 41 (wvs (ent c.d.en)).toArray (0, 0) _ HI.out.1.te Tryz.underlying41 rfl Tryz.size41 ?_; refine Hid.out ?_)
  unfold Hid
  refine wpList_cmp_on rfl 41 (.tmp 63) (.tmp 64) 41 rfl (wvs (ent c.d.en)).toArray (wvs (ent c.d.en)).toArray (.bool false) rfl rfl (by kernel_rfl) (HNE.out _) ?_
  go_wp2_with fail
  go_loopw [69] (fun i wr => ∃ (j : Nat) (xs : List UInt32) (z : Sta) (v : List UInt32), j ≤ L ∧ i = .int .i64 j ∧ BkI w x C N c T (ent 77) Eb (xs) z (v) wr) (fun i _ => L - (intOf i).toNat)
  case atStart => exact ⟨0, xs, Sta0, ent c.d.en, by omega, rfl, HI.out.1⟩
  case round =>
   obtain ⟨j, xs1, z, v, hj, rfl, hI⟩ := hrel
   clear HI
   by_cases hlt : j < L
   ·
    exact absurd hlt (by omega)
   ·
    obtain rfl : j = L := by omega
    have H1 : Hid (BkI w x C N c T (ent 77) Eb (xs1) z (v) wr) := hI
    have HXX : Hid ((wvs (ent 77)).toArray.size = 17) := by
     show (wvs (ent 77)).toArray.size = 17
     simp [wvs_length, HX.out]
    have HC1 : Hid (Calls Tryz.prog 12 #[.pointer (some ⟨c.W, 0, none⟩), .pointer (some ⟨c.b, 0, none⟩), .int .i64 c.p, .agg (wvs (ent 77)).toArray] wr fun e w' => Left c wr e (.int .i64 0) (lay xs1 c.d.sv (ent 77)) z (ent 77) w') := sav_any c xs1 z v wr hI.hw (ent 77) HX.out
    clear hI
    go_wp2_with (refine wpList_load_row rfl 41 (.tmp 7) rfl T rfl 41 (wvs (ent 77)).toArray (0, 0) _ H1.out.tx Tryz.underlying41 rfl (by rw [HXX.out]; exact Tryz.size41) ?_; refine Hid.out ?_)
    unfold Hid
    go_wp2_with fail
    refine HC1.out.mono ?_
    rintro e w8 ⟨rfl, hh, hK⟩
    obtain ⟨XS, hXS⟩ : ∃ XS, XS = lay xs1 c.d.sv (ent 77) := ⟨_, rfl⟩
    rw [← hXS] at hh
    have H2 : Hid (BkI w x C N c T (ent 77) Eb (XS) z (ent 77) w8) := H1.out.next hK hh
    have HC2 : Hid (Calls Tryz.prog 9 #[.pointer (some ⟨c.W, 0, none⟩), .pointer (some ⟨c.b, 0, none⟩), .int .i64 c.p] w8 fun e w' => Left c w8 e (.tuple #[z.tv, .int .i64 0]) XS z (ent 77) w') := stat_any c XS z (ent 77) w8 H2.out.hw
    clear hh hK HC1 hXS
    go_wp2_with fail
    refine HC2.out.mono ?_
    rintro e w9 ⟨rfl, hh, hK⟩
    obtain ⟨St, hSt⟩ : ∃ St, St = w9.heap.size := ⟨_, rfl⟩
    obtain ⟨W9, hW9⟩ : ∃ W9, W9 = w9.alloc (.cells #[.int .i64 (z.s.toNat : Int), .int .i64 (z.r.toNat : Int), .int .i64 (z.t.toNat : Int), .int .u32 (z.q.toNat : Int), .int .i64 (z.o.toNat : Int)] 45) := ⟨_, rfl⟩
    have hb := Blk.new w9 #[.int .i64 (z.s.toNat : Int), .int .i64 (z.r.toNat : Int), .int .i64 (z.t.toNat : Int), .int .u32 (z.q.toNat : Int), .int .i64 (z.o.toNat : Int)] 45
    rw [← hW9, ← hSt] at hb
    have HSt : Hid (Blk W9 St [.int .i64 (z.s.toNat : Int), .int .i64 (z.r.toNat : Int), .int .i64 (z.t.toNat : Int), .int .u32 (z.q.toNat : Int), .int .i64 (z.o.toNat : Int)] 45 ∧ St ≠ c.g) := ⟨hb, by rw [hSt]; have := hh.mm.row.lt; omega⟩
    have H3b : Hid (BkI w x C N c T (ent 77) Eb (XS) z (ent 77) W9) := by
     rw [hW9]; exact (H2.out.next hK hh).kept ((Keeps.refl _ _).alloc _)
    clear hh hK hb HC2
    unfold Sta.tv tov
    go_upto_region 20 with fail
    rw [← hW9, ← hSt]
    clear hW9 hSt
    have HC3 : Hid (Calls Tryz.prog 11 #[.pointer (some ⟨c.W, 0, none⟩), .pointer (some ⟨c.b, 0, none⟩), .int .i64 c.p] W9 (LdP c XS z (ent 77) W9)) := load_any c XS z (ent 77) W9 H3b.out.hw
    go_wp2_with fail
    refine HC3.out.mono ?_
    rintro e wa (⟨h2, R, hR, rfl, hh, hK⟩ | hrest)
    ·
     have HN : Hid _ := ctx_new wa (ent c.d.en)
     obtain ⟨Wb, hWb⟩ : ∃ Wb, Wb = (wa.alloc (.cells #[.int .u32 0, .int .u32 0, .int .u32 0, .int .u32 0, .int .u32 0, .int .u32 0, .int .u32 0, .int .u32 0, .int .u32 0, .int .u32 0, .int .u32 0, .int .u32 0, .int .u32 0, .int .u32 0, .int .u32 0, .int .u32 0, .int .u32 0] 41)).setRow wa.heap.size (wvs (ent c.d.en)).toArray := ⟨_, rfl⟩
     obtain ⟨Y, hY⟩ : ∃ Y, Y = wa.heap.size := ⟨_, rfl⟩
     have HB : Hid (Blk Wb Y (wvs (ent c.d.en)) 41 ∧ Blk Wb Eb (wvs (ent c.d.en)) 41 ∧ One w x C N Wb ∧ Blk Wb St [.int .i64 2, .int .i64 (z.r.toNat : Int), .int .i64 (z.t.toNat : Int), .int .u32 (z.q.toNat : Int), .int .i64 (z.o.toNat : Int)] 45) := by
      obtain ⟨_, b, k⟩ := HN.out
      rw [← hWb] at b k
      rw [← hY] at b
      have n := (H3b.out.next hK hh).kept k
      have st := (HSt.out.1.kept hK HSt.out.2).kept k fun h => h
      rw [h2] at st
      exact ⟨b, n.te, n.one, st⟩
     have HPa : Hid (∃ g4 o4, x.pa = some ⟨g4, o4, none⟩ ∧ Wb.cell? ⟨g4, o4 + c.p * 8 + 2, none⟩ = some (.int .i64 c.act)) := by
      obtain ⟨g4, o4, hpa, hg4⟩ := HB.out.2.2.1.cin.par HA.out.2.par
      have := hg4 2 _ rfl
      rw [show P.action = c.act from HPP.out.1] at this
      exact ⟨g4, o4, hpa, this⟩
     clear hh hK HC3 h2 hR
     unfold cxv
     go_wp2_with (refine wpList_store_row rfl 41 (.tmp 22) (.tmp 103) rfl wa.heap.size (wvs (ent c.d.en)).toArray rfl rfl 41 (wvs z17).toArray HN.out.1 Tryz.size41 rfl (wvs_all _) ?_; refine Hid.out ?_)
     unfold Hid
     rw [← hWb, ← hY]
     clear hWb hY HN
     have s0 := HB.out.2.2.2.cell (i := 0) rfl
     go_upto_region 24 with fail
     clear s0
     obtain ⟨g4, o4, hpa, y2⟩ := HPa.out
     obtain ⟨q0, q1, q2, q3, q4, q5, q6⟩ := HB.out.2.2.1.cells
     clear q0 q1 q2 q3 q4 q6
     rw [hpa] at q5
     have p1 : (x.ps.length : Int) ≤ x.pc := by have := HPP.out.2.2.1; omega
     have p2 : (x.pc : Int) ≤ 9223372036854775807 := by have := HPP.out.2.2.2; unfold maxLen at this; omega
     have p3 : (c.p : Int) < x.ps.length := by have := HPP.out.2.1; omega
     clear hpa
     have HEQ : Hid (∀ w, (binOp .eql 41 (.agg (wvs (ent c.d.en)).toArray) (.agg (wvs (ent c.d.en)).toArray)).run Tryz.prog w = .ok (.bool true) w) := fun w => eql_ctx (ent c.d.en) rfl w
     go_wp2_with (refine wpList_load_row rfl 41 (.tmp 22) rfl Y rfl 41 (wvs (ent c.d.en)).toArray (0, 0) _ HB.out.1 Tryz.underlying41 rfl Tryz.size41 ?_; refine Hid.out ?_)
     unfold Hid
     go_wp2_with (refine wpList_load_row rfl 41 (.tmp 15) rfl Eb rfl 41 (wvs (ent c.d.en)).toArray (0, 0) _ HB.out.2.1 Tryz.underlying41 rfl Tryz.size41 ?_; refine Hid.out ?_)
     unfold Hid
     refine wpList_eql_on rfl 41 (.tmp 119) (.tmp 120) 41 rfl (wvs (ent c.d.en)).toArray (wvs (ent c.d.en)).toArray (.bool true) rfl rfl (by kernel_rfl) (HEQ.out _) ?_
     go_wp2
     go_ret
     exact ⟨rfl, HB.out.2.2.1.keeps⟩
    ·
     obtain ⟨xs3, z3, he, hn2, hh, hK⟩ : ∃ xs3 z3, e = .returned (.tuple #[cxv (ent 77), .int .i64 0, .int .i64 0]) ∧ ¬ (z.s.toNat : Int) = 2 ∧ Hw wa c xs3 z3 (ent 77) ∧ Keeps (· = c.g) W9 wa := by
      rcases hrest with ⟨h1, e1, e2, e3⟩ | ⟨h1, h2, e1, e2, e3⟩
      ·
       exact ⟨_, _, e1, by omega, e2, e3⟩
      ·
       exact ⟨_, _, e1, h2, e2, e3⟩
     clear hrest
     subst he
     have HN : Hid _ := ctx_new wa (ent 77)
     obtain ⟨Wb, hWb⟩ : ∃ Wb, Wb = (wa.alloc (.cells #[.int .u32 0, .int .u32 0, .int .u32 0, .int .u32 0, .int .u32 0, .int .u32 0, .int .u32 0, .int .u32 0, .int .u32 0, .int .u32 0, .int .u32 0, .int .u32 0, .int .u32 0, .int .u32 0, .int .u32 0, .int .u32 0, .int .u32 0] 41)).setRow wa.heap.size (wvs (ent 77)).toArray := ⟨_, rfl⟩
     obtain ⟨Y, hY⟩ : ∃ Y, Y = wa.heap.size := ⟨_, rfl⟩
     have HB : Hid (Blk Wb Y (wvs (ent 77)) 41 ∧ Blk Wb T (wvs (ent 77)) 41 ∧ One w x C N Wb ∧ Blk Wb St [.int .i64 (z.s.toNat : Int), .int .i64 (z.r.toNat : Int), .int .i64 (z.t.toNat : Int), .int .u32 (z.q.toNat : Int), .int .i64 (z.o.toNat : Int)] 45) := by
      obtain ⟨_, b, k⟩ := HN.out
      rw [← hWb] at b k
      rw [← hY] at b
      have n := (H3b.out.next hK hh).kept k
      exact ⟨b, n.tx, n.one, (HSt.out.1.kept hK HSt.out.2).kept k fun h => h⟩
     have f2 : ((z.s.toNat : Int) == 2) = false := by simpa using hn2
     clear hh hK HC3 hn2
     unfold cxv
     go_wp2_with (refine wpList_store_row rfl 41 (.tmp 22) (.tmp 103) rfl wa.heap.size (wvs (ent 77)).toArray rfl rfl 41 (wvs z17).toArray HN.out.1 (by rw [HXX.out]; exact Tryz.size41) (by rw [HXX.out]; rfl) (wvs_all _) ?_; refine Hid.out ?_)
     unfold Hid
     rw [← hWb, ← hY]
     clear hWb hY HN
     have s0 := HB.out.2.2.2.cell (i := 0) rfl
     go_upto_region 25 with fail
     clear s0
     have HEQ : Hid (∀ w, (binOp .eql 41 (.agg (wvs (ent 77)).toArray) (.agg (wvs (ent 77)).toArray)).run Tryz.prog w = .ok (.bool true) w) := fun w => eql_ctx (ent 77) HX.out w
     go_wp2_with (refine wpList_load_row rfl 41 (.tmp 22) rfl Y rfl 41 (wvs (ent 77)).toArray (0, 0) _ HB.out.1 Tryz.underlying41 rfl (by rw [HXX.out]; exact Tryz.size41) ?_; refine Hid.out ?_)
     unfold Hid
     go_wp2_with (refine wpList_load_row rfl 41 (.tmp 7) rfl T rfl 41 (wvs (ent 77)).toArray (0, 0) _ HB.out.2.1 Tryz.underlying41 rfl (by rw [HXX.out]; exact Tryz.size41) ?_; refine Hid.out ?_)
     unfold Hid
     refine wpList_eql_on rfl 41 (.tmp 132) (.tmp 133) 41 rfl (wvs (ent 77)).toArray (wvs (ent 77)).toArray (.bool true) rfl rfl (by kernel_rfl) (HEQ.out _) ?_
     go_wp2
     go_ret
     exact ⟨rfl, HB.out.2.2.1.keeps⟩
 ·
  obtain ⟨o, ho⟩ : ∃ o, ops[0]? = some o := ⟨_, List.getElem?_eq_getElem (by have := HLn.out; omega)⟩
  obtain ⟨g2, o2, hga, hgc⟩ := (HS.out.kept H1.out.1.keeps).seg.at ho
  subst hga
  have HX : Hid (o.x.length = 17) := HS.out.ctx o (List.mem_of_getElem? ho)
  have HXs : Hid ((wvs o.x).toArray.size = 17) := by
   show (wvs o.x).toArray.size = 17
   simp [wvs_length, HX.out]
  have HR : Hid (W1.rangeAt g2 (o2 + 4) (wvs o.x) ∧ (Tryz.prog.info? 41).map (·.size) = some (wvs o.x).length) := by
   refine ⟨fun j u hj => ?_, by rw [wvs_length, HX.out]; exact Tryz.size41⟩
   have hl : j < (wvs o.x).length := (List.getElem?_eq_some_iff.1 hj).1
   have := hgc (4 + j) u (by
    unfold Opr.vs
    rw [List.getElem?_append_left (by simp; omega), List.getElem?_append_right (by simp)]
    simpa using hj)
   rw [show o2 + 0 * 23 + (4 + j) = o2 + 4 + j by omega] at this
   exact this
  obtain ⟨W2, hW2⟩ : ∃ W2, W2 = W1.setRow T (wvs o.x).toArray := ⟨_, rfl⟩
  have H3 : Hid (One w x C N W2 ∧ Blk W2 T (wvs o.x) 41 ∧ W.heap.size < W2.heap.size) := by
   have hk : Keeps (fun k => k = T) W1 W2 := by rw [hW2]; exact (Keeps.refl _ _).setRow _ _ fun _ => rfl
   have hb : Blk W2 T (wvs o.x) 41 := by rw [hW2]; exact H1.out.2.setRow _
   have e := HT.out
   exact ⟨H1.out.1.kept' hk (by omega) (fun k e => by have := H1.out.1.n; omega) (fun k e => by omega), hb, by have := hb.lt; omega⟩
  have l0 : (0 : Int) < L := by omega
  clear ho hgc h0
  go_wp2_with (refine Go.wpList_load_mid rfl 41 (.tmp 31) rfl g2 (o2 + 4) rfl (wvs o.x) _ HR.out.1 Tryz.underlying41 rfl HR.out.2 ?_; refine Hid.out ?_)
  unfold Hid
  go_wp2_with (refine wpList_store_row rfl 41 (.tmp 7) (.tmp 32) rfl T (wvs o.x).toArray rfl rfl 41 (wvs (ent 77)).toArray H1.out.2 (by rw [HXs.out]; exact Tryz.size41) (by rw [HXs.out]; rfl) (wvs_all _) ?_; refine Hid.out ?_)
  unfold Hid
  rw [← hW2]
  clear hW2
  go_upto_region 4 with fail
  have HC : Hid (Calls Tryz.prog 7 #[x.v, .int .i64 p] W2 (BegP x p W2)) := begun_of HOF.out x p W2 N H3.out.1.cin H3.out.1.nn
  obtain ⟨q0, q1, q2, q3, q4, q5, q6⟩ := H3.out.1.cells
  go_wp2_with fail
  refine HC.out.mono ?_
  rintro e w4 (⟨rfl, hK4⟩ | ⟨c, P, xs, rfl, hK4, hp, hh, hab⟩)
  ·
   have HK : Hid (Keeps (fun _ => False) w w4) := H3.out.1.keeps.trans hK4 fun _ _ h => h
   clear q0 q1 q2 q3 q4 q5 q6 hK4 HC
   go_wp2
   go_ret
   exact ⟨rfl, HK.out⟩
  subst hp
  clear q0 q1 q2 q3 q4 q5 q6 HC
  have HA : Hid (Hw w4 c xs Sta0 (ent c.d.en) ∧ Abt x W2.heap.size c xs.length P) := ⟨hh, hab⟩
  have H4 : Hid (One w x C N w4 ∧ Blk w4 T (wvs (o.x)) 41 ∧ C < c.g ∧ T ≠ c.g ∧ w.heap.size ≤ c.g) := by
   have e1 := HT.out
   have e2 := H3.out.2.2
   have e3 := hab.lo
   exact ⟨H3.out.1.kept hK4, H3.out.2.1.kept hK4 fun h => h, by omega, by omega, by omega⟩
  clear hK4 hh hab
  have HC5 : Hid (Calls Tryz.prog 11 #[.pointer (some ⟨c.W, 0, none⟩), .pointer (some ⟨c.b, 0, none⟩), .int .i64 c.p] w4 fun e w' => Left c w4 e (.tuple #[cxv (ent c.d.en), .int .i64 0, .int .i64 0]) xs Sta0 (ent c.d.en) w') := load_st c xs Sta0 (ent c.d.en) w4 HA.out.1 (by decide) (by decide)
  go_upto_region 7 with fail
  go_wp2_with fail
  refine HC5.out.mono ?_
  rintro e w5 ⟨rfl, hh, hK⟩
  have HN : Hid _ := ctx_new w5 (ent c.d.en)
  obtain ⟨W6, hW6⟩ : ∃ W6, W6 = (w5.alloc (.cells #[.int .u32 0, .int .u32 0, .int .u32 0, .int .u32 0, .int .u32 0, .int .u32 0, .int .u32 0, .int .u32 0, .int .u32 0, .int .u32 0, .int .u32 0, .int .u32 0, .int .u32 0, .int .u32 0, .int .u32 0, .int .u32 0, .int .u32 0] 41)).setRow w5.heap.size (wvs (ent c.d.en)).toArray := ⟨_, rfl⟩
  obtain ⟨F, hF⟩ : ∃ F, F = w5.heap.size := ⟨_, rfl⟩
  have H6 : Hid (Hw W6 c xs Sta0 (ent c.d.en) ∧ One w x C N W6 ∧ Blk W6 T (wvs (o.x)) 41 ∧ Blk W6 F (wvs (ent c.d.en)) 41 ∧ c.g < F) := by
   obtain ⟨_, b, k⟩ := HN.out
   rw [← hW6] at b k
   rw [← hF] at b
   have ne := H4.out
   have o5 : One w x C N w5 := ne.1.kept' hK (fun e => by omega) (fun j e => by have := ne.1.n; omega) (fun j e => by omega)
   exact ⟨hh.kept k, o5.kept k, (ne.2.1.kept hK ne.2.2.2.1).kept k fun h => h, b, by rw [hF]; exact hh.mm.row.lt⟩
  clear hh hK HC5
  unfold cxv
  go_wp2_with (refine wpList_store_row rfl 41 (.tmp 12) (.tmp 49) rfl w5.heap.size (wvs (ent c.d.en)).toArray rfl rfl 41 (wvs z17).toArray HN.out.1 Tryz.size41 rfl (wvs_all _) ?_; refine Hid.out ?_)
  unfold Hid
  rw [← hW6, ← hF]
  clear hW6 hF HN
  obtain ⟨g1, o1, hpa, hg1⟩ := H6.out.2.1.cin.par HA.out.2.par
  have hkl : c.p < x.ps.length := (List.getElem?_eq_some_iff.1 HA.out.2.par).1
  have hplen := H6.out.2.1.cin.plen
  obtain ⟨q0, q1, q2, q3, q4, q5, q6⟩ := H6.out.2.1.cells
  clear q0 q1 q2 q3 q4 q6
  rw [hpa] at q5
  have p1 : (x.ps.length : Int) ≤ x.pc := by omega
  have p2 : (x.pc : Int) ≤ 9223372036854775807 := by have := hplen.2; unfold maxLen at this; omega
  have p3 : (c.p : Int) < x.ps.length := by omega
  have y1 := hg1 1 _ rfl
  have hen : P.entry = (c.d.en.toNat : Int) := HA.out.2.en.symm
  rw [hen] at y1
  have HPA : Hid (x.pa = some ⟨g1, o1, none⟩ ∧ ∀ i v, P.vs[i]? = some v → W6.cell? ⟨g1, o1 + c.p * 8 + i, none⟩ = some v) := ⟨hpa, hg1⟩
  have m1 : (c.d.en.toNat : Int) % 4294967296 = c.d.en.toNat := by have := c.d.en.toNat_lt; omega
  obtain ⟨Eb, hEb⟩ : ∃ Eb, Eb = W6.heap.size := ⟨_, rfl⟩
  obtain ⟨W7, hW7⟩ : ∃ W7, W7 = W6.alloc (.cells #[.int .u32 0, .int .u32 0, .int .u32 0, .int .u32 0, .int .u32 0, .int .u32 0, .int .u32 0, .int .u32 0, .int .u32 0, .int .u32 0, .int .u32 0, .int .u32 0, .int .u32 0, .int .u32 0, .int .u32 0, .int .u32 0, .int .u32 (c.d.en.toNat : Int)] 41) := ⟨_, rfl⟩
  have HI : Hid (BkI w x C N c T (o.x) Eb (xs) Sta0 (ent c.d.en) W7 ∧ Blk W7 F (wvs (ent c.d.en)) 41) := by
   have k : Keeps (fun _ => False) W6 W7 := by rw [hW7]; exact (Keeps.refl _ _).alloc _
   have b : Blk W7 Eb (wvs (ent c.d.en)) 41 := by rw [hW7, hEb]; exact Blk.new W6 _ 41
   exact ⟨⟨H6.out.1.kept k, H6.out.2.1.kept k, H6.out.2.2.1.kept k fun h => h, b, H4.out.2.2.1, H4.out.2.2.2.1, by rw [hEb]; have := H6.out.1.mm.row.lt; omega, H4.out.2.2.2.2⟩, H6.out.2.2.2.1.kept k fun h => h⟩
  have HPP : Hid (P.action = c.act ∧ c.p < x.ps.length ∧ (x.ps.length ≤ x.pc ∧ x.pc ≤ maxLen)) := ⟨HA.out.2.act.symm, hkl, hplen⟩
  clear hpa hkl hplen hg1 hen
  go_upto_region 9 with fail
  rw [← hW7, ← hEb]
  clear hW7 hEb q5 p1 p2 p3 y1 m1
  have HNE : Hid (∀ w, (binOp .neq 41 (.agg (wvs (ent c.d.en)).toArray) (.agg (wvs (ent c.d.en)).toArray)).run Tryz.prog w = .ok (.bool false) w) := fun w => neq_ctx (ent c.d.en) rfl w
  go_wp2_with (refine wpList_load_on rfl 41 (.tmp 12) rfl F rfl 41 (wvs (ent c.d.en)).toArray (0, 0) _ HI.out.2 Tryz.underlying41 rfl Tryz.size41 ?_; refine Hid.out ?_)
  unfold Hid
  go_wp2_with (refine wpList_load_on rfl 41 (.tmp 15) rfl Eb rfl 41 (wvs (ent c.d.en)).toArray (0, 0) _ HI.out.1.te Tryz.underlying41 rfl Tryz.size41 ?_; refine Hid.out ?_)
  unfold Hid
  refine wpList_cmp_on rfl 41 (.tmp 63) (.tmp 64) 41 rfl (wvs (ent c.d.en)).toArray (wvs (ent c.d.en)).toArray (.bool false) rfl rfl (by kernel_rfl) (HNE.out _) ?_
  go_wp2_with fail
  go_loopw [69] (fun i wr => ∃ (j : Nat) (xs : List UInt32) (z : Sta) (v : List UInt32), j ≤ L ∧ i = .int .i64 j ∧ BkI w x C N c T (o.x) Eb (xs) z (v) wr) (fun i _ => L - (intOf i).toNat)
  case atStart => exact ⟨0, xs, Sta0, ent c.d.en, by omega, rfl, HI.out.1⟩
  case round =>
   obtain ⟨j, xs1, z, v, hj, rfl, hI⟩ := hrel
   clear HI
   by_cases hlt : j < L
   ·
    obtain ⟨o9, ho⟩ : ∃ o9, ops[j]? = some o9 := ⟨_, List.getElem?_eq_getElem (by have := HLn.out; omega)⟩
    obtain ⟨g3, o3, hga, hgc⟩ := (HS.out.kept hI.one.keeps).seg.at ho
    obtain ⟨e1, e2⟩ : g2 = g3 ∧ o2 = o3 := by simpa using hga
    subst e1
    subst e2
    have hx17 : o9.x.length = 17 := HS.out.ctx o9 (List.mem_of_getElem? ho)
    have HC1 : Hid (Calls Tryz.prog 8 #[.pointer (some ⟨c.W, 0, none⟩), .pointer (some ⟨c.b, 0, none⟩), .int .i64 c.p, .agg o9.vs.toArray] wr (PlyP c o9 xs1 z wr)) := played_any c xs1 z v wr hI.hw o9 hx17
    have HR9 : Hid (wr.rangeAt g2 (o2 + j * 23) o9.vs ∧ (Tryz.prog.info? 43).map (·.size) = some o9.vs.length) := ⟨hgc, by rw [o9.vs_len hx17]; exact Tryz.size43⟩
    have H1 : Hid (BkI w x C N c T (o.x) Eb (xs1) z (v) wr) := hI
    have j1 : (j : Int) < L := by omega
    clear ho hgc hx17 hI
    go_wp2_with (refine Go.wpList_load_mid rfl 43 (.tmp 78) rfl g2 (o2 + j * 23) rfl o9.vs _ HR9.out.1 Tryz.underlying43 rfl HR9.out.2 ?_; refine Hid.out ?_)
    unfold Hid
    go_wp2_with fail
    refine HC1.out.mono ?_
    rintro e w8 ⟨dn, xs2, z2, v2, rfl, hh, hK, hp⟩
    have H2 : Hid (BkI w x C N c T (o.x) Eb (xs2) z2 (v2) w8) := H1.out.next hK hh
    clear hK hh HC1 hp
    go_wp2
    exact ⟨⟨j + 1, xs2, z2, v2, by omega, by go_num, H2.out⟩, by simp [intOf]; omega⟩
   ·
    obtain rfl : j = L := by omega
    have H1 : Hid (BkI w x C N c T (o.x) Eb (xs1) z (v) wr) := hI
    have HXX : Hid ((wvs (o.x)).toArray.size = 17) := by
     show (wvs (o.x)).toArray.size = 17
     simp [wvs_length, HX.out]
    have HC1 : Hid (Calls Tryz.prog 12 #[.pointer (some ⟨c.W, 0, none⟩), .pointer (some ⟨c.b, 0, none⟩), .int .i64 c.p, .agg (wvs (o.x)).toArray] wr fun e w' => Left c wr e (.int .i64 0) (lay xs1 c.d.sv (o.x)) z (o.x) w') := sav_any c xs1 z v wr hI.hw (o.x) HX.out
    clear hI
    go_wp2_with (refine wpList_load_row rfl 41 (.tmp 7) rfl T rfl 41 (wvs (o.x)).toArray (0, 0) _ H1.out.tx Tryz.underlying41 rfl (by rw [HXX.out]; exact Tryz.size41) ?_; refine Hid.out ?_)
    unfold Hid
    go_wp2_with fail
    refine HC1.out.mono ?_
    rintro e w8 ⟨rfl, hh, hK⟩
    obtain ⟨XS, hXS⟩ : ∃ XS, XS = lay xs1 c.d.sv (o.x) := ⟨_, rfl⟩
    rw [← hXS] at hh
    have H2 : Hid (BkI w x C N c T (o.x) Eb (XS) z (o.x) w8) := H1.out.next hK hh
    have HC2 : Hid (Calls Tryz.prog 9 #[.pointer (some ⟨c.W, 0, none⟩), .pointer (some ⟨c.b, 0, none⟩), .int .i64 c.p] w8 fun e w' => Left c w8 e (.tuple #[z.tv, .int .i64 0]) XS z (o.x) w') := stat_any c XS z (o.x) w8 H2.out.hw
    clear hh hK HC1 hXS
    go_wp2_with fail
    refine HC2.out.mono ?_
    rintro e w9 ⟨rfl, hh, hK⟩
    obtain ⟨St, hSt⟩ : ∃ St, St = w9.heap.size := ⟨_, rfl⟩
    obtain ⟨W9, hW9⟩ : ∃ W9, W9 = w9.alloc (.cells #[.int .i64 (z.s.toNat : Int), .int .i64 (z.r.toNat : Int), .int .i64 (z.t.toNat : Int), .int .u32 (z.q.toNat : Int), .int .i64 (z.o.toNat : Int)] 45) := ⟨_, rfl⟩
    have hb := Blk.new w9 #[.int .i64 (z.s.toNat : Int), .int .i64 (z.r.toNat : Int), .int .i64 (z.t.toNat : Int), .int .u32 (z.q.toNat : Int), .int .i64 (z.o.toNat : Int)] 45
    rw [← hW9, ← hSt] at hb
    have HSt : Hid (Blk W9 St [.int .i64 (z.s.toNat : Int), .int .i64 (z.r.toNat : Int), .int .i64 (z.t.toNat : Int), .int .u32 (z.q.toNat : Int), .int .i64 (z.o.toNat : Int)] 45 ∧ St ≠ c.g) := ⟨hb, by rw [hSt]; have := hh.mm.row.lt; omega⟩
    have H3b : Hid (BkI w x C N c T (o.x) Eb (XS) z (o.x) W9) := by
     rw [hW9]; exact (H2.out.next hK hh).kept ((Keeps.refl _ _).alloc _)
    clear hh hK hb HC2
    unfold Sta.tv tov
    go_upto_region 20 with fail
    rw [← hW9, ← hSt]
    clear hW9 hSt
    have HC3 : Hid (Calls Tryz.prog 11 #[.pointer (some ⟨c.W, 0, none⟩), .pointer (some ⟨c.b, 0, none⟩), .int .i64 c.p] W9 (LdP c XS z (o.x) W9)) := load_any c XS z (o.x) W9 H3b.out.hw
    go_wp2_with fail
    refine HC3.out.mono ?_
    rintro e wa (⟨h2, R, hR, rfl, hh, hK⟩ | hrest)
    ·
     have HN : Hid _ := ctx_new wa (ent c.d.en)
     obtain ⟨Wb, hWb⟩ : ∃ Wb, Wb = (wa.alloc (.cells #[.int .u32 0, .int .u32 0, .int .u32 0, .int .u32 0, .int .u32 0, .int .u32 0, .int .u32 0, .int .u32 0, .int .u32 0, .int .u32 0, .int .u32 0, .int .u32 0, .int .u32 0, .int .u32 0, .int .u32 0, .int .u32 0, .int .u32 0] 41)).setRow wa.heap.size (wvs (ent c.d.en)).toArray := ⟨_, rfl⟩
     obtain ⟨Y, hY⟩ : ∃ Y, Y = wa.heap.size := ⟨_, rfl⟩
     have HB : Hid (Blk Wb Y (wvs (ent c.d.en)) 41 ∧ Blk Wb Eb (wvs (ent c.d.en)) 41 ∧ One w x C N Wb ∧ Blk Wb St [.int .i64 2, .int .i64 (z.r.toNat : Int), .int .i64 (z.t.toNat : Int), .int .u32 (z.q.toNat : Int), .int .i64 (z.o.toNat : Int)] 45) := by
      obtain ⟨_, b, k⟩ := HN.out
      rw [← hWb] at b k
      rw [← hY] at b
      have n := (H3b.out.next hK hh).kept k
      have st := (HSt.out.1.kept hK HSt.out.2).kept k fun h => h
      rw [h2] at st
      exact ⟨b, n.te, n.one, st⟩
     have HPa : Hid (∃ g4 o4, x.pa = some ⟨g4, o4, none⟩ ∧ Wb.cell? ⟨g4, o4 + c.p * 8 + 2, none⟩ = some (.int .i64 c.act)) := by
      obtain ⟨g4, o4, hpa, hg4⟩ := HB.out.2.2.1.cin.par HA.out.2.par
      have := hg4 2 _ rfl
      rw [show P.action = c.act from HPP.out.1] at this
      exact ⟨g4, o4, hpa, this⟩
     clear hh hK HC3 h2 hR
     unfold cxv
     go_wp2_with (refine wpList_store_row rfl 41 (.tmp 22) (.tmp 103) rfl wa.heap.size (wvs (ent c.d.en)).toArray rfl rfl 41 (wvs z17).toArray HN.out.1 Tryz.size41 rfl (wvs_all _) ?_; refine Hid.out ?_)
     unfold Hid
     rw [← hWb, ← hY]
     clear hWb hY HN
     have s0 := HB.out.2.2.2.cell (i := 0) rfl
     go_upto_region 24 with fail
     clear s0
     obtain ⟨g4, o4, hpa, y2⟩ := HPa.out
     obtain ⟨q0, q1, q2, q3, q4, q5, q6⟩ := HB.out.2.2.1.cells
     clear q0 q1 q2 q3 q4 q6
     rw [hpa] at q5
     have p1 : (x.ps.length : Int) ≤ x.pc := by have := HPP.out.2.2.1; omega
     have p2 : (x.pc : Int) ≤ 9223372036854775807 := by have := HPP.out.2.2.2; unfold maxLen at this; omega
     have p3 : (c.p : Int) < x.ps.length := by have := HPP.out.2.1; omega
     clear hpa
     have HEQ : Hid (∀ w, (binOp .eql 41 (.agg (wvs (ent c.d.en)).toArray) (.agg (wvs (ent c.d.en)).toArray)).run Tryz.prog w = .ok (.bool true) w) := fun w => eql_ctx (ent c.d.en) rfl w
     go_wp2_with (refine wpList_load_row rfl 41 (.tmp 22) rfl Y rfl 41 (wvs (ent c.d.en)).toArray (0, 0) _ HB.out.1 Tryz.underlying41 rfl Tryz.size41 ?_; refine Hid.out ?_)
     unfold Hid
     go_wp2_with (refine wpList_load_row rfl 41 (.tmp 15) rfl Eb rfl 41 (wvs (ent c.d.en)).toArray (0, 0) _ HB.out.2.1 Tryz.underlying41 rfl Tryz.size41 ?_; refine Hid.out ?_)
     unfold Hid
     refine wpList_eql_on rfl 41 (.tmp 119) (.tmp 120) 41 rfl (wvs (ent c.d.en)).toArray (wvs (ent c.d.en)).toArray (.bool true) rfl rfl (by kernel_rfl) (HEQ.out _) ?_
     go_wp2
     go_ret
     exact ⟨rfl, HB.out.2.2.1.keeps⟩
    ·
     obtain ⟨xs3, z3, he, hn2, hh, hK⟩ : ∃ xs3 z3, e = .returned (.tuple #[cxv (o.x), .int .i64 0, .int .i64 0]) ∧ ¬ (z.s.toNat : Int) = 2 ∧ Hw wa c xs3 z3 (o.x) ∧ Keeps (· = c.g) W9 wa := by
      rcases hrest with ⟨h1, e1, e2, e3⟩ | ⟨h1, h2, e1, e2, e3⟩
      ·
       exact ⟨_, _, e1, by omega, e2, e3⟩
      ·
       exact ⟨_, _, e1, h2, e2, e3⟩
     clear hrest
     subst he
     have HN : Hid _ := ctx_new wa (o.x)
     obtain ⟨Wb, hWb⟩ : ∃ Wb, Wb = (wa.alloc (.cells #[.int .u32 0, .int .u32 0, .int .u32 0, .int .u32 0, .int .u32 0, .int .u32 0, .int .u32 0, .int .u32 0, .int .u32 0, .int .u32 0, .int .u32 0, .int .u32 0, .int .u32 0, .int .u32 0, .int .u32 0, .int .u32 0, .int .u32 0] 41)).setRow wa.heap.size (wvs (o.x)).toArray := ⟨_, rfl⟩
     obtain ⟨Y, hY⟩ : ∃ Y, Y = wa.heap.size := ⟨_, rfl⟩
     have HB : Hid (Blk Wb Y (wvs (o.x)) 41 ∧ Blk Wb T (wvs (o.x)) 41 ∧ One w x C N Wb ∧ Blk Wb St [.int .i64 (z.s.toNat : Int), .int .i64 (z.r.toNat : Int), .int .i64 (z.t.toNat : Int), .int .u32 (z.q.toNat : Int), .int .i64 (z.o.toNat : Int)] 45) := by
      obtain ⟨_, b, k⟩ := HN.out
      rw [← hWb] at b k
      rw [← hY] at b
      have n := (H3b.out.next hK hh).kept k
      exact ⟨b, n.tx, n.one, (HSt.out.1.kept hK HSt.out.2).kept k fun h => h⟩
     have f2 : ((z.s.toNat : Int) == 2) = false := by simpa using hn2
     clear hh hK HC3 hn2
     unfold cxv
     go_wp2_with (refine wpList_store_row rfl 41 (.tmp 22) (.tmp 103) rfl wa.heap.size (wvs (o.x)).toArray rfl rfl 41 (wvs z17).toArray HN.out.1 (by rw [HXX.out]; exact Tryz.size41) (by rw [HXX.out]; rfl) (wvs_all _) ?_; refine Hid.out ?_)
     unfold Hid
     rw [← hWb, ← hY]
     clear hWb hY HN
     have s0 := HB.out.2.2.2.cell (i := 0) rfl
     go_upto_region 25 with fail
     clear s0
     have HEQ : Hid (∀ w, (binOp .eql 41 (.agg (wvs (o.x)).toArray) (.agg (wvs (o.x)).toArray)).run Tryz.prog w = .ok (.bool true) w) := fun w => eql_ctx (o.x) HX.out w
     go_wp2_with (refine wpList_load_row rfl 41 (.tmp 22) rfl Y rfl 41 (wvs (o.x)).toArray (0, 0) _ HB.out.1 Tryz.underlying41 rfl (by rw [HXX.out]; exact Tryz.size41) ?_; refine Hid.out ?_)
     unfold Hid
     go_wp2_with (refine wpList_load_row rfl 41 (.tmp 7) rfl T rfl 41 (wvs (o.x)).toArray (0, 0) _ HB.out.2.1 Tryz.underlying41 rfl (by rw [HXX.out]; exact Tryz.size41) ?_; refine Hid.out ?_)
     unfold Hid
     refine wpList_eql_on rfl 41 (.tmp 132) (.tmp 133) 41 rfl (wvs (o.x)).toArray (wvs (o.x)).toArray (.bool true) rfl rfl (by kernel_rfl) (HEQ.out _) ?_
     go_wp2
     go_ret
     exact ⟨rfl, HB.out.2.2.1.keeps⟩
end Go.Proofs.YtofjbkoojimmhaaGreat
