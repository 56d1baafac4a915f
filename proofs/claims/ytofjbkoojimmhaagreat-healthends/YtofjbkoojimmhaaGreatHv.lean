import Derived.Test.YtofjbkoojimmhaaGreatHs
import Derived.Test.YtofjbkoojimmhaaGreatHt
namespace Go.Proofs.YtofjbkoojimmhaaGreat
open Go.RowKit Go.Shelf
open Mq
set_option linter.unusedVariables false
set_option maxRecDepth 6000
set_option linter.unusedSimpArgs false
structure EnI (w : World) (x : Cfg) (C N : Nat) (c : Cns) (P : Par) (Q : Nat) (xs : List UInt32) (z : Sta) (v : List UInt32) (wr : World) : Prop where
 hw : Hw wr c xs z v
 one : One w x C N wr
 q : Blk wr Q P.vs 35
 zero : c.act = 0 → z.r = 0
 ne : C < c.g ∧ Q ≠ c.g ∧ w.heap.size ≤ c.g
theorem EnI.next {w : World} {x : Cfg} {C N : Nat} {c : Cns} {P : Par} {Q : Nat} {xs xs' : List UInt32} {z z' : Sta} {v v' : List UInt32} {wr wr' : World} (h : EnI w x C N c P Q xs z v wr) (k : Keeps (· = c.g) wr wr') (hh : Hw wr' c xs' z' v') (hz : c.act = 0 → z'.r = 0) : EnI w x C N c P Q xs' z' v' wr' :=
 ⟨hh, h.one.kept' k (fun e => by have := h.ne.1; omega) (fun j e => by rw [e]; exact Nat.le_trans h.one.n h.ne.2.2) (fun j e => by rw [e]; exact h.ne.2.2), h.q.kept k h.ne.2.1, hz, h.ne⟩
theorem EnI.kept {w : World} {x : Cfg} {C N : Nat} {c : Cns} {P : Par} {Q : Nat} {xs : List UInt32} {z : Sta} {v : List UInt32} {wr wr' : World} (h : EnI w x C N c P Q xs z v wr) (k : Keeps (fun _ => False) wr wr') : EnI w x C N c P Q xs z v wr' :=
 ⟨h.hw.kept k, h.one.kept k, h.q.kept k fun h => h, h.zero, h.ne⟩
theorem Plyd.zero {c : Cns} {o : Opr} {xs xs' : List UInt32} {z z' : Sta} {dn : Int} (h : Plyd c o xs xs' z z' dn) (hz : c.act = 0 → z.r = 0) : c.act = 0 → z'.r = 0 := fun e => by
 rcases h.dn with ⟨_, e1⟩ | ⟨_, e1, _⟩
 ·
  rw [e1]; exact hz e
 ·
  exact absurd e e1
set_option maxHeartbeats 4000000 in
theorem ends_of (hof : ∀ (x : Cfg) (w : World) (N : Nat), x.In w N → N ≤ w.heap.size → Calls Tryz.prog 13 #[x.v] w (OfP x w)) (x : Cfg) (p : Int) (a : Option Addr) (cp : Nat) (ops : List Opr) (w : World) (N : Nat) (hi : x.In w N) (hN : N ≤ w.heap.size) (hs : OpsIn w N a cp ops) :
  Calls Tryz.prog 3 #[x.v, .int .i64 p, .slice a ops.length cp] w fun e w' => e = .returned (.bool true) ∧ Keeps (fun _ => False) w w' := by
 obtain ⟨W, hW⟩ : ∃ W, W = x.laid w := ⟨_, rfl⟩
 obtain ⟨C, hC⟩ : ∃ C, C = w.heap.size := ⟨_, rfl⟩
 have hO : One w x C N W := by rw [hW, hC]; exact One.mk' hi hN
 have HO : Hid (One w x C N W) := hO
 have HC : Hid (Calls Tryz.prog 7 #[x.v, .int .i64 p] W (BegP x p W)) := begun_of hof x p W N hO.cin hO.nn
 have HCW : Hid (C < W.heap.size ∧ w.heap.size ≤ W.heap.size) := ⟨hO.cfg.lt, hO.keeps.size⟩
 have HS : Hid (OpsIn w N a cp ops) := hs
 obtain ⟨q0, q1, q2, q3, q4, q5, q6⟩ := HO.out.cells
 obtain ⟨L, hL⟩ : ∃ L, L = ops.length := ⟨_, rfl⟩
 have HLn : Hid (L = ops.length) := hL
 rw [← hL]
 have hl1 : L ≤ cp := by rw [hL]; exact hs.len.1
 have hl2 : (cp : Int) ≤ 9223372036854775807 := by have := hs.len.2; unfold maxLen at this; omega
 unfold Cfg.laid at hW
 clear hi hN hO hof hs hL
 go_enter Tryz.func3, Tryz.ntmps3
 go_upto_region 1 with fail
 rw [← hW, ← hC]
 clear hW hC
 go_wp2_with fail
 refine HC.out.mono ?_
 rintro e w1 (⟨rfl, hK1⟩ | ⟨c, P, xs, rfl, hK1, hp, hh, hab⟩)
 ·
  have HK : Hid (Keeps (fun _ => False) w w1) := HO.out.keeps.trans hK1 fun _ _ h => h
  clear q0 q1 q2 q3 q4 q5 q6 hK1 HC
  go_wp2
  go_ret
  exact ⟨rfl, HK.out⟩
 subst hp
 have HO1 : Hid (One w x C N w1) := HO.out.kept hK1
 have HA : Hid (Hw w1 c xs Sta0 (ent c.d.en) ∧ Abt x W.heap.size c xs.length P) := ⟨hh, hab⟩
 obtain ⟨g1, o1, hpa, hg1⟩ := HO1.out.cin.par hab.par
 have hkl : c.p < x.ps.length := (List.getElem?_eq_some_iff.1 hab.par).1
 have hplen := HO1.out.cin.plen
 clear q0 q1 q2 q3 q4 q5 q6 hK1 HC hh hab
 obtain ⟨q0, q1, q2, q3, q4, q5, q6⟩ := HO1.out.cells
 clear q0 q1 q2 q3 q4 q6
 rw [hpa] at q5
 have p1 : (x.ps.length : Int) ≤ x.pc := by omega
 have p2 : (x.pc : Int) ≤ 9223372036854775807 := by have := hplen.2; unfold maxLen at this; omega
 have p3 : (c.p : Int) < x.ps.length := by omega
 obtain ⟨Q, hQ⟩ : ∃ Q, Q = w1.heap.size := ⟨_, rfl⟩
 obtain ⟨W2, hW2⟩ : ∃ W2, W2 = w1.alloc (.cells P.vs.toArray 35) := ⟨_, rfl⟩
 have HI : Hid (EnI w x C N c P Q xs Sta0 (ent c.d.en) W2) := by
  have hK : Keeps (fun _ => False) w1 W2 := by rw [hW2]; exact (Keeps.refl _ _).alloc _
  refine ⟨HA.out.1.kept hK, HO1.out.kept hK, by rw [hW2, hQ]; exact Blk.new w1 _ 35, fun _ => rfl, ?_, ?_, ?_⟩
  ·
   have := HCW.out.1; have := HA.out.2.lo; omega
  ·
   have := HA.out.1.mm.row.lt; omega
  ·
   have := HCW.out.2; have := HA.out.2.lo; omega
 have HPq : Hid (c.act = P.action ∧ c.d.rs = P.restarts ∧ 0 ≤ P.restarts ∧ P.restarts ≤ 1000000 ∧ (L : Int) ≤ cp) := ⟨HA.out.2.act, HA.out.2.rs, ((HA.out.2.gd.gp _ _ HA.out.2.par).num).2.1.1, ((HA.out.2.gd.gp _ _ HA.out.2.par).num).2.1.2, by omega⟩
 obtain ⟨nm, en, ac, re, ip, op, ra, rc, rs, pp, pq, ps⟩ := P
 have y0 := hg1 0 _ rfl
 rw [Nat.add_zero] at y0
 have y1 := hg1 1 _ rfl
 have y2 := hg1 2 _ rfl
 have y3 := hg1 3 _ rfl
 have y4 := hg1 4 _ rfl
 have y5 := hg1 5 _ rfl
 have y6 := hg1 6 _ rfl
 have y7 := hg1 7 _ rfl
 dsimp only at y0 y1 y2 y3 y4 y5 y6 y7
 simp only [Par.vs] at hW2
 clear hg1 hkl hplen hpa
 go_upto_region 5 with fail
 rw [← hW2, ← hQ]
 clear hW2 hQ y0 y1 y2 y3 y4 y5 y6 y7 q5 p1 p2 p3
 have b2 := HI.out.q.cell (i := 2) rfl
 have b3 := HI.out.q.cell (i := 3) rfl
 dsimp only at b2 b3
 have HPq : Hid (c.act = ac ∧ c.d.rs = re ∧ 0 ≤ re ∧ re ≤ 1000000 ∧ (L : Int) ≤ cp) := HPq.out
 obtain ⟨M, hM⟩ : ∃ M : Int, M = if ac = 0 then 0 else re := ⟨_, rfl⟩
 have HM : Hid (M = if ac = 0 then 0 else re) := hM
 clear hM
 by_cases h0 : ac = 0
 ·
  have HMX : Hid (M = 0) := by show M = 0; rw [HM.out, if_pos h0]
  have f0 : (ac == 0) = true := by simpa using h0
  clear h0
  have hle : ∀ z : Sta, Ok c z → (c.act = 0 → z.r = 0) → (z.r.toNat : Int) ≤ 0 := fun z ho hz => by
   rw [← HMX.out, HM.out]
   split
   ·
    rename_i h
    rw [hz (by rw [HPq.out.1]; exact h)]; decide
   ·
    rw [← HPq.out.2.1]; exact ho.r
  have HLE : Hid (∀ z : Sta, Ok c z → (c.act = 0 → z.r = 0) → (z.r.toNat : Int) ≤ 0) := hle
  clear hle
  go_wp2_with fail
  clear b2 b3
  go_loopw [13, 50] (fun an i wr => ∃ (j : Nat) (xs : List UInt32) (z : Sta) (v : List UInt32), j ≤ L ∧ i = .int .i64 j ∧ an = .int .i64 (z.r.toNat : Int) ∧ EnI w x C N c ⟨nm, en, ac, re, ip, op, ra, rc, rs, pp, pq, ps⟩ Q xs z v wr) (fun _ i _ => L - (intOf i).toNat)
  case atStart => exact ⟨0, xs, Sta0, ent c.d.en, by omega, rfl, rfl, HI.out⟩
  case round =>
   obtain ⟨j, xs1, z, v, hj, rfl, rfl, hI⟩ := hrel
   clear HI
   by_cases hlt : j < L
   ·
    obtain ⟨o, ho⟩ : ∃ o, ops[j]? = some o := ⟨_, List.getElem?_eq_getElem (by have := HLn.out; omega)⟩
    obtain ⟨g2, o2, hga, hgc⟩ := (HS.out.kept hI.one.keeps).seg.at ho
    subst hga
    have hx17 : o.x.length = 17 := HS.out.ctx o (List.mem_of_getElem? ho)
    have HC1 : Hid (Calls Tryz.prog 8 #[.pointer (some ⟨c.W, 0, none⟩), .pointer (some ⟨c.b, 0, none⟩), .int .i64 c.p, .agg o.vs.toArray] wr (PlyP c o xs1 z wr)) := played_any c xs1 z v wr hI.hw o hx17
    have HR : Hid (wr.rangeAt g2 (o2 + j * 23) o.vs ∧ (Tryz.prog.info? 43).map (·.size) = some o.vs.length) := ⟨hgc, by rw [o.vs_len hx17]; exact Tryz.size43⟩
    have H1 : Hid (EnI w x C N c ⟨nm, en, ac, re, ip, op, ra, rc, rs, pp, pq, ps⟩ Q xs1 z v wr) := hI
    have j1 : (j : Int) < L := by omega
    have j2 : (L : Int) ≤ cp := HPq.out.2.2.2.2
    clear ho hgc hx17 hI
    go_wp2_with (refine Go.wpList_load_mid rfl 43 (.tmp 59) rfl g2 (o2 + j * 23) rfl o.vs _ HR.out.1 Tryz.underlying43 rfl HR.out.2 ?_; refine Hid.out ?_)
    unfold Hid
    go_wp2_with fail
    refine HC1.out.mono ?_
    rintro e w3 ⟨dn, xs2, z2, v2, rfl, hh, hK, hp⟩
    have hI2 := H1.out.next hK hh (hp.zero H1.out.zero)
    have H2 : Hid (EnI w x C N c ⟨nm, en, ac, re, ip, op, ra, rc, rs, pp, pq, ps⟩ Q xs2 z2 v2 w3) := hI2
    have b2 := H2.out.q.cell (i := 2) rfl
    dsimp only at b2
    have HC2 : Hid (Calls Tryz.prog 9 #[.pointer (some ⟨c.W, 0, none⟩), .pointer (some ⟨c.b, 0, none⟩), .int .i64 c.p] w3 fun e w' => Left c w3 e (.tuple #[z2.tv, .int .i64 0]) xs2 z2 v2 w') := stat_any c xs2 z2 v2 w3 H2.out.hw
    have hrl := z2.r.toNat_lt
    have hdn := hp.dn
    rw [HPq.out.1, HPq.out.2.1] at hdn
    have hre := HPq.out.2.2.2.1
    clear hK hh hI2 HC1 hp
    rcases hdn with ⟨rfl, hz⟩ | ⟨hd, hn, hz, hr⟩
    ·
     have HE : Hid (z2.r = z.r) := hz
     rw [← hz]
     clear hz
     go_upto_region 17 with fail
     go_wp2_with fail
     refine HC2.out.mono ?_
     rintro e w4 ⟨rfl, hh, hK⟩
     obtain ⟨T, hT⟩ : ∃ T, T = w4.heap.size := ⟨_, rfl⟩
     obtain ⟨W5, hW5⟩ : ∃ W5, W5 = w4.alloc (.cells #[.int .i64 (z2.s.toNat : Int), .int .i64 (z2.r.toNat : Int), .int .i64 (z2.t.toNat : Int), .int .u32 (z2.q.toNat : Int), .int .i64 (z2.o.toNat : Int)] 45) := ⟨_, rfl⟩
     have hb := Blk.new w4 #[.int .i64 (z2.s.toNat : Int), .int .i64 (z2.r.toNat : Int), .int .i64 (z2.t.toNat : Int), .int .u32 (z2.q.toNat : Int), .int .i64 (z2.o.toNat : Int)] 45
     rw [← hW5, ← hT] at hb
     have t1 := hb.cell (i := 1) rfl
     have H5 : Hid (EnI w x C N c ⟨nm, en, ac, re, ip, op, ra, rc, rs, pp, pq, ps⟩ Q xs2 z2 v2 W5) := by
      rw [hW5]; exact (H2.out.next hK hh H2.out.zero).kept ((Keeps.refl _ _).alloc _)
     have hle := HLE.out z2 H5.out.hw.ok H5.out.zero
     clear hh hK hb HC2
     unfold Sta.tv tov
     go_upto_region 18 with fail
     rw [← hW5, ← hT]
     clear hW5 hT
     go_wp2
     exact ⟨⟨j + 1, xs2, z2, v2, by omega, by go_num, (by have := HLE.out z2 H5.out.hw.ok H5.out.zero; rw [show (z2.r.toNat : Int) = 0 by omega]), H5.out⟩, by simp [intOf]; omega⟩
    ·
     have hd := hd.symm
     subst hd
     have f1 : (ac != 0) = true := by simpa using hn
     have f2 : (ac != ac) = false := by simp
     have HE : Hid ((z.r.toNat : Int) + 1 = z2.r.toNat) := hz.symm
     have hw : IntKind.i64.wrap ((z.r.toNat : Int) + 1) = z2.r.toNat := by rw [IntKind.wrap_i64]; omega
     clear hz hr hn hre
     go_upto_region 17 with fail
     go_wp2_with fail
     refine HC2.out.mono ?_
     rintro e w4 ⟨rfl, hh, hK⟩
     obtain ⟨T, hT⟩ : ∃ T, T = w4.heap.size := ⟨_, rfl⟩
     obtain ⟨W5, hW5⟩ : ∃ W5, W5 = w4.alloc (.cells #[.int .i64 (z2.s.toNat : Int), .int .i64 (z2.r.toNat : Int), .int .i64 (z2.t.toNat : Int), .int .u32 (z2.q.toNat : Int), .int .i64 (z2.o.toNat : Int)] 45) := ⟨_, rfl⟩
     have hb := Blk.new w4 #[.int .i64 (z2.s.toNat : Int), .int .i64 (z2.r.toNat : Int), .int .i64 (z2.t.toNat : Int), .int .u32 (z2.q.toNat : Int), .int .i64 (z2.o.toNat : Int)] 45
     rw [← hW5, ← hT] at hb
     have t1 := hb.cell (i := 1) rfl
     have H5 : Hid (EnI w x C N c ⟨nm, en, ac, re, ip, op, ra, rc, rs, pp, pq, ps⟩ Q xs2 z2 v2 W5) := by
      rw [hW5]; exact (H2.out.next hK hh H2.out.zero).kept ((Keeps.refl _ _).alloc _)
     have hle := HLE.out z2 H5.out.hw.ok H5.out.zero
     clear hh hK hb HC2
     unfold Sta.tv tov
     go_upto_region 18 with fail
     rw [← hW5, ← hT]
     clear hW5 hT
     go_wp2
     exact ⟨⟨j + 1, xs2, z2, v2, by omega, by go_num, (by have := HLE.out z2 H5.out.hw.ok H5.out.zero; rw [show (z2.r.toNat : Int) = 0 by omega]), H5.out⟩, by simp [intOf]; omega⟩
   ·
    obtain rfl : j = L := by omega
    have H1 : Hid (EnI w x C N c ⟨nm, en, ac, re, ip, op, ra, rc, rs, pp, pq, ps⟩ Q xs1 z v wr) := hI
    clear hI
    have hle := HLE.out z H1.out.hw.ok H1.out.zero
    by_cases hrm : (z.r.toNat : Int) < 0
    ·
     go_wp2
     go_ret
     exact ⟨rfl, H1.out.one.keeps⟩
    have hT : trS c z = 3 := if_pos (by
     by_cases ha : c.act = 0
     ·
      exact .inl ha
     ·
      refine .inr ?_
      have e := HMX.out
      rw [HM.out, if_neg (by rw [← HPq.out.1]; exact ha)] at e
      rw [HPq.out.2.1, e]
      omega)
    have HC3 : Hid (Calls Tryz.prog 10 #[.pointer (some ⟨c.W, 0, none⟩), .pointer (some ⟨c.b, 0, none⟩), .int .i64 c.p, .int .i64 5, .int .u32 5] wr fun e w' => Left c wr e (.tuple #[.bool true, .int .i64 0]) (lay (lay xs1 (c.d.st + 2) [5, 5]) (c.d.st + 0) [3]) { s := 3, r := z.r, t := 5, q := 5, o := z.o } v w') := by
     have := trap_any c xs1 z v wr H1.out.hw 5 5 5 rfl (by decide) (by decide)
     rw [hT] at this
     exact this
    clear hT
    go_wp2_with fail
    refine HC3.out.mono ?_
    rintro e w3 ⟨rfl, hh, hK⟩
    have H3 : Hid (EnI w x C N c ⟨nm, en, ac, re, ip, op, ra, rc, rs, pp, pq, ps⟩ Q (lay (lay xs1 (c.d.st + 2) [5, 5]) (c.d.st + 0) [3]) { s := 3, r := z.r, t := 5, q := 5, o := z.o } v w3) := H1.out.next hK hh H1.out.zero
    clear hh hK HC3
    have HC4 : Hid (Calls Tryz.prog 11 #[.pointer (some ⟨c.W, 0, none⟩), .pointer (some ⟨c.b, 0, none⟩), .int .i64 c.p] w3 fun e w' => Left c w3 e (.tuple #[cxv v, .int .i64 0, .int .i64 0]) (lay (lay xs1 (c.d.st + 2) [5, 5]) (c.d.st + 0) [3]) { s := 3, r := z.r, t := 5, q := 5, o := z.o } v w') := load_st c _ { s := 3, r := z.r, t := 5, q := 5, o := z.o } v w3 H3.out.hw (show ¬ ((3 : UInt32).toNat : Int) = 1 by decide) (show ¬ ((3 : UInt32).toNat : Int) = 2 by decide)
    go_wp2_with fail
    refine HC4.out.mono ?_
    rintro e w4 ⟨rfl, hh, hK⟩
    have HV : Hid ((wvs v).toArray.size = 17) := by
     have e : v.length = 17 := by rw [← H1.out.hw.sv]; have := H1.out.hw.lo; have := H1.out.hw.hi; rw [List.length_take, List.length_drop]; omega
     show (wvs v).toArray.size = 17
     simp [wvs_length, e]
    have HN : Hid _ := ctx_new w4 v
    obtain ⟨W5, hW5⟩ : ∃ W5, W5 = (w4.alloc (.cells #[.int .u32 0, .int .u32 0, .int .u32 0, .int .u32 0, .int .u32 0, .int .u32 0, .int .u32 0, .int .u32 0, .int .u32 0, .int .u32 0, .int .u32 0, .int .u32 0, .int .u32 0, .int .u32 0, .int .u32 0, .int .u32 0, .int .u32 0] 41)).setRow w4.heap.size (wvs v).toArray := ⟨_, rfl⟩
    have H5 : Hid (EnI w x C N c ⟨nm, en, ac, re, ip, op, ra, rc, rs, pp, pq, ps⟩ Q (lay (lay xs1 (c.d.st + 2) [5, 5]) (c.d.st + 0) [3]) { s := 3, r := z.r, t := 5, q := 5, o := z.o } v W5) := by
     have k := HN.out.2.2
     rw [← hW5] at k
     exact (H3.out.next hK hh H3.out.zero).kept k
    clear hh hK HC4
    unfold cxv
    go_wp2_with (refine wpList_store_row rfl 41 (.tmp 21) (.tmp 116) rfl w4.heap.size (wvs v).toArray rfl rfl 41 (wvs z17).toArray HN.out.1 (by rw [HV.out]; exact Tryz.size41) (by rw [HV.out]; rfl) (wvs_all _) ?_; refine Hid.out ?_)
    unfold Hid
    rw [← hW5]
    clear hW5 HN
    have HC5 : Hid (Calls Tryz.prog 9 #[.pointer (some ⟨c.W, 0, none⟩), .pointer (some ⟨c.b, 0, none⟩), .int .i64 c.p] W5 fun e w' => Left c W5 e (.tuple #[tov 3 z.r.toNat 5 5 z.o.toNat, .int .i64 0]) (lay (lay xs1 (c.d.st + 2) [5, 5]) (c.d.st + 0) [3]) { s := 3, r := z.r, t := 5, q := 5, o := z.o } v w') := stat_any c _ { s := 3, r := z.r, t := 5, q := 5, o := z.o } v W5 H5.out.hw
    go_wp2_with fail
    refine HC5.out.mono ?_
    rintro e w6 ⟨rfl, hh, hK⟩
    have H6 : Hid (Keeps (fun _ => False) w w6) := (H5.out.next hK hh H5.out.zero).one.keeps
    clear hh hK HC5
    unfold tov
    go_wp2
    go_ret
    exact ⟨rfl, H6.out.alloc _⟩
 ·
  have HMX : Hid (M = re) := by show M = re; rw [HM.out, if_neg h0]
  have f0 : (ac == 0) = false := by simpa using h0
  clear h0
  have hle : ∀ z : Sta, Ok c z → (c.act = 0 → z.r = 0) → (z.r.toNat : Int) ≤ re := fun z ho hz => by
   rw [← HMX.out, HM.out]
   split
   ·
    rename_i h
    rw [hz (by rw [HPq.out.1]; exact h)]; decide
   ·
    rw [← HPq.out.2.1]; exact ho.r
  have HLE : Hid (∀ z : Sta, Ok c z → (c.act = 0 → z.r = 0) → (z.r.toNat : Int) ≤ re) := hle
  clear hle
  go_wp2_with fail
  clear b2 b3
  go_loopw [13, 50] (fun an i wr => ∃ (j : Nat) (xs : List UInt32) (z : Sta) (v : List UInt32), j ≤ L ∧ i = .int .i64 j ∧ an = .int .i64 (z.r.toNat : Int) ∧ EnI w x C N c ⟨nm, en, ac, re, ip, op, ra, rc, rs, pp, pq, ps⟩ Q xs z v wr) (fun _ i _ => L - (intOf i).toNat)
  case atStart => exact ⟨0, xs, Sta0, ent c.d.en, by omega, rfl, rfl, HI.out⟩
  case round =>
   obtain ⟨j, xs1, z, v, hj, rfl, rfl, hI⟩ := hrel
   clear HI
   by_cases hlt : j < L
   ·
    obtain ⟨o, ho⟩ : ∃ o, ops[j]? = some o := ⟨_, List.getElem?_eq_getElem (by have := HLn.out; omega)⟩
    obtain ⟨g2, o2, hga, hgc⟩ := (HS.out.kept hI.one.keeps).seg.at ho
    subst hga
    have hx17 : o.x.length = 17 := HS.out.ctx o (List.mem_of_getElem? ho)
    have HC1 : Hid (Calls Tryz.prog 8 #[.pointer (some ⟨c.W, 0, none⟩), .pointer (some ⟨c.b, 0, none⟩), .int .i64 c.p, .agg o.vs.toArray] wr (PlyP c o xs1 z wr)) := played_any c xs1 z v wr hI.hw o hx17
    have HR : Hid (wr.rangeAt g2 (o2 + j * 23) o.vs ∧ (Tryz.prog.info? 43).map (·.size) = some o.vs.length) := ⟨hgc, by rw [o.vs_len hx17]; exact Tryz.size43⟩
    have H1 : Hid (EnI w x C N c ⟨nm, en, ac, re, ip, op, ra, rc, rs, pp, pq, ps⟩ Q xs1 z v wr) := hI
    have j1 : (j : Int) < L := by omega
    have j2 : (L : Int) ≤ cp := HPq.out.2.2.2.2
    clear ho hgc hx17 hI
    go_wp2_with (refine Go.wpList_load_mid rfl 43 (.tmp 59) rfl g2 (o2 + j * 23) rfl o.vs _ HR.out.1 Tryz.underlying43 rfl HR.out.2 ?_; refine Hid.out ?_)
    unfold Hid
    go_wp2_with fail
    refine HC1.out.mono ?_
    rintro e w3 ⟨dn, xs2, z2, v2, rfl, hh, hK, hp⟩
    have hI2 := H1.out.next hK hh (hp.zero H1.out.zero)
    have H2 : Hid (EnI w x C N c ⟨nm, en, ac, re, ip, op, ra, rc, rs, pp, pq, ps⟩ Q xs2 z2 v2 w3) := hI2
    have b2 := H2.out.q.cell (i := 2) rfl
    dsimp only at b2
    have HC2 : Hid (Calls Tryz.prog 9 #[.pointer (some ⟨c.W, 0, none⟩), .pointer (some ⟨c.b, 0, none⟩), .int .i64 c.p] w3 fun e w' => Left c w3 e (.tuple #[z2.tv, .int .i64 0]) xs2 z2 v2 w') := stat_any c xs2 z2 v2 w3 H2.out.hw
    have hrl := z2.r.toNat_lt
    have hdn := hp.dn
    rw [HPq.out.1, HPq.out.2.1] at hdn
    have hre := HPq.out.2.2.2.1
    clear hK hh hI2 HC1 hp
    rcases hdn with ⟨rfl, hz⟩ | ⟨hd, hn, hz, hr⟩
    ·
     have HE : Hid (z2.r = z.r) := hz
     rw [← hz]
     clear hz
     go_upto_region 17 with fail
     go_wp2_with fail
     refine HC2.out.mono ?_
     rintro e w4 ⟨rfl, hh, hK⟩
     obtain ⟨T, hT⟩ : ∃ T, T = w4.heap.size := ⟨_, rfl⟩
     obtain ⟨W5, hW5⟩ : ∃ W5, W5 = w4.alloc (.cells #[.int .i64 (z2.s.toNat : Int), .int .i64 (z2.r.toNat : Int), .int .i64 (z2.t.toNat : Int), .int .u32 (z2.q.toNat : Int), .int .i64 (z2.o.toNat : Int)] 45) := ⟨_, rfl⟩
     have hb := Blk.new w4 #[.int .i64 (z2.s.toNat : Int), .int .i64 (z2.r.toNat : Int), .int .i64 (z2.t.toNat : Int), .int .u32 (z2.q.toNat : Int), .int .i64 (z2.o.toNat : Int)] 45
     rw [← hW5, ← hT] at hb
     have t1 := hb.cell (i := 1) rfl
     have H5 : Hid (EnI w x C N c ⟨nm, en, ac, re, ip, op, ra, rc, rs, pp, pq, ps⟩ Q xs2 z2 v2 W5) := by
      rw [hW5]; exact (H2.out.next hK hh H2.out.zero).kept ((Keeps.refl _ _).alloc _)
     have hle := HLE.out z2 H5.out.hw.ok H5.out.zero
     clear hh hK hb HC2
     unfold Sta.tv tov
     go_upto_region 18 with fail
     rw [← hW5, ← hT]
     clear hW5 hT
     go_wp2
     exact ⟨⟨j + 1, xs2, z2, v2, by omega, by go_num, rfl, H5.out⟩, by simp [intOf]; omega⟩
    ·
     have hd := hd.symm
     subst hd
     have f1 : (ac != 0) = true := by simpa using hn
     have f2 : (ac != ac) = false := by simp
     have HE : Hid ((z.r.toNat : Int) + 1 = z2.r.toNat) := hz.symm
     have hw : IntKind.i64.wrap ((z.r.toNat : Int) + 1) = z2.r.toNat := by rw [IntKind.wrap_i64]; omega
     clear hz hr hn hre
     go_upto_region 17 with fail
     go_wp2_with fail
     refine HC2.out.mono ?_
     rintro e w4 ⟨rfl, hh, hK⟩
     obtain ⟨T, hT⟩ : ∃ T, T = w4.heap.size := ⟨_, rfl⟩
     obtain ⟨W5, hW5⟩ : ∃ W5, W5 = w4.alloc (.cells #[.int .i64 (z2.s.toNat : Int), .int .i64 (z2.r.toNat : Int), .int .i64 (z2.t.toNat : Int), .int .u32 (z2.q.toNat : Int), .int .i64 (z2.o.toNat : Int)] 45) := ⟨_, rfl⟩
     have hb := Blk.new w4 #[.int .i64 (z2.s.toNat : Int), .int .i64 (z2.r.toNat : Int), .int .i64 (z2.t.toNat : Int), .int .u32 (z2.q.toNat : Int), .int .i64 (z2.o.toNat : Int)] 45
     rw [← hW5, ← hT] at hb
     have t1 := hb.cell (i := 1) rfl
     have H5 : Hid (EnI w x C N c ⟨nm, en, ac, re, ip, op, ra, rc, rs, pp, pq, ps⟩ Q xs2 z2 v2 W5) := by
      rw [hW5]; exact (H2.out.next hK hh H2.out.zero).kept ((Keeps.refl _ _).alloc _)
     have hle := HLE.out z2 H5.out.hw.ok H5.out.zero
     clear hh hK hb HC2
     unfold Sta.tv tov
     go_upto_region 18 with fail
     rw [← hW5, ← hT]
     clear hW5 hT
     go_wp2
     exact ⟨⟨j + 1, xs2, z2, v2, by omega, by go_num, rfl, H5.out⟩, by simp [intOf]; omega⟩
   ·
    obtain rfl : j = L := by omega
    have H1 : Hid (EnI w x C N c ⟨nm, en, ac, re, ip, op, ra, rc, rs, pp, pq, ps⟩ Q xs1 z v wr) := hI
    clear hI
    have hle := HLE.out z H1.out.hw.ok H1.out.zero
    by_cases hrm : (z.r.toNat : Int) < re
    ·
     go_wp2
     go_ret
     exact ⟨rfl, H1.out.one.keeps⟩
    have hT : trS c z = 3 := if_pos (by
     by_cases ha : c.act = 0
     ·
      exact .inl ha
     ·
      refine .inr ?_
      have e := HMX.out
      rw [HM.out, if_neg (by rw [← HPq.out.1]; exact ha)] at e
      rw [HPq.out.2.1, e]
      omega)
    have HC3 : Hid (Calls Tryz.prog 10 #[.pointer (some ⟨c.W, 0, none⟩), .pointer (some ⟨c.b, 0, none⟩), .int .i64 c.p, .int .i64 5, .int .u32 5] wr fun e w' => Left c wr e (.tuple #[.bool true, .int .i64 0]) (lay (lay xs1 (c.d.st + 2) [5, 5]) (c.d.st + 0) [3]) { s := 3, r := z.r, t := 5, q := 5, o := z.o } v w') := by
     have := trap_any c xs1 z v wr H1.out.hw 5 5 5 rfl (by decide) (by decide)
     rw [hT] at this
     exact this
    clear hT
    go_wp2_with fail
    refine HC3.out.mono ?_
    rintro e w3 ⟨rfl, hh, hK⟩
    have H3 : Hid (EnI w x C N c ⟨nm, en, ac, re, ip, op, ra, rc, rs, pp, pq, ps⟩ Q (lay (lay xs1 (c.d.st + 2) [5, 5]) (c.d.st + 0) [3]) { s := 3, r := z.r, t := 5, q := 5, o := z.o } v w3) := H1.out.next hK hh H1.out.zero
    clear hh hK HC3
    have HC4 : Hid (Calls Tryz.prog 11 #[.pointer (some ⟨c.W, 0, none⟩), .pointer (some ⟨c.b, 0, none⟩), .int .i64 c.p] w3 fun e w' => Left c w3 e (.tuple #[cxv v, .int .i64 0, .int .i64 0]) (lay (lay xs1 (c.d.st + 2) [5, 5]) (c.d.st + 0) [3]) { s := 3, r := z.r, t := 5, q := 5, o := z.o } v w') := load_st c _ { s := 3, r := z.r, t := 5, q := 5, o := z.o } v w3 H3.out.hw (show ¬ ((3 : UInt32).toNat : Int) = 1 by decide) (show ¬ ((3 : UInt32).toNat : Int) = 2 by decide)
    go_wp2_with fail
    refine HC4.out.mono ?_
    rintro e w4 ⟨rfl, hh, hK⟩
    have HV : Hid ((wvs v).toArray.size = 17) := by
     have e : v.length = 17 := by rw [← H1.out.hw.sv]; have := H1.out.hw.lo; have := H1.out.hw.hi; rw [List.length_take, List.length_drop]; omega
     show (wvs v).toArray.size = 17
     simp [wvs_length, e]
    have HN : Hid _ := ctx_new w4 v
    obtain ⟨W5, hW5⟩ : ∃ W5, W5 = (w4.alloc (.cells #[.int .u32 0, .int .u32 0, .int .u32 0, .int .u32 0, .int .u32 0, .int .u32 0, .int .u32 0, .int .u32 0, .int .u32 0, .int .u32 0, .int .u32 0, .int .u32 0, .int .u32 0, .int .u32 0, .int .u32 0, .int .u32 0, .int .u32 0] 41)).setRow w4.heap.size (wvs v).toArray := ⟨_, rfl⟩
    have H5 : Hid (EnI w x C N c ⟨nm, en, ac, re, ip, op, ra, rc, rs, pp, pq, ps⟩ Q (lay (lay xs1 (c.d.st + 2) [5, 5]) (c.d.st + 0) [3]) { s := 3, r := z.r, t := 5, q := 5, o := z.o } v W5) := by
     have k := HN.out.2.2
     rw [← hW5] at k
     exact (H3.out.next hK hh H3.out.zero).kept k
    clear hh hK HC4
    unfold cxv
    go_wp2_with (refine wpList_store_row rfl 41 (.tmp 21) (.tmp 116) rfl w4.heap.size (wvs v).toArray rfl rfl 41 (wvs z17).toArray HN.out.1 (by rw [HV.out]; exact Tryz.size41) (by rw [HV.out]; rfl) (wvs_all _) ?_; refine Hid.out ?_)
    unfold Hid
    rw [← hW5]
    clear hW5 HN
    have HC5 : Hid (Calls Tryz.prog 9 #[.pointer (some ⟨c.W, 0, none⟩), .pointer (some ⟨c.b, 0, none⟩), .int .i64 c.p] W5 fun e w' => Left c W5 e (.tuple #[tov 3 z.r.toNat 5 5 z.o.toNat, .int .i64 0]) (lay (lay xs1 (c.d.st + 2) [5, 5]) (c.d.st + 0) [3]) { s := 3, r := z.r, t := 5, q := 5, o := z.o } v w') := stat_any c _ { s := 3, r := z.r, t := 5, q := 5, o := z.o } v W5 H5.out.hw
    go_wp2_with fail
    refine HC5.out.mono ?_
    rintro e w6 ⟨rfl, hh, hK⟩
    have H6 : Hid (Keeps (fun _ => False) w w6) := (H5.out.next hK hh H5.out.zero).one.keeps
    clear hh hK HC5
    unfold tov
    go_wp2
    go_ret
    exact ⟨rfl, H6.out.alloc _⟩
end Go.Proofs.YtofjbkoojimmhaaGreat
