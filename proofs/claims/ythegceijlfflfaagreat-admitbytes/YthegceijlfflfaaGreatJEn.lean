import Derived.Test.YthegceijlfflfaaGreatJWn
import Derived.Deep.RegionHeld3
namespace Go.Proofs.YthegceijlfflfaaGreat
open Go.RowKit
set_option linter.unusedVariables false
set_option maxRecDepth 6000
def Hi (N a b : Nat) (g : Option Nat) : Prop := N ≤ a ∧ N ≤ b ∧ ∀ k, g = some k → N ≤ k
theorem Hi.own {N a b : Nat} {g : Option Nat} (h : Hi N a b g) {k : Nat} (hk : Own a b g k) : N ≤ k := by
 rcases hk with rfl | rfl | hk
 ·
  exact h.1
 ·
  exact h.2.1
 ·
  exact h.2.2 k hk.symm
theorem Hi.later {N a b : Nat} {g g' : Option Nat} {w : World} (h : Hi N a b g) (hN : N ≤ w.heap.size) (hg : g' = g ∨ ∃ k, g' = some k ∧ w.heap.size ≤ k) : Hi N a b g' := by
 refine ⟨h.1, h.2.1, fun k hk => ?_⟩
 rcases hg with rfl | ⟨m, rfl, hm⟩
 ·
  exact h.2.2 k hk
 ·
  cases hk; omega
theorem Keeps.hi {w w' : World} {N a b : Nat} {g : Option Nat} (hK : Keeps (Own a b g) w w') (h : Hi N a b g) (hN : N ≤ w.heap.size) : Below N w w' := hK.below hN fun _ hk => h.own hk
set_option maxHeartbeats 400000 in
theorem core_any (N a b : Nat) (g : Option Nat) (xs : List UInt8) (d : Bool) (x : Core) (w : World) (h : Wt w a b g xs d) (hH : Hi N a b g) (hi : x.In w N) (hx : xs.length + 4000 ≤ 140737488355328) :
  Calls Tryz.prog 23 #[.pointer (some ⟨a, 0, none⟩), x.v] w fun e w' => e = .returned (.tuple #[]) ∧ Put w a b g xs w' x.e (d || x.d) := by
 have HC : Hid (Calls _ _ _ _ _) := writeWins_any a b g xs d x.a x.c x.ws w h hi.seg (fun hn y hy ho => by have := hi.lo hn y hy; have := hH.own ho; omega) hi.len hx fun y hy W g' zs d' hK hW hg hz => window_any a b g' zs d' y W hW hz (hi.fine y hy)
 obtain ⟨ad, c, ws⟩ := x
 obtain ⟨L, hL⟩ : ∃ L, ws.length = L := ⟨_, rfl⟩
 simp only [Core.v]
 simp only [hL] at HC ⊢
 clear h hi hH
 go_enter Tryz.func23, Tryz.ntmps23
 go_wp2_with fail
 refine HC.out.mono ?_
 rintro e w1 ⟨rfl, hP⟩
 have HP : Hid (Put w a b g xs w1 _ _) := hP
 clear hP HC
 go_wp2
 go_end0
 exact ⟨rfl, HP.out⟩
set_option maxHeartbeats 1000000 in
theorem partition_any (N a b : Nat) (g : Option Nat) (xs : List UInt8) (d : Bool) (x : Par) (w : World) (h : Wt w a b g xs d) (hH : Hi N a b g) (hN : N ≤ w.heap.size) (hi : x.In w N) (hx : xs.length + 20000 ≤ 140737488355328) :
  Calls Tryz.prog 25 #[.pointer (some ⟨a, 0, none⟩), x.v] w fun e w' => e = .returned (.tuple #[]) ∧ Put w a b g xs w' x.e (d || x.d) := by
 obtain ⟨s, n1, n2, n3, n4, n5, ra, rc, rs, pa, pc, ps⟩ := x
 have HS : Hid (Wt w a b g xs d ∧ Hi N a b g ∧ N ≤ w.heap.size ∧ (⟨s, n1, n2, n3, n4, n5, ra, rc, rs, pa, pc, ps⟩ : Par).In w N) := ⟨h, hH, hN, hi⟩
 obtain ⟨L1, hL1⟩ : ∃ L, rs.length = L := ⟨_, rfl⟩
 obtain ⟨L2, hL2⟩ : ∃ L, ps.length = L := ⟨_, rfl⟩
 simp only [Par.v, hL1, hL2]
 have HL : Hid (rs.length = L1 ∧ ps.length = L2) := ⟨hL1, hL2⟩
 clear h hH hN hi hL1 hL2
 go_enter Tryz.func25, Tryz.ntmps25
 go_wp2_with fail
 obtain ⟨W, hW⟩ : ∃ W, W = w.alloc (.cells #[.string s, .int .i64 n1, .int .i64 n2, .int .i64 n3, .int .i64 n4, .int .i64 n5, .slice ra L1 rc, .slice pa L2 pc] 54) := ⟨_, rfl⟩
 have hKW : Keeps (fun _ => False) w W := by rw [hW]; exact (Keeps.refl _ w).alloc _
 have hBW : Blk W w.heap.size [.string s, .int .i64 n1, .int .i64 n2, .int .i64 n3, .int .i64 n4, .int .i64 n5, .slice ra L1 rc, .slice pa L2 pc] 54 := by rw [hW]; exact Blk.new w _ _
 have hno : ¬ Own a b g w.heap.size := own_new (w1 := w) HS.out.1 (Nat.le_refl _)
 have HA : Hid (Keeps (fun _ => False) w W ∧ Blk W w.heap.size [.string s, .int .i64 n1, .int .i64 n2, .int .i64 n3, .int .i64 n4, .int .i64 n5, .slice ra L1 rc, .slice pa L2 pc] 54 ∧ ¬ Own a b g w.heap.size) := ⟨hKW, hBW, hno⟩
 rw [← hW]
 clear hKW hBW hno
 have hw0 : Wt W a b g xs d := HS.out.1.kept HA.out.1 fun _ _ e => e
 refine (name_any a b g xs d s W hw0 (by omega) HS.out.2.2.2.name).mono ?_
 rintro e w1 ⟨rfl, hP⟩
 have HP1 : Hid (Put W a b g xs w1 (nameBy s) (d || nameW s)) := hP
 obtain ⟨g1, hw1, hg1, hK1⟩ := hP
 have hB1 := HA.out.2.1.kept hK1 HA.out.2.2
 have c1 := hB1.cell (i := 1) rfl
 have c2 := hB1.cell (i := 2) rfl
 have c3 := hB1.cell (i := 3) rfl
 have c4 := hB1.cell (i := 4) rfl
 have c5 := hB1.cell (i := 5) rfl
 have H1 : Hid (Wt w1 a b g1 (xs ++ nameBy s) (d || nameW s) ∧ (g1 = g ∨ ∃ k, g1 = some k ∧ W.heap.size ≤ k) ∧ Keeps (Own a b g) W w1) := ⟨hw1, hg1, hK1⟩
 clear hw1 hg1 hK1 hB1 hw0 hW
 go_wp2_with fail
 refine (numbers_at (w1 := w1) w1.heap.size [n1, n2, n3, n4, n5] H1.out.1 (Keeps.refl _ _) rfl HS.out.2.2.2.ns (by simp) (by rw [List.length_append]; have := nameB_le s; omega)).mono ?_
 rintro e w2 ⟨rfl, hP⟩
 have HP2 : Hid (Put W a b g xs w2 (nameBy s ++ nbs [n1, n2, n3, n4, n5]) (d || nameW s || wNs [n1, n2, n3, n4, n5])) := Put.trans H1.out.2.1 H1.out.2.2 hP
 obtain ⟨g2, hw2, hg2, hK2⟩ := HP2.out
 have c6 := (HA.out.2.1.kept hK2 HA.out.2.2).cell (i := 6) rfl
 have H2 : Hid (Wt w2 a b g2 (xs ++ (nameBy s ++ nbs [n1, n2, n3, n4, n5])) (d || nameW s || wNs [n1, n2, n3, n4, n5]) ∧ (g2 = g ∨ ∃ k, g2 = some k ∧ W.heap.size ≤ k) ∧ Keeps (Own a b g) W w2) := ⟨hw2, hg2, hK2⟩
 clear hw2 hg2 hK2 hP c1 c2 c3 c4 c5 H1 HP1
 go_wp2_with fail
 have HHi : Hid (N ≤ W.heap.size ∧ Hi N a b g2) := ⟨Nat.le_trans HS.out.2.2.1 HA.out.1.size, HS.out.2.1.later (w := W) (Nat.le_trans HS.out.2.2.1 HA.out.1.size) H2.out.2.1⟩
 have hI2 : Par.In w2 N ⟨s, n1, n2, n3, n4, n5, ra, rc, rs, pa, pc, ps⟩ := (HS.out.2.2.2.below (HA.out.1.below HS.out.2.2.1 fun _ e => e.elim)).below (H2.out.2.2.hi HS.out.2.1 HHi.out.1)
 have HC := writeRgns_any a b g2 (xs ++ (nameBy s ++ nbs [n1, n2, n3, n4, n5])) (d || nameW s || wNs [n1, n2, n3, n4, n5]) ra rc rs w2 H2.out.1 hI2.rseg (fun hn y hy ho => by have := hI2.rlo hn y hy; have := HHi.out.2.own ho; omega) hI2.rlen
  (by rw [List.length_append, List.length_append, nbs_length]; have := nameB_le s; simp only [List.length_cons, List.length_nil]; omega) fun y hy V g' zs d' hK hV hg hz => region_any a b g' zs d' y V hV hz (hI2.rfine y hy)
 rw [HL.out.1] at HC
 refine HC.mono ?_
 rintro e w3 ⟨rfl, hP⟩
 have HP3 : Hid (Put W a b g xs w3 (nameBy s ++ nbs [n1, n2, n3, n4, n5] ++ listB Rgn.e rs) (d || nameW s || wNs [n1, n2, n3, n4, n5] || listW Rgn.d rs)) := Put.trans H2.out.2.1 H2.out.2.2 hP
 obtain ⟨g3, hw3, hg3, hK3⟩ := HP3.out
 have c7 := (HA.out.2.1.kept hK3 HA.out.2.2).cell (i := 7) rfl
 have H3 : Hid (Wt w3 a b g3 (xs ++ (nameBy s ++ nbs [n1, n2, n3, n4, n5] ++ listB Rgn.e rs)) (d || nameW s || wNs [n1, n2, n3, n4, n5] || listW Rgn.d rs) ∧ (g3 = g ∨ ∃ k, g3 = some k ∧ W.heap.size ≤ k) ∧ Keeps (Own a b g) W w3) := ⟨hw3, hg3, hK3⟩
 clear hw3 hg3 hK3 hP c6 H2 HP2 HC hI2
 go_wp2_with fail
 have hI3 : Par.In w3 N ⟨s, n1, n2, n3, n4, n5, ra, rc, rs, pa, pc, ps⟩ := (HS.out.2.2.2.below (HA.out.1.below HS.out.2.2.1 fun _ e => e.elim)).below (H3.out.2.2.hi HS.out.2.1 HHi.out.1)
 have HHj : Hi N a b g3 := HS.out.2.1.later (w := W) HHi.out.1 H3.out.2.1
 have HC := writePrts_any a b g3 _ _ pa pc ps w3 H3.out.1 hI3.pseg (fun hn y hy ho => by have := hI3.plo hn y hy; have := HHj.own ho; omega) hI3.plen
  (by rw [List.length_append, List.length_append, List.length_append, nbs_length]; have := nameB_le s; have := listB_le _ 16 Rgn.e_le rs; simp only [List.length_cons, List.length_nil]; omega) fun y hy V g' zs d' hK hV hg hz => wport_any a b g' zs d' y V hV hz (hI3.pfine y hy)
 rw [HL.out.2] at HC
 refine HC.mono ?_
 rintro e w4 ⟨rfl, hP⟩
 have HP4 : Hid (Put w a b g xs w4 (Par.e ⟨s, n1, n2, n3, n4, n5, ra, rc, rs, pa, pc, ps⟩) (d || Par.d ⟨s, n1, n2, n3, n4, n5, ra, rc, rs, pa, pc, ps⟩)) := by
  refine ((Put.trans H3.out.2.1 H3.out.2.2 hP).grown HA.out.1).cong ?_ ?_
  ·
   unfold Par.e Par.ns; simp only [List.append_assoc]
  ·
   unfold Par.d Par.ns; simp only [Bool.or_assoc]
 clear hP c7 H3 HP3 HC hI3 HHj HHi
 go_wp2
 go_end0
 exact ⟨rfl, HP4.out⟩
set_option maxHeartbeats 1000000 in
theorem config_any (N a b : Nat) (g : Option Nat) (xs : List UInt8) (d : Bool) (x : Cfg) (w : World) (h : Wt w a b g xs d) (hH : Hi N a b g) (hN : N ≤ w.heap.size) (hi : x.In w N) (hx : xs.length + 5000000 ≤ 140737488355328) :
  Calls Tryz.prog 11 #[.pointer (some ⟨a, 0, none⟩), x.v] w fun e w' => e = .returned (.tuple #[]) ∧ Put w a b g xs w' x.e (d || x.d) := by
 obtain ⟨n1, n2, n3, n4, ca, cc, cs, pa, pc, ps, ha, hc, hs⟩ := x
 have HS : Hid (Wt w a b g xs d ∧ Hi N a b g ∧ N ≤ w.heap.size ∧ (⟨n1, n2, n3, n4, ca, cc, cs, pa, pc, ps, ha, hc, hs⟩ : Cfg).In w N) := ⟨h, hH, hN, hi⟩
 obtain ⟨L1, hL1⟩ : ∃ L, cs.length = L := ⟨_, rfl⟩
 obtain ⟨L2, hL2⟩ : ∃ L, ps.length = L := ⟨_, rfl⟩
 obtain ⟨L3, hL3⟩ : ∃ L, hs.length = L := ⟨_, rfl⟩
 simp only [Cfg.v, hL1, hL2, hL3]
 have HL : Hid (cs.length = L1 ∧ ps.length = L2 ∧ hs.length = L3) := ⟨hL1, hL2, hL3⟩
 clear h hH hN hi hL1 hL2 hL3
 go_enter Tryz.func11, Tryz.ntmps11
 go_wp2_with fail
 obtain ⟨W, hW⟩ : ∃ W, W = w.alloc (.cells #[.int .i64 n1, .int .i64 n2, .int .i64 n3, .int .i64 n4, .slice ca L1 cc, .slice pa L2 pc, .slice ha L3 hc] 26) := ⟨_, rfl⟩
 have hKW : Keeps (fun _ => False) w W := by rw [hW]; exact (Keeps.refl _ w).alloc _
 have hBW : Blk W w.heap.size [.int .i64 n1, .int .i64 n2, .int .i64 n3, .int .i64 n4, .slice ca L1 cc, .slice pa L2 pc, .slice ha L3 hc] 26 := by rw [hW]; exact Blk.new w _ _
 have hno : ¬ Own a b g w.heap.size := own_new (w1 := w) HS.out.1 (Nat.le_refl _)
 have HA : Hid (Keeps (fun _ => False) w W ∧ Blk W w.heap.size [.int .i64 n1, .int .i64 n2, .int .i64 n3, .int .i64 n4, .slice ca L1 cc, .slice pa L2 pc, .slice ha L3 hc] 26 ∧ ¬ Own a b g w.heap.size ∧ N ≤ W.heap.size) := ⟨hKW, hBW, hno, Nat.le_trans HS.out.2.2.1 hKW.size⟩
 have HI : Hid ((⟨n1, n2, n3, n4, ca, cc, cs, pa, pc, ps, ha, hc, hs⟩ : Cfg).In W N) := HS.out.2.2.2.below (hKW.below HS.out.2.2.1 fun _ e => e.elim)
 have hsz : w.heap.size + 1 = W.heap.size := by rw [hW]; simp
 rw [← hW, hsz]
 clear hKW hBW hno hW hsz
 refine (numbers_at (w := W) (w1 := W) W.heap.size [n1, n2, n3, n4] (HS.out.1.kept HA.out.1 fun _ _ e => e) (Keeps.refl _ _) rfl HS.out.2.2.2.ns (by simp) (by omega)).mono ?_
 rintro e w1 ⟨rfl, hP⟩
 obtain ⟨g1, hw1, hg1, hK1⟩ := hP
 have c4 := (HA.out.2.1.kept hK1 HA.out.2.2.1).cell (i := 4) rfl
 have H1 : Hid (Wt w1 a b g1 (xs ++ nbs [n1, n2, n3, n4]) (d || wNs [n1, n2, n3, n4]) ∧ (g1 = g ∨ ∃ k, g1 = some k ∧ W.heap.size ≤ k) ∧ Keeps (Own a b g) W w1) := ⟨hw1, hg1, hK1⟩
 clear hw1 hg1 hK1
 go_wp2_with fail
 have hI1 := HI.out.below (H1.out.2.2.hi HS.out.2.1 HA.out.2.2.2)
 have hH1 : Hi N a b g1 := HS.out.2.1.later (w := W) HA.out.2.2.2 H1.out.2.1
 have HC := writeCores_any a b g1 _ _ ca cc cs w1 H1.out.1 hI1.cseg (fun hn y hy ho => by have := hI1.clo hn y hy; have := hH1.own ho; omega) hI1.clen
  (by rw [List.length_append, nbs_length]; simp only [List.length_cons, List.length_nil]; omega) fun y hy V g' zs d' hK hV hg hz => core_any N a b g' zs d' y V hV (hH1.later (w := w1) (Nat.le_trans HA.out.2.2.2 H1.out.2.2.size) hg) ((hI1.cin y hy).below (hK.hi hH1 (Nat.le_trans HA.out.2.2.2 H1.out.2.2.size))) hz
 rw [HL.out.1] at HC
 refine HC.mono ?_
 rintro e w2 ⟨rfl, hP⟩
 obtain ⟨g2, hw2, hg2, hK2⟩ := Put.trans H1.out.2.1 H1.out.2.2 hP
 have c5 := (HA.out.2.1.kept hK2 HA.out.2.2.1).cell (i := 5) rfl
 have H2 : Hid (Wt w2 a b g2 (xs ++ (nbs [n1, n2, n3, n4] ++ listB Core.e cs)) (d || wNs [n1, n2, n3, n4] || listW Core.d cs) ∧ (g2 = g ∨ ∃ k, g2 = some k ∧ W.heap.size ≤ k) ∧ Keeps (Own a b g) W w2) := ⟨hw2, hg2, hK2⟩
 clear hw2 hg2 hK2 hP c4 H1 HC hI1 hH1
 go_wp2_with fail
 have hI2 := HI.out.below (H2.out.2.2.hi HS.out.2.1 HA.out.2.2.2)
 have hH2 : Hi N a b g2 := HS.out.2.1.later (w := W) HA.out.2.2.2 H2.out.2.1
 have hN2 : N ≤ w2.heap.size := Nat.le_trans HA.out.2.2.2 H2.out.2.2.size
 have HC := writePars_any a b g2 _ _ pa pc ps w2 H2.out.1 hI2.pseg (fun hn y hy ho => by have := hI2.plo hn y hy; have := hH2.own ho; omega) hI2.plen
  (by rw [List.length_append, List.length_append, nbs_length]; have := listB_le _ _ Core.e_le cs; simp only [List.length_cons, List.length_nil]; omega) fun y hy V g' zs d' hK hV hg hz => partition_any N a b g' zs d' y V hV (hH2.later (w := w2) hN2 hg) (Nat.le_trans hN2 hK.size) ((hI2.pin y hy).below (hK.hi hH2 hN2)) hz
 rw [HL.out.2.1] at HC
 refine HC.mono ?_
 rintro e w3 ⟨rfl, hP⟩
 obtain ⟨g3, hw3, hg3, hK3⟩ := Put.trans H2.out.2.1 H2.out.2.2 hP
 have c6 := (HA.out.2.1.kept hK3 HA.out.2.2.1).cell (i := 6) rfl
 have H3 : Hid (Wt w3 a b g3 (xs ++ (nbs [n1, n2, n3, n4] ++ listB Core.e cs ++ listB Par.e ps)) (d || wNs [n1, n2, n3, n4] || listW Core.d cs || listW Par.d ps) ∧ (g3 = g ∨ ∃ k, g3 = some k ∧ W.heap.size ≤ k) ∧ Keeps (Own a b g) W w3) := ⟨hw3, hg3, hK3⟩
 clear hw3 hg3 hK3 hP c5 H2 HC hI2 hH2 hN2
 go_wp2_with fail
 have hI3 := HI.out.below (H3.out.2.2.hi HS.out.2.1 HA.out.2.2.2)
 have hH3 : Hi N a b g3 := HS.out.2.1.later (w := W) HA.out.2.2.2 H3.out.2.1
 have HC := writeChns_any a b g3 _ _ ha hc hs w3 H3.out.1 hI3.hseg (fun hn y hy ho => by have := hI3.hlo hn y hy; have := hH3.own ho; omega) hI3.hlen
  (by rw [List.length_append, List.length_append, List.length_append, nbs_length]; have := listB_le _ _ Core.e_le cs; have := listB_le _ _ Par.e_le ps; simp only [List.length_cons, List.length_nil]; omega) fun y hy V g' zs d' hK hV hg hz => channel_any a b g' zs d' y V hV hz (hI3.hfine y hy)
 rw [HL.out.2.2] at HC
 refine HC.mono ?_
 rintro e w4 ⟨rfl, hP⟩
 have HP4 : Hid (Put w a b g xs w4 (Cfg.e ⟨n1, n2, n3, n4, ca, cc, cs, pa, pc, ps, ha, hc, hs⟩) (d || Cfg.d ⟨n1, n2, n3, n4, ca, cc, cs, pa, pc, ps, ha, hc, hs⟩)) := by
  refine ((Put.trans H3.out.2.1 H3.out.2.2 hP).grown HA.out.1).cong ?_ ?_
  ·
   unfold Cfg.e Cfg.ns; simp only [List.append_assoc]
  ·
   unfold Cfg.d Cfg.ns; simp only [Bool.or_assoc]
 clear hP c6 H3 HC hI3 hH3
 go_wp2
 go_end0
 exact ⟨rfl, HP4.out⟩
end Go.Proofs.YthegceijlfflfaaGreat
namespace Go.Proofs.YthegceijlfflfaaGreat
open Go.RowKit
set_option linter.unusedVariables false
set_option maxRecDepth 6000
theorem Wt.drew {w : World} {a b : Nat} {g : Option Nat} {xs : List UInt8} {d : Bool} (h : Wt w a b g xs d) : Wt w.drew a b g xs d := h.kept ((Keeps.refl (fun _ => False) w).drew) fun _ _ e => e
theorem seg_blk {w : World} {g : Nat} {xs : List UInt8} {t : TypeId} (h : Blk w g (bvs xs) t) : Seg w (some ⟨g, 0, none⟩) xs :=
 .inr ⟨g, 0, rfl, fun j hj => by rw [Nat.zero_add]; exact h.cell (bvs_get xs j hj)⟩
set_option maxHeartbeats 1000000 in
theorem wsum_any (a b : Nat) (g : Option Nat) (xs : List UInt8) (d : Bool) (w : World) (h : Wt w a b g xs d) (hx : xs.length + 4 ≤ 140737488355328) :
  Calls Tryz.prog 12 #[.pointer (some ⟨a, 0, none⟩)] w fun e w' => e = .returned (.tuple #[]) ∧ Put w a b g xs w' (lowB 4 (sumN xs)) d := by
 have HH : Hid (Wt w a b g xs d) := h
 have p0 := h.blk.cell (i := 0) rfl
 clear h
 go_enter Tryz.func12, Tryz.ntmps12
 go_wp2
 go_region_held3 (fun w' => w'.cell? ⟨a, 0, none⟩ = some (.pointer (some ⟨b, 0, none⟩))) (first | exact hS | go_keep)
  (first
   | (go_at_call 14; refine (wOut_any b g xs _ HH.out.drew.wr (by omega)).mono ?_; rintro e w2 ⟨rfl, hB2, hK2⟩; have hS : w2.cell? ⟨a, 0, none⟩ = some (.pointer (some ⟨b, 0, none⟩)) := (HH.out.drew.kept hK2 fun _ _ e => e).blk.cell (i := 0) rfl)
   | (go_at_call 28; refine (sum_any _ _ xs _ (seg_blk hB2) (by unfold maxLen; omega)).mono ?_; rintro e w3 ⟨rfl, rfl⟩)
   | (go_at_call 10; refine (wU32_any b (sumN xs) g xs _ (HH.out.drew.kept hK2 fun _ _ e => e).wr hx (sumN_lt xs)).mono ?_; rintro e w4 ⟨rfl, g4, hW4, hg4, hK4⟩; have hS : w4.cell? ⟨a, 0, none⟩ = some (.pointer (some ⟨b, 0, none⟩)) := ((HH.out.drew.kept hK2 fun _ _ e => e).blk.kept hK4 (fun e => e.elim HH.out.ne fun e => HH.out.ng a e.symm rfl)).cell (i := 0) rfl))
 go_wp2
 go_end0
 have hKd := ((Keeps.refl (fun _ => False) w).drew).trans hK2 fun _ _ e => e
 exact ⟨rfl, (Put.of_bits (HH.out.kept hKd fun _ _ e => e) hW4 hg4 hK4).grown hKd⟩
def markB : List UInt8 := lowB 4 826493762
def body (x : Cfg) : List UInt8 := markB ++ x.e
def form (x : Cfg) : List UInt8 := body x ++ lowB 4 (sumN (body x))
theorem body_le (x : Cfg) : (body x).length ≤ 2221073 := by
 unfold body markB; rw [List.length_append, lowB_len]; have := x.e_le; omega
set_option maxHeartbeats 1000000 in
theorem encode_any (N : Nat) (x : Cfg) (w : World) (hi : x.In w N) (hN : N ≤ w.heap.size) :
  Calls Tryz.prog 4 #[x.v] w fun e w' => Keeps (fun _ => False) w w' ∧ ((x.d = true ∧ e = .returned (.tuple #[.slice none 0 0, .int .i64 112])) ∨ (x.d = false ∧ 16384 < (form x).length ∧ e = .returned (.tuple #[.slice none 0 0, .int .i64 2])) ∨
   (x.d = false ∧ (form x).length ≤ 16384 ∧ ∃ g, w.heap.size ≤ g ∧ Blk w' g (bvs (form x)) 5 ∧ e = .returned (.tuple #[.slice (some ⟨g, 0, none⟩) (form x).length (form x).length, .int .i64 0]))) := by
 have HI : Hid (x.In w N ∧ N ≤ w.heap.size) := ⟨hi, hN⟩
 clear hi hN
 obtain ⟨n1, n2, n3, n4, ca, cc, cs, pa, pc, ps, ha, hc, hs⟩ := x
 obtain ⟨X, hX⟩ : ∃ X : Cfg, X = ⟨n1, n2, n3, n4, ca, cc, cs, pa, pc, ps, ha, hc, hs⟩ := ⟨_, rfl⟩
 rw [← hX] at HI ⊢
 have HX : Hid (X = ⟨n1, n2, n3, n4, ca, cc, cs, pa, pc, ps, ha, hc, hs⟩) := hX
 obtain ⟨L1, hL1⟩ : ∃ L, cs.length = L := ⟨_, rfl⟩
 obtain ⟨L2, hL2⟩ : ∃ L, ps.length = L := ⟨_, rfl⟩
 obtain ⟨L3, hL3⟩ : ∃ L, hs.length = L := ⟨_, rfl⟩
 have hv : X.v = .agg #[.int .i64 n1, .int .i64 n2, .int .i64 n3, .int .i64 n4, .slice ca L1 cc, .slice pa L2 pc, .slice ha L3 hc] := by rw [hX, ← hL1, ← hL2, ← hL3]
 have HV : Hid (X.v = .agg #[.int .i64 n1, .int .i64 n2, .int .i64 n3, .int .i64 n4, .slice ca L1 cc, .slice pa L2 pc, .slice ha L3 hc]) := hv
 rw [hv]
 clear hX hv hL1 hL2 hL3
 go_enter Tryz.func4, Tryz.ntmps4
 go_wp2_with fail
 obtain ⟨W, hW⟩ : ∃ W, W = w.alloc (.cells #[.int .i64 n1, .int .i64 n2, .int .i64 n3, .int .i64 n4, .slice ca L1 cc, .slice pa L2 pc, .slice ha L3 hc] 26) := ⟨_, rfl⟩
 have hKW : Keeps (fun _ => False) w W := by rw [hW]; exact (Keeps.refl _ w).alloc _
 have hBW : Blk W w.heap.size [.int .i64 n1, .int .i64 n2, .int .i64 n3, .int .i64 n4, .slice ca L1 cc, .slice pa L2 pc, .slice ha L3 hc] 26 := by rw [hW]; exact Blk.new w _ _
 have HA : Hid (Keeps (fun _ => False) w W ∧ Blk W w.heap.size [.int .i64 n1, .int .i64 n2, .int .i64 n3, .int .i64 n4, .slice ca L1 cc, .slice pa L2 pc, .slice ha L3 hc] 26) := ⟨hKW, hBW⟩
 rw [← hW]
 clear hKW hBW hW
 refine (confWriter_any W).mono ?_
 rintro e w1 ⟨a, b, rfl, hw1, ha1, hb1, hK1⟩
 have p0 := hw1.blk.cell (i := 0) rfl
 have H1 : Hid (Wt w1 a b none [] false ∧ W.heap.size ≤ a ∧ W.heap.size ≤ b ∧ Keeps (fun _ => False) W w1) := ⟨hw1, ha1, hb1, hK1⟩
 clear hw1 ha1 hb1 hK1
 go_wp2_with fail
 refine (wU32_any b 826493762 none [] w1 H1.out.1.wr (by simp) (by omega)).mono ?_
 rintro e w2 ⟨rfl, g2, hW2, hg2, hK2⟩
 obtain ⟨g3, hw3, hg3, hK3⟩ := Put.of_bits H1.out.1 hW2 hg2 hK2
 have hB3 := (HA.out.2.kept H1.out.2.2.2 fun e => e).kept hK3 (by
  have h1 := H1.out.2.1; have h2 := H1.out.2.2.1; have h3 := HA.out.2.lt
  rintro (e | e | e)
  ·
   omega
  ·
   omega
  ·
   cases e)
 have c0 := hB3.cell (i := 0) rfl
 have c1 := hB3.cell (i := 1) rfl
 have c2 := hB3.cell (i := 2) rfl
 have c3 := hB3.cell (i := 3) rfl
 have c4 := hB3.cell (i := 4) rfl
 have c5 := hB3.cell (i := 5) rfl
 have c6 := hB3.cell (i := 6) rfl
 have H2 : Hid (Wt w2 a b g3 markB false ∧ Hi W.heap.size a b g3 ∧ Keeps (fun _ => False) w w2) := by
  refine ⟨hw3, ⟨H1.out.2.1, H1.out.2.2.1, ?_⟩, (HA.out.1.trans H1.out.2.2.2 fun _ _ e => e).trans hK3 ?_⟩
  ·
   intro k hk
   rcases hg3 with rfl | ⟨m, rfl, hm⟩
   ·
    cases hk
   ·
    cases hk; exact Nat.le_trans H1.out.2.2.2.size hm
  ·
   intro k hk ho
   have h1 := H1.out.2.1; have h2 := H1.out.2.2.1; have := HA.out.1.size
   rcases ho with e | e | e
   ·
    omega
   ·
    omega
   ·
    cases e
 clear p0 H1 hW2 hg2 hK2 hw3 hg3 hK3 hB3
 go_wp2_with fail
 have hNa : Hi N a b g3 := by
  have h1 := H2.out.2.1; have h2 := HI.out.2; have h3 := HA.out.1.size
  exact ⟨by have := h1.1; omega, by have := h1.2.1; omega, fun k hk => by have := h1.2.2 k hk; omega⟩
 have HC := config_any N a b g3 markB false X w2 H2.out.1 hNa (Nat.le_trans HI.out.2 H2.out.2.2.size) (HI.out.1.below (H2.out.2.2.below HI.out.2 fun _ e => e.elim)) (by decide)
 rw [HV.out] at HC
 refine HC.mono ?_
 rintro e w3 ⟨rfl, g4, hw4, hg4, hK4⟩
 have hO : ∀ k, Own a b g3 k → w.heap.size ≤ k := fun k ho => Nat.le_trans HA.out.1.size (H2.out.2.1.own ho)
 have H3 : Hid (Wt w3 a b g4 (body X) X.d ∧ Keeps (fun _ => False) w w3 ∧ ∀ k, Own a b g4 k → w.heap.size ≤ k) := by
  refine ⟨by have := hw4; rw [Bool.false_or] at this; exact this, H2.out.2.2.trans hK4 fun k hk ho => by have := hO k ho; omega, fun k ho => ?_⟩
  by_cases hk : k < w2.heap.size
  ·
   exact hO k (own_back hg4 hk ho)
  ·
   have := H2.out.2.2.size; omega
 have p1 := H3.out.1.blk.cell (i := 1) rfl
 have p0 := H3.out.1.blk.cell (i := 0) rfl
 clear hw4 hg4 hK4 hO hNa HC H2 c0 c1 c2 c3 c4 c5 c6
 cases hd : X.d
 ·
  rw [hd] at p1
  have HD : Hid (X.d = false) := hd
  clear hd
  go_wp2_with fail
  refine (wsum_any a b g4 (body X) X.d w3 H3.out.1 (by have := body_le X; omega)).mono ?_
  rintro e w4 ⟨rfl, g5, hw5, hg5, hK5⟩
  have H4 : Hid (Wt w4 a b g5 (form X) X.d ∧ Keeps (fun _ => False) w w4) := by
   refine ⟨hw5, H3.out.2.1.trans hK5 fun k hk ho => by have := H3.out.2.2 k ho; omega⟩
  have q0 := H4.out.1.blk.cell (i := 0) rfl
  clear hw5 hg5 hK5 p0 p1 H3
  go_wp2_with fail
  refine (wLen_any b g5 (form X) w4 H4.out.1.wr).mono ?_
  rintro e w5 ⟨rfl, hw5⟩
  obtain rfl := hw5.symm
  clear hw5
  obtain ⟨M, hM⟩ : ∃ M, (form X).length = M := ⟨_, rfl⟩
  have HM : Hid ((form X).length = M) := hM
  rw [hM]
  clear hM
  by_cases hl : 16384 < M
  ·
   have hl' : (16384 : Int) < M := by omega
   go_wp2
   go_ret2
   exact ⟨H4.out.2, .inr (.inl ⟨HD.out, by have := HM.out; omega, rfl⟩)⟩
  ·
   have hl' : ¬ (16384 : Int) < M := by omega
   go_wp2_with fail
   refine (wOut_any b g5 (form X) w4 H4.out.1.wr (by have := HM.out; omega)).mono ?_
   rintro e w6 ⟨rfl, hB, hK6⟩
   have H6 : Hid (Keeps (fun _ => False) w w6 ∧ Blk w6 w4.heap.size (bvs (form X)) 5 ∧ w.heap.size ≤ w4.heap.size) := ⟨H4.out.2.trans hK6 fun _ _ e => e, hB, H4.out.2.size⟩
   clear hB hK6 q0 H4
   rw [HM.out]
   go_wp2
   go_ret2
   exact ⟨H6.out.1, .inr (.inr ⟨HD.out, by have := HM.out; omega, _, H6.out.2.2, H6.out.2.1, by rw [HM.out]; rfl⟩)⟩
 ·
  rw [hd] at p1
  have HD : Hid (X.d = true) := hd
  clear hd
  go_wp2
  go_ret2
  exact ⟨H3.out.2.1, .inl ⟨HD.out, rfl⟩⟩
end Go.Proofs.YthegceijlfflfaaGreat
