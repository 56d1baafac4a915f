import Derived.Test.YtmkeccibminnhaaWl
import Derived.Test.YtmkeccibminnhaaWm
import Derived.Test.YtmkeccibminnhaaWn
namespace Go.Proofs.Ytmkeccibminnhaa
open Go.RowKit
set_option linter.unusedVariables false
set_option maxRecDepth 6000

def Hi (N a b : Nat) (g : Option Nat) : Prop := N ≤ a ∧ N ≤ b ∧ ∀ k, g = some k → N ≤ k
theorem Hi.own {N a b : Nat} {g : Option Nat} (h : Hi N a b g) {k : Nat} (hk : Own a b g k) : N ≤ k := by
  rcases hk with rfl | rfl | hk
  · exact h.1
  · exact h.2.1
  · exact h.2.2 k hk.symm
theorem Hi.later {N a b : Nat} {g g' : Option Nat} {w : World} (h : Hi N a b g) (hN : N ≤ w.heap.size) (hg : g' = g ∨ ∃ k, g' = some k ∧ w.heap.size ≤ k) : Hi N a b g' := by
  refine ⟨h.1, h.2.1, fun k hk => ?_⟩
  rcases hg with rfl | ⟨m, rfl, hm⟩
  · exact h.2.2 k hk
  · cases hk; omega

/-- A core lies there, below N. -/
structure Core.In (w : World) (N : Nat) (x : Core) : Prop where
  seg : SegA Win.vs 3 w x.a x.ws
  lo : x.ws ≠ [] → ∀ y, x.a = some y → y.block < N
  len : x.ws.length ≤ x.c ∧ x.c ≤ maxLen
  fine : ∀ y ∈ x.ws, y.Fine
structure Par.In (w : World) (N : Nat) (x : Par) : Prop where
  rseg : SegA Rgn.vs 4 w x.ra x.rs
  rlo : x.rs ≠ [] → ∀ y, x.ra = some y → y.block < N
  rlen : x.rs.length ≤ x.rc ∧ x.rc ≤ maxLen
  rfine : ∀ y ∈ x.rs, y.Fine
  pseg : SegA Prt.vs 2 w x.pa x.ps
  plo : x.ps ≠ [] → ∀ y, x.pa = some y → y.block < N
  plen : x.ps.length ≤ x.pc ∧ x.pc ≤ maxLen
  pfine : ∀ y ∈ x.ps, y.Fine
  ns : ∀ n ∈ x.ns, I64 n
  name : x.name.size ≤ 9223372036854775807
structure Cfg.In (w : World) (N : Nat) (x : Cfg) : Prop where
  cseg : SegA Core.vs 1 w x.ca x.cs
  clo : x.cs ≠ [] → ∀ y, x.ca = some y → y.block < N
  clen : x.cs.length ≤ x.cc ∧ x.cc ≤ maxLen
  cin : ∀ y ∈ x.cs, y.In w N
  pseg : SegA Par.vs 8 w x.pa x.ps
  plo : x.ps ≠ [] → ∀ y, x.pa = some y → y.block < N
  plen : x.ps.length ≤ x.pc ∧ x.pc ≤ maxLen
  pin : ∀ y ∈ x.ps, y.In w N
  hseg : SegA Chn.vs 3 w x.ha x.hs
  hlo : x.hs ≠ [] → ∀ y, x.ha = some y → y.block < N
  hlen : x.hs.length ≤ x.hc ∧ x.hc ≤ maxLen
  hfine : ∀ y ∈ x.hs, y.Fine
  ns : ∀ n ∈ x.ns, I64 n
theorem Core.In.below {w w' : World} {N : Nat} {x : Core} (h : x.In w N) (hK : Below N w w') : x.In w' N := ⟨h.seg.below hK h.lo, h.lo, h.len, h.fine⟩
theorem Par.In.below {w w' : World} {N : Nat} {x : Par} (h : x.In w N) (hK : Below N w w') : x.In w' N := ⟨h.rseg.below hK h.rlo, h.rlo, h.rlen, h.rfine, h.pseg.below hK h.plo, h.plo, h.plen, h.pfine, h.ns, h.name⟩
theorem Cfg.In.below {w w' : World} {N : Nat} {x : Cfg} (h : x.In w N) (hK : Below N w w') : x.In w' N :=
  ⟨h.cseg.below hK h.clo, h.clo, h.clen, fun y hy => (h.cin y hy).below hK, h.pseg.below hK h.plo, h.plo, h.plen, fun y hy => (h.pin y hy).below hK, h.hseg.below hK h.hlo, h.hlo, h.hlen, h.hfine, h.ns⟩
theorem Keeps.hi {w w' : World} {N a b : Nat} {g : Option Nat} (hK : Keeps (Own a b g) w w') (h : Hi N a b g) (hN : N ≤ w.heap.size) : Below N w w' := hK.below hN fun _ hk => h.own hk

set_option maxHeartbeats 400000 in
theorem core_any (N a b : Nat) (g : Option Nat) (xs : List UInt8) (d : Bool) (x : Core) (w : World) (h : Wt w a b g xs d) (hH : Hi N a b g) (hi : x.In w N) (hx : xs.length + 4000 ≤ 140737488355328) :
    Calls Try.prog 35 #[.pointer (some ⟨a, 0, none⟩), x.v] w fun e w' => e = .returned (.tuple #[]) ∧ Put w a b g xs w' x.e (d || x.d) := by
  have HC : Hid (Calls _ _ _ _ _) := writeWins_any a b g xs d x.a x.c x.ws w h hi.seg (fun hn y hy ho => by have := hi.lo hn y hy; have := hH.own ho; omega) hi.len hx fun y hy W g' zs d' hK hW hg hz => window_any a b g' zs d' y W hW hz (hi.fine y hy)
  obtain ⟨ad, c, ws⟩ := x
  obtain ⟨L, hL⟩ : ∃ L, ws.length = L := ⟨_, rfl⟩
  simp only [Core.v]
  simp only [hL] at HC ⊢
  clear h hi hH
  go_enter Try.func35, Try.ntmps35
  go_wp2_with fail
  refine HC.out.mono ?_
  rintro e w1 ⟨rfl, hP⟩
  have HP : Hid (Put w a b g xs w1 _ _) := hP
  clear hP HC
  go_wp2
  go_end0
  exact ⟨rfl, HP.out⟩

set_option maxHeartbeats 1000000 in
theorem partition_any (N a b : Nat) (g : Option Nat) (xs : List UInt8) (d : Bool) (x : Par) (w : World) (h : Wt w a b g xs d) (hH : Hi N a b g) (hN : N ≤ w.heap.size) (hi : x.In w N) (hx : xs.length + 20000 ≤ 140737488355328) :
    Calls Try.prog 37 #[.pointer (some ⟨a, 0, none⟩), x.v] w fun e w' => e = .returned (.tuple #[]) ∧ Put w a b g xs w' x.e (d || x.d) := by
  obtain ⟨s, n1, n2, n3, n4, n5, ra, rc, rs, pa, pc, ps⟩ := x
  have HS : Hid (Wt w a b g xs d ∧ Hi N a b g ∧ N ≤ w.heap.size ∧ (⟨s, n1, n2, n3, n4, n5, ra, rc, rs, pa, pc, ps⟩ : Par).In w N) := ⟨h, hH, hN, hi⟩
  obtain ⟨L1, hL1⟩ : ∃ L, rs.length = L := ⟨_, rfl⟩
  obtain ⟨L2, hL2⟩ : ∃ L, ps.length = L := ⟨_, rfl⟩
  simp only [Par.v, hL1, hL2]
  have HL : Hid (rs.length = L1 ∧ ps.length = L2) := ⟨hL1, hL2⟩
  clear h hH hN hi hL1 hL2
  go_enter Try.func37, Try.ntmps37
  go_wp2_with fail
  obtain ⟨W, hW⟩ : ∃ W, W = w.alloc (.cells #[.string s, .int .i64 n1, .int .i64 n2, .int .i64 n3, .int .i64 n4, .int .i64 n5, .slice ra L1 rc, .slice pa L2 pc] 69) := ⟨_, rfl⟩
  have hKW : Keeps (fun _ => False) w W := by rw [hW]; exact (Keeps.refl _ w).alloc _
  have hBW : Blk W w.heap.size [.string s, .int .i64 n1, .int .i64 n2, .int .i64 n3, .int .i64 n4, .int .i64 n5, .slice ra L1 rc, .slice pa L2 pc] 69 := by rw [hW]; exact Blk.new w _ _
  have hno : ¬ Own a b g w.heap.size := own_new (w1 := w) HS.out.1 (Nat.le_refl _)
  have HA : Hid (Keeps (fun _ => False) w W ∧ Blk W w.heap.size [.string s, .int .i64 n1, .int .i64 n2, .int .i64 n3, .int .i64 n4, .int .i64 n5, .slice ra L1 rc, .slice pa L2 pc] 69 ∧ ¬ Own a b g w.heap.size) := ⟨hKW, hBW, hno⟩
  rw [← hW]
  clear hKW hBW hno
  have hw0 : Wt W a b g xs d := HS.out.1.kept HA.out.1 fun _ _ e => e
  refine (name_any a b g xs d s W hw0 (by omega) HS.out.2.2.2.name).mono ?_
  rintro e w1 ⟨rfl, hP⟩
  have HP1 : Hid (Put W a b g xs w1 (nameB s) (d || nameW s)) := hP
  obtain ⟨g1, hw1, hg1, hK1⟩ := hP
  have hB1 := HA.out.2.1.kept hK1 HA.out.2.2
  have c1 := hB1.cell (i := 1) rfl
  have c2 := hB1.cell (i := 2) rfl
  have c3 := hB1.cell (i := 3) rfl
  have c4 := hB1.cell (i := 4) rfl
  have c5 := hB1.cell (i := 5) rfl
  have H1 : Hid (Wt w1 a b g1 (xs ++ nameB s) (d || nameW s) ∧ (g1 = g ∨ ∃ k, g1 = some k ∧ W.heap.size ≤ k) ∧ Keeps (Own a b g) W w1) := ⟨hw1, hg1, hK1⟩
  clear hw1 hg1 hK1 hB1 hw0 hW
  go_wp2_with fail
  refine (numbers_at (w1 := w1) w1.heap.size [n1, n2, n3, n4, n5] H1.out.1 (Keeps.refl _ _) rfl HS.out.2.2.2.ns (by simp) (by rw [List.length_append]; have := nameB_le s; omega)).mono ?_
  rintro e w2 ⟨rfl, hP⟩
  have HP2 : Hid (Put W a b g xs w2 (nameB s ++ nbs [n1, n2, n3, n4, n5]) (d || nameW s || wNs [n1, n2, n3, n4, n5])) := Put.trans H1.out.2.1 H1.out.2.2 hP
  obtain ⟨g2, hw2, hg2, hK2⟩ := HP2.out
  have c6 := (HA.out.2.1.kept hK2 HA.out.2.2).cell (i := 6) rfl
  have H2 : Hid (Wt w2 a b g2 (xs ++ (nameB s ++ nbs [n1, n2, n3, n4, n5])) (d || nameW s || wNs [n1, n2, n3, n4, n5]) ∧ (g2 = g ∨ ∃ k, g2 = some k ∧ W.heap.size ≤ k) ∧ Keeps (Own a b g) W w2) := ⟨hw2, hg2, hK2⟩
  clear hw2 hg2 hK2 hP c1 c2 c3 c4 c5 H1 HP1
  go_wp2_with fail
  have HHi : Hid (N ≤ W.heap.size ∧ Hi N a b g2) := ⟨Nat.le_trans HS.out.2.2.1 HA.out.1.size, HS.out.2.1.later (w := W) (Nat.le_trans HS.out.2.2.1 HA.out.1.size) H2.out.2.1⟩
  have hI2 : Par.In w2 N ⟨s, n1, n2, n3, n4, n5, ra, rc, rs, pa, pc, ps⟩ := (HS.out.2.2.2.below (HA.out.1.below HS.out.2.2.1 fun _ e => e.elim)).below (H2.out.2.2.hi HS.out.2.1 HHi.out.1)
  have HC := writeRgns_any a b g2 (xs ++ (nameB s ++ nbs [n1, n2, n3, n4, n5])) (d || nameW s || wNs [n1, n2, n3, n4, n5]) ra rc rs w2 H2.out.1 hI2.rseg (fun hn y hy ho => by have := hI2.rlo hn y hy; have := HHi.out.2.own ho; omega) hI2.rlen
    (by rw [List.length_append, List.length_append, nbs_length]; have := nameB_le s; simp only [List.length_cons, List.length_nil]; omega) fun y hy V g' zs d' hK hV hg hz => region_any a b g' zs d' y V hV hz (hI2.rfine y hy)
  rw [HL.out.1] at HC
  refine HC.mono ?_
  rintro e w3 ⟨rfl, hP⟩
  have HP3 : Hid (Put W a b g xs w3 (nameB s ++ nbs [n1, n2, n3, n4, n5] ++ listB Rgn.e rs) (d || nameW s || wNs [n1, n2, n3, n4, n5] || listW Rgn.d rs)) := Put.trans H2.out.2.1 H2.out.2.2 hP
  obtain ⟨g3, hw3, hg3, hK3⟩ := HP3.out
  have c7 := (HA.out.2.1.kept hK3 HA.out.2.2).cell (i := 7) rfl
  have H3 : Hid (Wt w3 a b g3 (xs ++ (nameB s ++ nbs [n1, n2, n3, n4, n5] ++ listB Rgn.e rs)) (d || nameW s || wNs [n1, n2, n3, n4, n5] || listW Rgn.d rs) ∧ (g3 = g ∨ ∃ k, g3 = some k ∧ W.heap.size ≤ k) ∧ Keeps (Own a b g) W w3) := ⟨hw3, hg3, hK3⟩
  clear hw3 hg3 hK3 hP c6 H2 HP2 HC hI2
  go_wp2_with fail
  have hI3 : Par.In w3 N ⟨s, n1, n2, n3, n4, n5, ra, rc, rs, pa, pc, ps⟩ := (HS.out.2.2.2.below (HA.out.1.below HS.out.2.2.1 fun _ e => e.elim)).below (H3.out.2.2.hi HS.out.2.1 HHi.out.1)
  have HHj : Hi N a b g3 := HS.out.2.1.later (w := W) HHi.out.1 H3.out.2.1
  have HC := writePrts_any a b g3 _ _ pa pc ps w3 H3.out.1 hI3.pseg (fun hn y hy ho => by have := hI3.plo hn y hy; have := HHj.own ho; omega) hI3.plen
    (by rw [List.length_append, List.length_append, List.length_append, nbs_length]; have := nameB_le s; have := listB_le _ 16 Rgn.e_le rs; simp only [List.length_cons, List.length_nil]; omega) fun y hy V g' zs d' hK hV hg hz => port_any a b g' zs d' y V hV hz (hI3.pfine y hy)
  rw [HL.out.2] at HC
  refine HC.mono ?_
  rintro e w4 ⟨rfl, hP⟩
  have HP4 : Hid (Put w a b g xs w4 (Par.e ⟨s, n1, n2, n3, n4, n5, ra, rc, rs, pa, pc, ps⟩) (d || Par.d ⟨s, n1, n2, n3, n4, n5, ra, rc, rs, pa, pc, ps⟩)) := by
    refine ((Put.trans H3.out.2.1 H3.out.2.2 hP).grown HA.out.1).cong ?_ ?_
    · unfold Par.e Par.ns; simp only [List.append_assoc]
    · unfold Par.d Par.ns; simp only [Bool.or_assoc]
  clear hP c7 H3 HP3 HC hI3 HHj HHi
  go_wp2
  go_end0
  exact ⟨rfl, HP4.out⟩

set_option maxHeartbeats 1000000 in
theorem config_any (N a b : Nat) (g : Option Nat) (xs : List UInt8) (d : Bool) (x : Cfg) (w : World) (h : Wt w a b g xs d) (hH : Hi N a b g) (hN : N ≤ w.heap.size) (hi : x.In w N) (hx : xs.length + 5000000 ≤ 140737488355328) :
    Calls Try.prog 17 #[.pointer (some ⟨a, 0, none⟩), x.v] w fun e w' => e = .returned (.tuple #[]) ∧ Put w a b g xs w' x.e (d || x.d) := by
  obtain ⟨n1, n2, n3, n4, ca, cc, cs, pa, pc, ps, ha, hc, hs⟩ := x
  have HS : Hid (Wt w a b g xs d ∧ Hi N a b g ∧ N ≤ w.heap.size ∧ (⟨n1, n2, n3, n4, ca, cc, cs, pa, pc, ps, ha, hc, hs⟩ : Cfg).In w N) := ⟨h, hH, hN, hi⟩
  obtain ⟨L1, hL1⟩ : ∃ L, cs.length = L := ⟨_, rfl⟩
  obtain ⟨L2, hL2⟩ : ∃ L, ps.length = L := ⟨_, rfl⟩
  obtain ⟨L3, hL3⟩ : ∃ L, hs.length = L := ⟨_, rfl⟩
  simp only [Cfg.v, hL1, hL2, hL3]
  have HL : Hid (cs.length = L1 ∧ ps.length = L2 ∧ hs.length = L3) := ⟨hL1, hL2, hL3⟩
  clear h hH hN hi hL1 hL2 hL3
  go_enter Try.func17, Try.ntmps17
  go_wp2_with fail
  obtain ⟨W, hW⟩ : ∃ W, W = w.alloc (.cells #[.int .i64 n1, .int .i64 n2, .int .i64 n3, .int .i64 n4, .slice ca L1 cc, .slice pa L2 pc, .slice ha L3 hc] 26) := ⟨_, rfl⟩
  have hKW : Keeps (fun _ => False) w W := by rw [hW]; exact (Keeps.refl _ w).alloc _
  have hBW : Blk W w.heap.size [.int .i64 n1, .int .i64 n2, .int .i64 n3, .int .i64 n4, .slice ca L1 cc, .slice pa L2 pc, .slice ha L3 hc] 26 := by rw [hW]; exact Blk.new w _ _
  have hno : ¬ Own a b g w.heap.size := own_new (w1 := w) HS.out.1 (Nat.le_refl _)
  have HA : Hid (Keeps (fun _ => False) w W ∧ Blk W w.heap.size [.int .i64 n1, .int .i64 n2, .int .i64 n3, .int .i64 n4, .slice ca L1 cc, .slice pa L2 pc, .slice ha L3 hc] 26 ∧ ¬ Own a b g w.heap.size ∧ N ≤ W.heap.size) := ⟨hKW, hBW, hno, Nat.le_trans HS.out.2.2.1 hKW.size⟩
  have HI : Hid ((⟨n1, n2, n3, n4, ca, cc, cs, pa, pc, ps, ha, hc, hs⟩ : Cfg).In W N) := HS.out.2.2.2.below (hKW.below HS.out.2.2.1 fun _ e => e.elim)
  have hsz : w.heap.size + 1 = W.heap.size := by rw [hW]; simp
  rw [← hW, hsz]
  clear hKW hBW hno hW hsz
  refine (numbers_at (w := W) (w1 := W) W.heap.size [n1, n2, n3, n4] (HS.out.1.kept HA.out.1 fun _ _ e => e) (Keeps.refl _ _) rfl HS.out.2.2.2.ns (by simp) (by omega)).mono ?_
  rintro e w1 ⟨rfl, hP⟩
  obtain ⟨g1, hw1, hg1, hK1⟩ := hP
  have c4 := (HA.out.2.1.kept hK1 HA.out.2.2.1).cell (i := 4) rfl
  have H1 : Hid (Wt w1 a b g1 (xs ++ nbs [n1, n2, n3, n4]) (d || wNs [n1, n2, n3, n4]) ∧ (g1 = g ∨ ∃ k, g1 = some k ∧ W.heap.size ≤ k) ∧ Keeps (Own a b g) W w1) := ⟨hw1, hg1, hK1⟩
  clear hw1 hg1 hK1
  go_wp2_with fail
  have hI1 := HI.out.below (H1.out.2.2.hi HS.out.2.1 HA.out.2.2.2)
  have hH1 : Hi N a b g1 := HS.out.2.1.later (w := W) HA.out.2.2.2 H1.out.2.1
  have HC := writeCores_any a b g1 _ _ ca cc cs w1 H1.out.1 hI1.cseg (fun hn y hy ho => by have := hI1.clo hn y hy; have := hH1.own ho; omega) hI1.clen
    (by rw [List.length_append, nbs_length]; simp only [List.length_cons, List.length_nil]; omega) fun y hy V g' zs d' hK hV hg hz => core_any N a b g' zs d' y V hV (hH1.later (w := w1) (Nat.le_trans HA.out.2.2.2 H1.out.2.2.size) hg) ((hI1.cin y hy).below (hK.hi hH1 (Nat.le_trans HA.out.2.2.2 H1.out.2.2.size))) hz
  rw [HL.out.1] at HC
  refine HC.mono ?_
  rintro e w2 ⟨rfl, hP⟩
  obtain ⟨g2, hw2, hg2, hK2⟩ := Put.trans H1.out.2.1 H1.out.2.2 hP
  have c5 := (HA.out.2.1.kept hK2 HA.out.2.2.1).cell (i := 5) rfl
  have H2 : Hid (Wt w2 a b g2 (xs ++ (nbs [n1, n2, n3, n4] ++ listB Core.e cs)) (d || wNs [n1, n2, n3, n4] || listW Core.d cs) ∧ (g2 = g ∨ ∃ k, g2 = some k ∧ W.heap.size ≤ k) ∧ Keeps (Own a b g) W w2) := ⟨hw2, hg2, hK2⟩
  clear hw2 hg2 hK2 hP c4 H1 HC hI1 hH1
  go_wp2_with fail
  have hI2 := HI.out.below (H2.out.2.2.hi HS.out.2.1 HA.out.2.2.2)
  have hH2 : Hi N a b g2 := HS.out.2.1.later (w := W) HA.out.2.2.2 H2.out.2.1
  have hN2 : N ≤ w2.heap.size := Nat.le_trans HA.out.2.2.2 H2.out.2.2.size
  have HC := writePars_any a b g2 _ _ pa pc ps w2 H2.out.1 hI2.pseg (fun hn y hy ho => by have := hI2.plo hn y hy; have := hH2.own ho; omega) hI2.plen
    (by rw [List.length_append, List.length_append, nbs_length]; have := listB_le _ _ Core.e_le cs; simp only [List.length_cons, List.length_nil]; omega) fun y hy V g' zs d' hK hV hg hz => partition_any N a b g' zs d' y V hV (hH2.later (w := w2) hN2 hg) (Nat.le_trans hN2 hK.size) ((hI2.pin y hy).below (hK.hi hH2 hN2)) hz
  rw [HL.out.2.1] at HC
  refine HC.mono ?_
  rintro e w3 ⟨rfl, hP⟩
  obtain ⟨g3, hw3, hg3, hK3⟩ := Put.trans H2.out.2.1 H2.out.2.2 hP
  have c6 := (HA.out.2.1.kept hK3 HA.out.2.2.1).cell (i := 6) rfl
  have H3 : Hid (Wt w3 a b g3 (xs ++ (nbs [n1, n2, n3, n4] ++ listB Core.e cs ++ listB Par.e ps)) (d || wNs [n1, n2, n3, n4] || listW Core.d cs || listW Par.d ps) ∧ (g3 = g ∨ ∃ k, g3 = some k ∧ W.heap.size ≤ k) ∧ Keeps (Own a b g) W w3) := ⟨hw3, hg3, hK3⟩
  clear hw3 hg3 hK3 hP c5 H2 HC hI2 hH2 hN2
  go_wp2_with fail
  have hI3 := HI.out.below (H3.out.2.2.hi HS.out.2.1 HA.out.2.2.2)
  have hH3 : Hi N a b g3 := HS.out.2.1.later (w := W) HA.out.2.2.2 H3.out.2.1
  have HC := writeChns_any a b g3 _ _ ha hc hs w3 H3.out.1 hI3.hseg (fun hn y hy ho => by have := hI3.hlo hn y hy; have := hH3.own ho; omega) hI3.hlen
    (by rw [List.length_append, List.length_append, List.length_append, nbs_length]; have := listB_le _ _ Core.e_le cs; have := listB_le _ _ Par.e_le ps; simp only [List.length_cons, List.length_nil]; omega) fun y hy V g' zs d' hK hV hg hz => channel_any a b g' zs d' y V hV hz (hI3.hfine y hy)
  rw [HL.out.2.2] at HC
  refine HC.mono ?_
  rintro e w4 ⟨rfl, hP⟩
  have HP4 : Hid (Put w a b g xs w4 (Cfg.e ⟨n1, n2, n3, n4, ca, cc, cs, pa, pc, ps, ha, hc, hs⟩) (d || Cfg.d ⟨n1, n2, n3, n4, ca, cc, cs, pa, pc, ps, ha, hc, hs⟩)) := by
    refine ((Put.trans H3.out.2.1 H3.out.2.2 hP).grown HA.out.1).cong ?_ ?_
    · unfold Cfg.e Cfg.ns; simp only [List.append_assoc]
    · unfold Cfg.d Cfg.ns; simp only [Bool.or_assoc]
  clear hP c6 H3 HC hI3 hH3
  go_wp2
  go_end0
  exact ⟨rfl, HP4.out⟩
end Go.Proofs.Ytmkeccibminnhaa
