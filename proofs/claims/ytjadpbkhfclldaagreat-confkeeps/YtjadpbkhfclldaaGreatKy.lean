import Derived.Test.YtjadpbkhfclldaaGreatKx
namespace Go.Proofs.YtjadpbkhfclldaaGreat
open Go.RowKit
set_option linter.unusedVariables false
set_option linter.unusedSimpArgs false
set_option maxRecDepth 6000

theorem cfgV_eq {lo : Nat} {w : World} {O : Nat → Nat → ObG} (hF : FamO lo w O) (y : Cfg) : cfgV y O = (cfgO y O).v := by
  unfold cfgV
  rw [(hF.ad 0 0).1, (hF.ad 0 2).1, (hF.ad 0 5).1, cut_slice, cut_slice, cut_slice]
  simp [cfgO, Cfg.v]

/-- While a configuration is copied; ov: what stands in the new one. -/
structure CI (w : World) (x : Cfg) (C A Z lo N : Nat) (ov : List Value) (O : Nat → Nat → ObG) (wr : World) : Prop where
  cfg : Blk wr C x.vs 26
  res : Blk wr A zCfg 26
  out : Blk wr Z ov 26
  fam : FamO lo wr O
  keeps : Keeps (fun _ => False) w wr
  cin : x.In wr N
  nn : N ≤ w.heap.size
  ord : w.heap.size ≤ C ∧ C < A ∧ A < Z ∧ Z < lo
section
variable {w : World} {x : Cfg} {C A Z lo N : Nat} {ov : List Value} {O O' : Nat → Nat → ObG} {wr W : World}
theorem CI.kept (h : CI w x C A Z lo N ov O wr) (hK : Keeps (fun _ => False) wr W) : CI w x C A Z lo N ov O W :=
  ⟨h.cfg.kept hK fun h => h, h.res.kept hK fun h => h, h.out.kept hK fun h => h, h.fam.kept hK fun _ _ _ _ h => h, h.keeps.trans hK fun _ _ h => h, h.cin.keeps (Nat.le_trans h.nn h.keeps.size) hK, h.nn, h.ord⟩
theorem CI.inner (h : CI w x C A Z lo N ov O wr) (hF : FamO lo W O') (hK : Keeps (fun k => lo ≤ k) wr W) : CI w x C A Z lo N ov O' W := by
  have ho := h.ord
  refine ⟨h.cfg.kept hK (by omega), h.res.kept hK (by omega), h.out.kept hK (by omega), hF, h.keeps.trans hK fun b hb e => by omega, h.cin.below (hK.below (Nat.le_trans h.nn h.keeps.size) fun b e => by have := h.nn; omega), h.nn, h.ord⟩
theorem CI.put (h : CI w x C A Z lo N ov O wr) (hF : FamO lo W O') (hK : Keeps (fun k => lo ≤ k) wr W) (b : Nat) (v : Value) : CI w x C A Z lo N (ov.set b v) O' (W.setCell ⟨Z, b, none⟩ v) := by
  have ho := h.ord
  have hK2 : Keeps (fun k => k = Z) W (W.setCell ⟨Z, b, none⟩ v) := (Keeps.refl _ W).setCell ⟨Z, b, none⟩ v fun _ => rfl
  have hK3 : Keeps (fun k => k = Z ∨ lo ≤ k) wr (W.setCell ⟨Z, b, none⟩ v) := (hK.mono fun _ _ h => .inr h).trans hK2 fun _ _ h => .inl h
  have hR := (h.out.kept hK (by omega)).setCell b v
  refine ⟨h.cfg.kept hK3 (by omega), h.res.kept hK3 (by omega), hR, hF.keptLo hK2 fun k e => by omega, h.keeps.trans hK3 fun b hb e => by omega, h.cin.below (hK3.below (Nat.le_trans h.nn h.keeps.size) fun b e => by have := h.nn; omega), h.nn, h.ord⟩
theorem CI.cells (h : CI w x C A Z lo N ov O wr) (b : Nat) (v : Value) (hv : ov[b]? = some v) (hK : Keeps (fun k => lo ≤ k) wr W) : wr.cell? ⟨Z, b, none⟩ = some v ∧ W.cell? ⟨Z, b, none⟩ = some v ∧ W.frozen? ⟨Z, b, none⟩ = false := by
  have ho := h.ord
  have hB := h.out.kept hK (by omega)
  exact ⟨h.out.cell hv, hB.cell hv, hB.frozen b⟩
end
abbrev ovC (x : Cfg) (a b c : Value) : List Value := [.int .i64 x.frames, .int .i64 x.major, .int .i64 x.kernel, .int .i64 x.room, a, b, c]

def CopR (x : Cfg) (w : World) (e : Ending) (w' : World) : Prop := ∃ O lo, e = .returned (cfgO x O).v ∧ FamO lo w' O ∧ CQ x x.cs.length x.ps.length x.hs O ∧ w.heap.size ≤ lo ∧ Keeps (fun _ => False) w w'

set_option maxHeartbeats 16000000 in
theorem CopiedR_any (x : Cfg) (w : World) (N : Nat) (hi : x.In w N) (hN : N ≤ w.heap.size) (hb : Bnd x) : Calls Tryz.prog 6 #[x.v] w (CopR x w) := by
  have HB : Hid (Bnd x) := hb
  obtain ⟨W0, hW0⟩ : ∃ W0, W0 = ((x.laid w).alloc (.cells zCfg.toArray 26)).alloc (.cells x.vs.toArray 26) := ⟨_, rfl⟩
  obtain ⟨C, hC⟩ : ∃ C, C = w.heap.size := ⟨_, rfl⟩
  obtain ⟨A, hA⟩ : ∃ A, A = w.heap.size + 1 := ⟨_, rfl⟩
  obtain ⟨Z, hZ⟩ : ∃ Z, Z = w.heap.size + 1 + 1 := ⟨_, rfl⟩
  obtain ⟨lo, hlo⟩ : ∃ lo, lo = W0.heap.size := ⟨_, rfl⟩
  have hI0 : CI w x C A Z lo N x.vs (fun _ _ => ObG.nil) W0 := by
    have b1 := Blk.new w x.vs.toArray 26
    have b2 := Blk.new (x.laid w) zCfg.toArray 26
    have b3 := Blk.new ((x.laid w).alloc (.cells zCfg.toArray 26)) x.vs.toArray 26
    have k1 : Keeps (fun _ => False) w W0 := by rw [hW0]; exact (((Keeps.refl _ _).alloc _).alloc _).alloc _
    have hs : W0.heap.size = w.heap.size + 3 := by rw [hW0]; simp [Cfg.laid]
    refine ⟨?_, ?_, ?_, by rw [hlo]; exact Fam.start _ _, k1, hi.keeps hN k1, hN, by omega⟩
    · rw [hW0, hC]; exact (b1.alloc _).alloc _
    · rw [hW0, hA]; have := b2.alloc (.cells x.vs.toArray 26); simpa [Cfg.laid] using this
    · rw [hW0, hZ]; simpa [Cfg.laid] using b3
  obtain ⟨W, hW⟩ : ∃ W, W = W0.setCell ⟨Z, 4, none⟩ (.slice none 0 0) := ⟨_, rfl⟩
  have HI0 : Hid (CI w x C A Z lo N (ovC x (.slice none 0 0) (.slice x.pa x.ps.length x.pc) (.slice x.ha x.hs.length x.hc)) (fun _ _ => ObG.nil) W) := by
    rw [hW]; exact hI0.put hI0.fam (Keeps.refl _ _) 4 _
  have HR0 : Hid (CQ x 0 0 [] (fun _ _ => ObG.nil)) := CQ.start x
  have a0 := hI0.cfg.cell (i := 0) rfl
  obtain ⟨L, hL⟩ : ∃ L, x.cs.length = L := ⟨_, rfl⟩
  have HL : Hid (x.cs.length = L) := hL
  have z4 := hI0.out.cell (i := 4) rfl
  have z4f := hI0.out.frozen 4
  have c4 : W.cell? ⟨C, 4, none⟩ = some (.slice x.ca L x.cc) := by rw [← hL]; exact HI0.out.cfg.cell (i := 4) rfl
  clear hi hN hb hlo hL a0 hI0
  unfold Cfg.laid at hW0
  simp only [zCfg] at hW0
  go_enter Tryz.func6, Tryz.ntmps6
  go_upto_region 2 with fail
  rw [← hW0, ← hZ, ← hA, ← hC]
  clear hW0 hZ hA hC
  go_upto_region 3 with fail
  rw [← hW]
  clear hW z4 z4f
  have hLz : (L : Int) ≤ 2147483647 := by have := HB.out.cs; rw [HL.out] at this; omega
  go_wp2
  clear c4
  go_loopw [15] (fun i wr => ∃ (j : Nat) (O : Nat → Nat → ObG), j ≤ L ∧ i = .int .i64 j ∧ CI w x C A Z lo N (ovC x (O 0 0).u (.slice x.pa x.ps.length x.pc) (.slice x.ha x.hs.length x.hc)) O wr ∧ CQ x j 0 [] O ∧ O 0 2 = ObG.nil ∧ O 0 5 = ObG.nil) (fun i _ => L - (intOf i).toNat)
  case atStart => exact ⟨0, _, by omega, rfl, HI0.out, HR0.out, rfl, rfl⟩
  case round =>
    obtain ⟨j, O, hj, rfl, hI, hP, hz2, hz5⟩ := hrel
    clear HI0 HR0
    have c4 : wr.cell? ⟨C, 4, none⟩ = some (.slice x.ca L x.cc) := by have := hI.cfg.cell (i := 4) rfl; rw [HL.out] at this; exact this
    by_cases hlt : j < L
    · obtain ⟨X, hX⟩ : ∃ X, x.cs[j]? = some X := ⟨_, List.getElem?_eq_getElem (by have := HL.out; omega)⟩
      obtain ⟨g0, o0, e0, p0⟩ := hI.cin.core hX
      have hXi := hI.cin.cin X (List.mem_of_getElem? hX)
      have hXb := HB.out.ws X (List.mem_of_getElem? hX)
      rw [e0] at c4
      obtain ⟨v0, W1, happ, hown, hfr, hK⟩ := copy_own eWin plainWin 43 _ 24 Tryz.underlying43 Tryz.inf40 rfl (by omega) X.a X.ws X.c hXi.seg (by omega)
      obtain ⟨XL, hXL⟩ : ∃ XL, X.ws.length = XL := ⟨_, rfl⟩
      have hO1 : O 1 j = ObG.nil := hP.z1 j (Nat.le_refl _)
      have hF1 : FamO lo W1 (updG O 1 j ⟨v0, XL, X.ws.flatMap Win.vs⟩) := hI.fam.grow 1 j (by rw [← hXL]; exact hown) (.inr hfr) (hK.mono fun _ _ h => h.elim)
      have hI1 := hI.inner hF1 (hK.mono fun _ _ h => h.elim)
      obtain ⟨d, cp, ev, _, _⟩ := hF1.form 1 j
      rw [updG_self] at ev
      dsimp only at ev
      subst ev
      rw [hXL] at happ
      have HAP : Hid (∀ ty, (Builtin.append_ #[43, 43] ty #[.slice none 0 0, .slice X.a XL X.c]).run Tryz.prog wr = .ok (.slice d XL cp) W1) := happ
      obtain ⟨O1, hO1'⟩ : ∃ O1, O1 = updG O 1 j ⟨.slice d XL cp, XL, X.ws.flatMap Win.vs⟩ := ⟨_, rfl⟩
      rw [← hO1'] at hF1 hI1
      have e00 : O1 0 0 = O 0 0 := by rw [hO1']; exact upd01 _ _ _ _
      have hn0 : (O1 0 0).n = j := by rw [e00]; exact hP.c0n
      obtain ⟨d0, q0, eu0, _, _⟩ := hF1.form 0 0
      obtain ⟨v3, W3, hr, hF, hfr3, hK3⟩ := app_row hF1 0 rfl d XL cp (by rw [hn0]; omega)
      have kl3 := keeps_lo hF1 0 0 hK3
      obtain ⟨r4, s4, f4⟩ := hI1.cells 4 _ rfl kl3
      have hI3 := hI1.put hF kl3 4 v3
      rw [hn0] at hF hI3 eu0
      obtain ⟨d3, p3, eu3, _, _⟩ := hF.form 0 0
      rw [updG_self] at eu3
      dsimp only at eu3
      subst eu3
      rw [e00] at eu0
      rw [eu0] at r4 s4
      rw [e00, eu0] at hr
      obtain ⟨X3, hX3⟩ : ∃ X3, X3 = W3.setCell ⟨Z, 4, none⟩ (.slice d3 (j + 1) p3) := ⟨_, rfl⟩
      rw [← hX3] at hI3
      have HAP2 : Hid (∀ ty, (Builtin.append_ #[22, 22] ty #[.slice d0 j q0, .slice (some ⟨W1.heap.size, 0, none⟩) 1 1]).run Tryz.prog (W1.alloc (.cells #[.slice d XL cp] 43)) = .ok (.slice d3 (j + 1) p3) W3) := hr
      have HN : Hid (CI w x C A Z lo N (ovC x (updG O1 0 0 ⟨.slice d3 (j + 1) p3, j + 1, (O1 0 0).xs ++ [.slice d XL cp]⟩ 0 0).u (.slice x.pa x.ps.length x.pc) (.slice x.ha x.hs.length x.hc)) (updG O1 0 0 ⟨.slice d3 (j + 1) p3, j + 1, (O1 0 0).xs ++ [.slice d XL cp]⟩) X3 ∧ CQ x (j + 1) 0 [] (updG O1 0 0 ⟨.slice d3 (j + 1) p3, j + 1, (O1 0 0).xs ++ [.slice d XL cp]⟩) ∧ j < L ∧ updG O1 0 0 ⟨.slice d3 (j + 1) p3, j + 1, (O1 0 0).xs ++ [.slice d XL cp]⟩ 0 2 = ObG.nil ∧ updG O1 0 0 ⟨.slice d3 (j + 1) p3, j + 1, (O1 0 0).xs ++ [.slice d XL cp]⟩ 0 5 = ObG.nil) := by
        refine ⟨?_, ?_, hlt, by rw [updG_ne _ _ (by omega), hO1', upd01]; exact hz2, by rw [updG_ne _ _ (by omega), hO1', upd01]; exact hz5⟩
        · rw [updG_self]; exact hI3
        · have hw := wsO_some hX
          have := hP.core (l := ⟨.slice d XL cp, XL, X.ws.flatMap Win.vs⟩) (uC := .slice d3 (j + 1) p3) (by rw [hw, hXL]) (by rw [hw])
          rw [hP.c0n] at this
          rw [e00, hO1']
          exact this
      dsimp only [Core.v] at p0
      rw [hXL] at p0 hXb
      have hXz : (XL : Int) ≤ 2147483647 := by omega
      have hjz : (j : Int) < L := by omega
      clear happ hown hfr hK hF1 hI1 hI hP hX hXL hXi e0 hO1 hO1' hr hF hfr3 hK3 kl3 hI3 hn0 e00 eu0 hlt hj hz2 hz5
      go_wp2_with (at_builtin; go_must (refine wpList_append_run rfl (.tmp 18) (.tmp 23) 43 43 rfl (Value.slice none 0 0) (.slice X.a XL X.c) (.slice d XL cp) W1 rfl rfl HAP.out ?_; refine Hid.out ?_))
      unfold Hid
      clear c4 p0 HAP
      go_wp2_with (at_builtin; go_must (refine wpList_append_run rfl (.tmp 26) (.tmp 28) 22 22 rfl (.slice d0 j q0) (.slice (some ⟨W1.heap.size, 0, none⟩) 1 1) (.slice d3 (j + 1) p3) W3 rfl rfl HAP2.out ?_; refine Hid.out ?_))
      unfold Hid
      clear r4 HAP2
      go_upto_region 9 with fail
      rw [← hX3]
      clear hX3 s4 f4
      go_wp2
      go_roundw
      case rel => exact ⟨j + 1, _, by have := HN.out.2.2.1; omega, by go_num, HN.out.1, HN.out.2.1, HN.out.2.2.2⟩
      case measure => have := HN.out.2.2.1; simp [intOf]; omega
    · obtain rfl : L = j := by omega
      obtain ⟨PL, hPL⟩ : ∃ PL, x.ps.length = PL := ⟨_, rfl⟩
      have HPL : Hid (x.ps.length = PL) := hPL
      obtain ⟨W5, hW5⟩ : ∃ W5, W5 = wr.setCell ⟨Z, 5, none⟩ (.slice none 0 0) := ⟨_, rfl⟩
      have hI5 := hI.put hI.fam (Keeps.refl _ _) 5 (.slice none 0 0)
      rw [← hW5] at hI5
      have z5 : wr.cell? ⟨Z, 5, none⟩ = some (.slice x.pa PL x.pc) := by have := hI.out.cell (i := 5) rfl; rw [hPL] at this; exact this
      have z5f := hI.out.frozen 5
      have c5 : W5.cell? ⟨C, 5, none⟩ = some (.slice x.pa PL x.pc) := by have := hI5.cfg.cell (i := 5) rfl; rw [hPL] at this; exact this
      have HI0 : Hid (CI w x C A Z lo N (ovC x (O 0 0).u (O 0 2).u (.slice x.ha x.hs.length x.hc)) O W5 ∧ CQ x L 0 [] O ∧ O 0 5 = ObG.nil) := ⟨by rw [hz2]; exact hI5, hP, hz5⟩
      have hPz : (PL : Int) ≤ 2147483647 := by have := HB.out.ps; rw [hPL] at this; omega
      clear hI hP hPL hlt hj hI5 hz2 hz5
      go_upto_region 11 with fail
      rw [← hW5]
      clear hW5 z5 z5f c4
      go_wp2
      clear c5
      go_loopw [36] (fun i wr => ∃ (K : Nat) (O : Nat → Nat → ObG), K ≤ PL ∧ i = .int .i64 K ∧ CI w x C A Z lo N (ovC x (O 0 0).u (O 0 2).u (.slice x.ha x.hs.length x.hc)) O wr ∧ CQ x L K [] O ∧ O 0 5 = ObG.nil) (fun i _ => PL - (intOf i).toNat)
      case atStart => exact ⟨0, O, by omega, rfl, HI0.out⟩
      case round =>
        clear HI0
        obtain ⟨K, O, hj, rfl, hI, hP, hz5⟩ := hrel
        have c5 : wr.cell? ⟨C, 5, none⟩ = some (.slice x.pa PL x.pc) := by have := hI.cfg.cell (i := 5) rfl; rw [HPL.out] at this; exact this
        by_cases hlt : K < PL
        · obtain ⟨P, hPP⟩ : ∃ P, x.ps[K]? = some P := ⟨_, List.getElem?_eq_getElem (by have := HPL.out; omega)⟩
          obtain ⟨g0, o0, e0, hc⟩ := hI.cin.pseg.at hPP
          rw [e0] at c5
          have p0 := hc 0 _ rfl
          rw [Nat.add_zero] at p0
          have p1 := hc 1 _ rfl
          have p2 := hc 2 _ rfl
          have p3 := hc 3 _ rfl
          have p4 := hc 4 _ rfl
          have p5 := hc 5 _ rfl
          have p6 := hc 6 _ rfl
          have p7 := hc 7 _ rfl
          obtain ⟨QL, hQL⟩ : ∃ QL, P.ps.length = QL := ⟨_, rfl⟩
          obtain ⟨RL, hRL⟩ : ∃ RL, P.rs.length = RL := ⟨_, rfl⟩
          rw [hQL] at p7
          rw [hRL] at p6
          obtain ⟨U1, hU1⟩ : ∃ U1, U1 = wr.alloc (.cells #[.string P.name, .int .i64 P.entry, .int .i64 P.action, .int .i64 P.restarts, .int .i64 P.inputs, .int .i64 P.outputs, .slice P.ra RL P.rc, .slice P.pa QL P.pc] 47) := ⟨_, rfl⟩
          obtain ⟨Q, hQ⟩ : ∃ Q, Q = wr.heap.size := ⟨_, rfl⟩
          have hB1 : Blk U1 Q (parV P (.slice P.ra RL P.rc) (.slice P.pa QL P.pc)) 47 := by rw [hU1, hQ]; exact Blk.new _ _ _
          have kU1 : Keeps (fun _ => False) wr U1 := by rw [hU1]; exact (Keeps.refl _ _).alloc _
          have hI1 := hI.kept kU1
          have hOut1 : Out U1 O Q := hI.fam.outNew kU1 (by omega) hB1.lt
          have hPi1 := hI1.cin.pin P (List.mem_of_getElem? hPP)
          obtain ⟨v1, U2, happ, hown, hfr, kU2⟩ := copy_own eRgn plainRgn 44 _ 32 Tryz.underlying44 Tryz.inf78 rfl (by omega) P.ra P.rs P.rc hPi1.rseg (by have := HB.out.rs P (List.mem_of_getElem? hPP); omega)
          have hO2 : O 2 K = ObG.nil := hP.z2 K (Nat.le_refl _)
          have hO3 : O 3 K = ObG.nil := hP.z3 K (Nat.le_refl _)
          have hF2 : FamO lo U2 (updG O 2 K ⟨v1, RL, P.rs.flatMap Rgn.vs⟩) := hI1.fam.grow 2 K (by rw [← hRL]; exact hown) (.inr hfr) (kU2.mono fun _ _ h => h.elim)
          have hI2 := hI1.inner hF2 (kU2.mono fun _ _ h => h.elim)
          have hOut2 : Out U2 (updG O 2 K ⟨v1, RL, P.rs.flatMap Rgn.vs⟩) Q := hOut1.grow 2 K (.inr hfr) kU2.size
          have hB2 := hB1.kept kU2 fun h => h
          obtain ⟨d, cp, ev, _, _⟩ := hF2.form 2 K
          rw [updG_self] at ev
          dsimp only at ev
          subst ev
          obtain ⟨U3, hU3⟩ : ∃ U3, U3 = U2.setCell ⟨Q, 6, none⟩ (.slice d RL cp) := ⟨_, rfl⟩
          have kU3 : Keeps (fun k => k = Q) U2 U3 := by rw [hU3]; exact (Keeps.refl _ _).setCell ⟨Q, 6, none⟩ _ fun _ => rfl
          have hB3 : Blk U3 Q (parV P (.slice d RL cp) (.slice P.pa QL P.pc)) 47 := by rw [hU3]; exact hB2.setCell 6 _
          have hlQ : lo ≤ Q := by have := hI.fam.siz; omega
          have hF3 := hF2.kept kU3 fun a b k hk e => hOut2.2 a b (by rw [← e]; exact hk)
          have hI3 := hI2.inner hF3 (kU3.mono fun k _ e => by omega)
          have hOut3 := hOut2.ge kU3.size
          have hPi3 := hI3.cin.pin P (List.mem_of_getElem? hPP)
          obtain ⟨v2, U4, happ2, hown2, hfr2, kU4⟩ := copy_own ePrt plainPrt 45 _ 16 Tryz.underlying45 Tryz.inf80 rfl (by omega) P.pa P.ps P.pc hPi3.pseg (by have := HB.out.qs P (List.mem_of_getElem? hPP); omega)
          have hF4 : FamO lo U4 (updG (updG O 2 K ⟨.slice d RL cp, RL, P.rs.flatMap Rgn.vs⟩) 3 K ⟨v2, QL, P.ps.flatMap Prt.vs⟩) := hF3.grow 3 K (by rw [← hQL]; exact hown2) (.inr hfr2) (kU4.mono fun _ _ h => h.elim)
          have hI4 := hI3.inner hF4 (kU4.mono fun _ _ h => h.elim)
          have hOut4 := hOut3.grow (W := U4) (n' := QL) (ys := P.ps.flatMap Prt.vs) 3 K (.inr hfr2) kU4.size
          have hB4 := hB3.kept kU4 fun h => h
          obtain ⟨d', cp', ev, _, _⟩ := hF4.form 3 K
          rw [updG_self] at ev
          dsimp only at ev
          subst ev
          obtain ⟨U5, hU5⟩ : ∃ U5, U5 = U4.setCell ⟨Q, 7, none⟩ (.slice d' QL cp') := ⟨_, rfl⟩
          have kU5 : Keeps (fun k => k = Q) U4 U5 := by rw [hU5]; exact (Keeps.refl _ _).setCell ⟨Q, 7, none⟩ _ fun _ => rfl
          have hB5 : Blk U5 Q (parV P (.slice d RL cp) (.slice d' QL cp')) 47 := by rw [hU5]; exact hB4.setCell 7 _
          have hF5 := hF4.kept kU5 fun a b k hk e => hOut4.2 a b (by rw [← e]; exact hk)
          have hI5 := hI4.inner hF5 (kU5.mono fun k _ e => by omega)
          obtain ⟨O1, hO1⟩ : ∃ O1, O1 = updG (updG O 2 K ⟨.slice d RL cp, RL, P.rs.flatMap Rgn.vs⟩) 3 K ⟨.slice d' QL cp', QL, P.ps.flatMap Prt.vs⟩ := ⟨_, rfl⟩
          rw [← hO1] at hF5 hI5
          have e1 : ∀ b, O1 0 b = O 0 b := fun b => by rw [hO1, updG_ne _ _ (by omega), updG_ne _ _ (by omega)]
          have hn2 : (O1 0 2).n = K := by rw [e1]; exact hP.c2n
          obtain ⟨u2, t2, eu2, _, _⟩ := hF5.form 0 2
          obtain ⟨v6, W6, hr6, hF6, hfr6, hK6⟩ := app_par hF5 P.name P.entry P.action P.restarts P.inputs P.outputs d RL cp d' QL cp' (by rw [hn2]; omega)
          have kl6 := keeps_lo hF5 0 2 hK6
          obtain ⟨r5, s5, f5⟩ := hI5.cells 5 _ rfl kl6
          have hI6 := hI5.put hF6 kl6 5 v6
          rw [hn2] at hF6 hI6 eu2
          obtain ⟨x6, y6, ev6, _, _⟩ := hF6.form 0 2
          rw [updG_self] at ev6
          dsimp only at ev6
          subst ev6
          rw [e1] at eu2
          rw [eu2] at r5 s5
          rw [e1, eu2] at hr6
          obtain ⟨X6, hX6⟩ : ∃ X6, X6 = W6.setCell ⟨Z, 5, none⟩ (.slice x6 (K + 1) y6) := ⟨_, rfl⟩
          rw [← hX6] at hI6
          have HN : Hid (CI w x C A Z lo N (ovC x (updG O1 0 2 ⟨.slice x6 (K + 1) y6, K + 1, (O1 0 2).xs ++ [.string P.name, .int .i64 P.entry, .int .i64 P.action, .int .i64 P.restarts, .int .i64 P.inputs, .int .i64 P.outputs, .slice d RL cp, .slice d' QL cp']⟩ 0 0).u (updG O1 0 2 ⟨.slice x6 (K + 1) y6, K + 1, (O1 0 2).xs ++ [.string P.name, .int .i64 P.entry, .int .i64 P.action, .int .i64 P.restarts, .int .i64 P.inputs, .int .i64 P.outputs, .slice d RL cp, .slice d' QL cp']⟩ 0 2).u (.slice x.ha x.hs.length x.hc)) (updG O1 0 2 ⟨.slice x6 (K + 1) y6, K + 1, (O1 0 2).xs ++ [.string P.name, .int .i64 P.entry, .int .i64 P.action, .int .i64 P.restarts, .int .i64 P.inputs, .int .i64 P.outputs, .slice d RL cp, .slice d' QL cp']⟩) X6 ∧
              CQ x L (K + 1) [] (updG O1 0 2 ⟨.slice x6 (K + 1) y6, K + 1, (O1 0 2).xs ++ [.string P.name, .int .i64 P.entry, .int .i64 P.action, .int .i64 P.restarts, .int .i64 P.inputs, .int .i64 P.outputs, .slice d RL cp, .slice d' QL cp']⟩) ∧ K < PL ∧ updG O1 0 2 ⟨.slice x6 (K + 1) y6, K + 1, (O1 0 2).xs ++ [.string P.name, .int .i64 P.entry, .int .i64 P.action, .int .i64 P.restarts, .int .i64 P.inputs, .int .i64 P.outputs, .slice d RL cp, .slice d' QL cp']⟩ 0 5 = ObG.nil) := by
            refine ⟨?_, ?_, hlt, by rw [updG_ne _ _ (by omega), e1]; exact hz5⟩
            · rw [updG_self, updG_ne _ _ (by omega), e1 0]; exact hI6
            · have hw := rsO_some hPP
              have hw2 := psO_some hPP
              have := hP.par (l := ⟨.slice d RL cp, RL, P.rs.flatMap Rgn.vs⟩) (q := ⟨.slice d' QL cp', QL, P.ps.flatMap Prt.vs⟩) (uP := .slice x6 (K + 1) y6) (by rw [hw, hRL]) (by rw [hw]) (by rw [hw2, hQL]) (by rw [hw2])
              rw [hP.c2n, parC_some hPP] at this
              rw [e1 2, hO1]
              exact this
          rw [hRL] at happ
          rw [hQL] at happ2
          have HAP : Hid (∀ ty, (Builtin.append_ #[44, 44] ty #[.slice none 0 0, .slice P.ra RL P.rc]).run Tryz.prog U1 = .ok (.slice d RL cp) U2) := happ
          have HAP2 : Hid (∀ ty, (Builtin.append_ #[45, 45] ty #[.slice none 0 0, .slice P.pa QL P.pc]).run Tryz.prog U3 = .ok (.slice d' QL cp') U4) := happ2
          have HAP3 : Hid (∀ ty, (Builtin.append_ #[23, 23] ty #[.slice u2 K t2, .slice (some ⟨U5.heap.size, 0, none⟩) 1 1]).run Tryz.prog (U5.alloc (.cells #[.string P.name, .int .i64 P.entry, .int .i64 P.action, .int .i64 P.restarts, .int .i64 P.inputs, .int .i64 P.outputs, .slice d RL cp, .slice d' QL cp'] 47)) = .ok (.slice x6 (K + 1) y6) W6) := hr6
          have q6 := hB1.cell (i := 6) rfl
          have b6 := hB2.cell (i := 6) rfl
          have b6f := hB2.frozen 6
          have q7 := hB3.cell (i := 7) rfl
          have b7 := hB4.cell (i := 7) rfl
          have b7f := hB4.frozen 7
          have z0 := hB5.cell (i := 0) rfl
          have z1 := hB5.cell (i := 1) rfl
          have z2 := hB5.cell (i := 2) rfl
          have z3 := hB5.cell (i := 3) rfl
          have z4 := hB5.cell (i := 4) rfl
          have z5 := hB5.cell (i := 5) rfl
          have z6 := hB5.cell (i := 6) rfl
          have z7 := hB5.cell (i := 7) rfl
          have hRz : (RL : Int) ≤ 2147483647 := by have := HB.out.rs P (List.mem_of_getElem? hPP); omega
          have hQz : (QL : Int) ≤ 2147483647 := by have := HB.out.qs P (List.mem_of_getElem? hPP); omega
          have hKz : (K : Int) < PL := by omega
          clear happ happ2 hr6 hown hown2 hfr hfr2 hfr6 hK6 kl6 kU1 kU2 kU3 kU4 kU5 hI hI1 hI2 hI3 hI4 hI5 hI6 hF2 hF3 hF4 hF5 hF6 hOut1 hOut2 hOut3 hOut4 hB1 hB2 hB3 hB4 hB5 hP hPP hRL hQL hPi1 hPi3 e0 hO1 hO2 hO3 hc hj hlt e1 hn2 eu2 hlQ hz5
          go_upto_region 15 with fail
          rw [← hU1, ← hQ]
          clear hU1 hQ p0 p1 p2 p3 p4 p5 p6 p7 c5
          go_wp2_with (at_builtin; go_must (refine wpList_append_run rfl (.tmp 44) (.tmp 46) 44 44 rfl (Value.slice none 0 0) (.slice P.ra RL P.rc) (.slice d RL cp) U2 rfl rfl HAP.out ?_; refine Hid.out ?_))
          unfold Hid
          clear q6 HAP
          go_upto_region 18 with fail
          rw [← hU3]
          clear hU3 b6 b6f
          go_wp2_with (at_builtin; go_must (refine wpList_append_run rfl (.tmp 50) (.tmp 52) 45 45 rfl (Value.slice none 0 0) (.slice P.pa QL P.pc) (.slice d' QL cp') U4 rfl rfl HAP2.out ?_; refine Hid.out ?_))
          unfold Hid
          clear q7 HAP2
          go_upto_region 21 with fail
          rw [← hU5]
          clear hU5 b7 b7f
          have r5' := r5
          clear r5
          go_wp2_with (at_builtin; go_must (refine wpList_append_run rfl (.tmp 57) (.tmp 59) 23 23 rfl (.slice u2 K t2) (.slice (some ⟨U5.heap.size, 0, none⟩) 1 1) (.slice x6 (K + 1) y6) W6 rfl rfl HAP3.out ?_; refine Hid.out ?_))
          unfold Hid
          clear r5' HAP3 z0 z1 z2 z3 z4 z5 z6 z7
          go_upto_region 22 with fail
          rw [← hX6]
          clear hX6 s5 f5
          go_wp2
          go_roundw
          case rel => exact ⟨K + 1, _, by have := HN.out.2.2.1; omega, by go_num, HN.out.1, HN.out.2.1, HN.out.2.2.2⟩
          case measure => have := HN.out.2.2.1; simp [intOf]; omega
        · obtain rfl : PL = K := by omega
          obtain ⟨HL3, hHL⟩ : ∃ HL3, x.hs.length = HL3 := ⟨_, rfl⟩
          have z6 : wr.cell? ⟨Z, 6, none⟩ = some (.slice x.ha HL3 x.hc) := by have := hI.out.cell (i := 6) rfl; rw [hHL] at this; exact this
          have z6f := hI.out.frozen 6
          obtain ⟨W5, hW5⟩ : ∃ W5, W5 = wr.setCell ⟨Z, 6, none⟩ (.slice none 0 0) := ⟨_, rfl⟩
          have hI5 := hI.put hI.fam (Keeps.refl _ _) 6 (.slice none 0 0)
          rw [← hW5] at hI5
          have c6 : W5.cell? ⟨C, 6, none⟩ = some (.slice x.ha HL3 x.hc) := by have := hI5.cfg.cell (i := 6) rfl; rw [hHL] at this; exact this
          obtain ⟨v5, W6, hr5, hF6, hfr5, hK5⟩ := hI5.fam.appSeg eChn plainChn 0 5 rfl 24 _ 24 Tryz.underlying24 Tryz.inf82 rfl (by omega) x.ha x.hs x.hc hI5.cin.hseg (by rw [hz5]; have := HB.out.hs; simp [ObG.nil]; omega)
          have kl5 := keeps_lo hI5.fam 0 5 hK5
          obtain ⟨r6, s6, f6⟩ := hI5.cells 6 _ rfl kl5
          have hI6 := hI5.put hF6 kl5 6 v5
          rw [hz5] at hr5 hF6 hI6
          simp only [ObG.nil, Nat.zero_add, List.nil_append, hHL] at hr5 hF6 hI6
          obtain ⟨x5, y5, ev5, _, _⟩ := hF6.form 0 5
          rw [updG_self] at ev5
          dsimp only at ev5
          subst ev5
          obtain ⟨X6, hX6⟩ : ∃ X6, X6 = W6.setCell ⟨Z, 6, none⟩ (.slice x5 HL3 y5) := ⟨_, rfl⟩
          rw [← hX6] at hI6
          have HAP5 : Hid (∀ ty, (Builtin.append_ #[24, 24] ty #[.slice none 0 0, .slice x.ha HL3 x.hc]).run Tryz.prog W5 = .ok (.slice x5 HL3 y5) W6) := hr5
          obtain ⟨O1, hO1⟩ : ∃ O1, O1 = updG O 0 5 ⟨.slice x5 HL3 y5, HL3, x.hs.flatMap Chn.vs⟩ := ⟨_, rfl⟩
          have hI6' : CI w x C A Z lo N (ovC x (O 0 0).u (O 0 2).u (.slice x5 HL3 y5)) O1 X6 := by rw [hO1]; exact hI6
          have hP1 : CQ x x.cs.length x.ps.length x.hs O1 := by
            have := hP.chs x.hs (.slice x5 HL3 y5)
            rw [hHL] at this
            rw [HL.out, HPL.out, hO1]
            exact this
          have e0 : O1 0 0 = O 0 0 := by rw [hO1, updG_ne _ _ (by omega)]
          have e2 : O1 0 2 = O 0 2 := by rw [hO1, updG_ne _ _ (by omega)]
          have e5 : (O1 0 5).u = .slice x5 HL3 y5 := by rw [hO1, updG_self]
          obtain ⟨d0, t0, eu0, _, _⟩ := hI6'.fam.form 0 0
          obtain ⟨d2, t2, eu2, _, _⟩ := hI6'.fam.form 0 2
          have hn0 : (O1 0 0).n = L := by rw [hP1.c0n]; exact HL.out
          have hn2 : (O1 0 2).n = PL := by rw [hP1.c2n]; exact HPL.out
          rw [hn0] at eu0
          rw [hn2] at eu2
          rw [← e0, ← e2, eu0, eu2] at hI6'
          obtain ⟨Y, hY⟩ : ∃ Y, Y = (((((((X6.setCell ⟨A, 0, none⟩ (.int .i64 x.frames)).setCell ⟨A, 1, none⟩ (.int .i64 x.major)).setCell ⟨A, 2, none⟩ (.int .i64 x.kernel)).setCell ⟨A, 3, none⟩ (.int .i64 x.room)).setCell ⟨A, 4, none⟩ (.slice d0 L t0)).setCell ⟨A, 5, none⟩ (.slice d2 PL t2)).setCell ⟨A, 6, none⟩ (.slice x5 HL3 y5)) := ⟨_, rfl⟩
          have HEND : Hid (Blk X6 Z (ovC x (.slice d0 L t0) (.slice d2 PL t2) (.slice x5 HL3 y5)) 26 ∧ Blk X6 A zCfg 26 ∧ Blk Y A (ovC x (.slice d0 L t0) (.slice d2 PL t2) (.slice x5 HL3 y5)) 26 ∧ CopR x w (.returned (.agg #[.int .i64 x.frames, .int .i64 x.major, .int .i64 x.kernel, .int .i64 x.room, .slice d0 L t0, .slice d2 PL t2, .slice x5 HL3 y5])) Y) := by
            have ho := hI6'.ord
            have b0 := hI6'.res
            have k0 := Keeps.refl (fun k => k = A) X6
            have b1 := b0.setCell 0 (.int .i64 x.frames)
            have k1 := k0.setCell ⟨A, 0, none⟩ (.int .i64 x.frames) fun _ => rfl
            have b2 := b1.setCell 1 (.int .i64 x.major)
            have k2 := k1.setCell ⟨A, 1, none⟩ (.int .i64 x.major) fun _ => rfl
            have b3 := b2.setCell 2 (.int .i64 x.kernel)
            have k3 := k2.setCell ⟨A, 2, none⟩ (.int .i64 x.kernel) fun _ => rfl
            have b4 := b3.setCell 3 (.int .i64 x.room)
            have k4 := k3.setCell ⟨A, 3, none⟩ (.int .i64 x.room) fun _ => rfl
            have b5 := b4.setCell 4 (.slice d0 L t0)
            have k5 := k4.setCell ⟨A, 4, none⟩ (.slice d0 L t0) fun _ => rfl
            have b6 := b5.setCell 5 (.slice d2 PL t2)
            have k6 := k5.setCell ⟨A, 5, none⟩ (.slice d2 PL t2) fun _ => rfl
            have b7 := b6.setCell 6 (.slice x5 HL3 y5)
            have k7 := k6.setCell ⟨A, 6, none⟩ (.slice x5 HL3 y5) fun _ => rfl
            rw [← hY] at b7 k7
            refine ⟨hI6'.out, hI6'.res, b7, O1, lo, ?_, hI6'.fam.keptLo k7 fun k e => by omega, hP1, by omega, hI6'.keeps.trans k7 fun b hb e => by omega⟩
            simp only [cfgO, Cfg.v, eu0, eu2, e5, adO, cpO, List.length_map, List.length_range, HL.out, HPL.out, hHL]
          have hHz : (HL3 : Int) ≤ 2147483647 := by have := HB.out.hs; rw [hHL] at this; omega
          clear hr5 hF6 hfr5 hK5 kl5 hI hI5 hI6 hI6' hP hP1 hO1 e0 e2 e5 eu0 eu2 hn0 hn2 hHL hlt hj hz5
          go_upto_region 24 with fail
          rw [← hW5]
          clear hW5 z6 z6f c5
          go_wp2_with (at_builtin; go_must (refine wpList_append_run rfl (.tmp 65) (.tmp 67) 24 24 rfl (Value.slice none 0 0) (.slice x.ha HL3 x.hc) (.slice x5 HL3 y5) W6 rfl rfl HAP5.out ?_; refine Hid.out ?_))
          unfold Hid
          clear r6 HAP5 c6
          go_upto_region 25 with fail
          rw [← hX6]
          clear hX6 s6 f6
          have y0 := HEND.out.1.cell (i := 0) rfl
          have r0 := HEND.out.2.1.cell (i := 0) rfl
          have f0 := HEND.out.2.1.frozen 0
          have y1 := HEND.out.1.cell (i := 1) rfl
          have r1 := HEND.out.2.1.cell (i := 1) rfl
          have f1 := HEND.out.2.1.frozen 1
          have y2 := HEND.out.1.cell (i := 2) rfl
          have r2 := HEND.out.2.1.cell (i := 2) rfl
          have f2 := HEND.out.2.1.frozen 2
          have y3 := HEND.out.1.cell (i := 3) rfl
          have r3 := HEND.out.2.1.cell (i := 3) rfl
          have f3 := HEND.out.2.1.frozen 3
          have y4 := HEND.out.1.cell (i := 4) rfl
          have r4 := HEND.out.2.1.cell (i := 4) rfl
          have f4 := HEND.out.2.1.frozen 4
          have y5 := HEND.out.1.cell (i := 5) rfl
          have r5 := HEND.out.2.1.cell (i := 5) rfl
          have f5 := HEND.out.2.1.frozen 5
          have y6 := HEND.out.1.cell (i := 6) rfl
          have r6 := HEND.out.2.1.cell (i := 6) rfl
          have f6 := HEND.out.2.1.frozen 6
          go_wp2
          rw [← hY]
          (try simp only [Exit.inBlock, Exit.then])
          refine bodyPost_ret (results_cell_row rfl _ _ A 26 _ (0, 0) _ rfl HEND.out.2.2.1 Tryz.underlying26 rfl Tryz.size26) rfl ?_
          exact HEND.out.2.2.2
end Go.Proofs.YtjadpbkhfclldaaGreat
