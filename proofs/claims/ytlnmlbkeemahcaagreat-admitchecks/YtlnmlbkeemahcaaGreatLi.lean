import Derived.Test.YtlnmlbkeemahcaaGreatLg
import Derived.Test.YtlnmlbkeemahcaaGreatLh
import Derived.Test.YtlnmlbkeemahcaaGreatYl
import Derived.Test.YtlnmlbkeemahcaaGreatOy
import Derived.Test.YtlnmlbkeemahcaaGreatJBp
namespace Go.Proofs.YtlnmlbkeemahcaaGreat
open Go.RowKit
set_option linter.unusedVariables false
set_option linter.unusedSimpArgs false
set_option maxRecDepth 6000
structure AI (x y : Cfg) (C Lb Ob N n1 lo : Nat) (O : Nat → Nat → ObG) (xv lv yv : List Value) (wr : World) : Prop where
 cfg : Blk wr C xv 26
 len : Blk wr Lb lv 30
 own : Blk wr Ob yv 26
 xin : x.In wr N
 yin : y.In wr n1
 fam : FamO lo wr O
 nn : N ≤ wr.heap.size
 n1n : n1 ≤ wr.heap.size
theorem AI.kept {x y : Cfg} {C Lb Ob N n1 lo : Nat} {O : Nat → Nat → ObG} {xv lv yv : List Value} {wr W : World} (h : AI x y C Lb Ob N n1 lo O xv lv yv wr) (hK : KF wr W) : AI x y C Lb Ob N n1 lo O xv lv yv W :=
 ⟨h.cfg.kept hK fun e => e, h.len.kept hK fun e => e, h.own.kept hK fun e => e, h.xin.keeps h.nn hK, h.yin.keeps h.n1n hK, h.fam.kept hK fun _ _ _ _ e => e, Nat.le_trans h.nn hK.size, Nat.le_trans h.n1n hK.size⟩
def Fz (O : Nat → Nat → ObG) (w : World) : Prop := ∀ a b G, adO (O a b).u = some ⟨G, 0, none⟩ → ∃ l t, Blk w G l t
theorem Fam.fz {ty : Nat → Nat → TypeId × Nat} {lo : Nat} {w : World} {O : Nat → Nat → ObG} (h : Fam ty lo w O) : Fz O w := fun a b G hG => by
 rcases (h.own a b).2 with ⟨e, _⟩ | ⟨g, cap, cur, e, _, hg, _⟩
 ·
  rw [e] at hG; cases hG
 ·
  rw [e] at hG; cases hG
  exact ⟨cur.toList, _, by unfold Blk; rw [Array.toArray_toList]; exact hg⟩
theorem Fz.setCell {O : Nat → Nat → ObG} {w : World} (h : Fz O w) (g i : Nat) (v : Value) : Fz O (w.setCell ⟨g, i, none⟩ v) := fun a b G hG => by
 obtain ⟨l, t, hb⟩ := h a b G hG
 by_cases e : G = g
 ·
  subst e; exact ⟨_, t, hb.setCell i v⟩
 ·
  exact ⟨l, t, hb.setCell_ne e v⟩
theorem Beg.kept {y : Cfg} {w w' : World} {O : Nat → Nat → ObG} (h : Beg y w O) (hK : KF w w') : Beg y w' O :=
 ⟨fun j hj => (h.c0 j hj).imp fun g h => ⟨h.1, cell_kept h.2 hK fun e => e⟩, h.c0l, fun j hj => (h.c2 j hj).imp fun g h => ⟨h.1, fun i v hv => cell_kept (h.2 i v hv) hK fun e => e⟩, h.c2l, h.c5.kept hK fun _ _ _ e => e, h.c5l, fun j X hX => ⟨(h.i1 j X hX).1.kept hK fun _ _ _ e => e, (h.i1 j X hX).2⟩, fun j P hP => ⟨⟨(h.i2 j P hP).1.1.kept hK fun _ _ _ e => e, (h.i2 j P hP).1.2⟩, (h.i2 j P hP).2.1.kept hK fun _ _ _ e => e, (h.i2 j P hP).2.2⟩⟩
theorem Cfg.Eqv.pure {x y : Cfg} (h : x.Eqv y) : x.pure = y.pure := by
 have hps : y.ps.map Par.pure = x.ps.map Par.pure := by
  apply List.ext_getElem?
  intro j
  simp only [List.getElem?_map]
  by_cases hj : j < y.ps.length
  ·
   obtain ⟨z, hz⟩ : ∃ z, y.ps[j]? = some z := ⟨_, List.getElem?_eq_getElem hj⟩
   obtain ⟨P, hP⟩ : ∃ P, x.ps[j]? = some P := ⟨_, List.getElem?_eq_getElem (by rw [← h.len]; exact hj)⟩
   rw [hz, hP]
   obtain ⟨e1, e2, e3, e4, e5, e6, e7, e8⟩ := h.ps j z P hz hP
   simp only [Option.map_some, Par.pure, e1, e2, e3, e4, e5, e6, e7, e8]
  ·
   rw [List.getElem?_eq_none (by omega), List.getElem?_eq_none (by have := h.len; omega)]
 have hcs : y.cs.map Core.ws = x.cs.map Core.ws := h.cs
 unfold Cfg.pure
 rw [h.frames, h.major, h.kernel, h.room, hcs, hps, h.hs]
theorem dcheck_any (x : Cfg) (w : World) (N : Nat) (hi : x.In w N) (hN : N ≤ w.heap.size) : Calls Tryz.prog 5 #[x.v] w (FlP (chk x) w) := dcheck_of (fun x w N h1 h2 => rOf_any x w N h1 h2) x w N hi hN
set_option maxHeartbeats 16000000 in
theorem checks_any (x : Cfg) (mk : Int) (w : World) (N : Nat) (hi : x.In w N) (hN : N ≤ w.heap.size) (hb : Sml x) (hm : I64 mk) : Calls Tryz.prog 3 #[x.v, .int .i64 mk] w (RetK (.bool true) w) := by
 obtain ⟨C, hC⟩ : ∃ C, C = w.heap.size := ⟨_, rfl⟩
 obtain ⟨W, hW⟩ : ∃ W, W = x.laid w := ⟨_, rfl⟩
 have kW : KF w W := by rw [hW]; exact (Keeps.refl _ _).alloc _
 have hBC : Blk W C x.vs 26 := by rw [hW, hC]; exact Blk.new w _ _
 have hiW := hi.keeps hN kW
 have HLe : Hid (Calls Tryz.prog 4 #[x.v] W (LendP x W)) := Lend_any x W N hiW (Nat.le_trans hN kW.size) hb
 have x0 := hBC.cell (i := 0) rfl
 have x1 := hBC.cell (i := 1) rfl
 have x2 := hBC.cell (i := 2) rfl
 have x3 := hBC.cell (i := 3) rfl
 have x4 := hBC.cell (i := 4) rfl
 have x5 := hBC.cell (i := 5) rfl
 have x6 := hBC.cell (i := 6) rfl
 have HX : Hid (x.In W N ∧ N ≤ W.heap.size ∧ Sml x ∧ I64 mk ∧ Blk W C x.vs 26 ∧ KF w W) := ⟨hiW, Nat.le_trans hN kW.size, hb, hm, hBC, kW⟩
 clear hi hN hb hm kW hBC hiW
 unfold Cfg.laid at hW
 go_enter Tryz.func3, Tryz.ntmps3
 go_upto_region 1 with fail
 rw [← hW, ← hC]
 clear hW hC
 go_wp2_with fail
 refine HLe.out.mono ?_
 rintro e w1 ⟨O, lo, rfl, hP, hfl, hF, hlo, hK1⟩
 clear x0 x1 x2 x3 x4 x5 x6 HLe
 obtain ⟨a7, c7, e7, g7, _⟩ := hF.form 0 0
 obtain ⟨a8, c8, e8, g8, _⟩ := hF.form 0 1
 obtain ⟨a9, c9, e9, _, _⟩ := hF.form 0 2
 obtain ⟨a10, c10, e10, g10, _⟩ := hF.form 0 3
 obtain ⟨a11, c11, e11, _, _⟩ := hF.form 0 4
 obtain ⟨a12, c12, e12, _, _⟩ := hF.form 0 5
 obtain ⟨H, hH⟩ : ∃ H, x.hs.length = H := ⟨_, rfl⟩
 obtain ⟨L, hL⟩ : ∃ L, x.cs.length = L := ⟨_, rfl⟩
 obtain ⟨K, hK⟩ : ∃ K, x.ps.length = K := ⟨_, rfl⟩
 obtain ⟨MH, hMH⟩ : ∃ M, H + 24 = M := ⟨_, rfl⟩
 obtain ⟨MC, hMC⟩ : ∃ M, L + 24 = M := ⟨_, rfl⟩
 obtain ⟨MP, hMP⟩ : ∃ M, K + 24 = M := ⟨_, rfl⟩
 rw [hfl.1, hH, hMH] at e7 g7
 rw [hP.n1, hL, hMC] at e8 g8
 rw [hP.n2, hL, show min (L + 24) L = L by omega] at e9
 rw [hP.n3, hK, hMP] at e10 g10
 rw [hP.n4, hK, show min (K + 24) K = K by omega] at e11
 rw [hP.n5, hK, show min (K + 24) K = K by omega] at e12
 have hlv : lentV x (cut x.cs.length (O 0 1).u) (cut x.ps.length (O 0 3).u) (cut x.hs.length (O 0 0).u) O = [.int .i64 x.frames, .int .i64 x.major, .int .i64 x.kernel, .int .i64 x.room, .slice a8 L c8, .slice a10 K c10, .slice a7 H c7, .slice a7 MH c7, .slice a8 MC c8, .slice a9 L c9, .slice a10 MP c10, .slice a11 K c11, .slice a12 K c12] := by
  unfold lentV
  rw [e7, e8, e9, e10, e11, e12, hH, hL, hK]
  rfl
 have hyv : (cfgO x O).v = .agg #[.int .i64 x.frames, .int .i64 x.major, .int .i64 x.kernel, .int .i64 x.room, .slice a8 L c8, .slice a10 K c10, .slice a7 H c7] := by
  unfold Cfg.v cfgO
  rw [e7, e8, e10]
  simp only [List.length_map, List.length_range, hH, hL, hK, adO, cpO]
 have hxv : x.v = .agg #[.int .i64 x.frames, .int .i64 x.major, .int .i64 x.kernel, .int .i64 x.room, .slice x.ca L x.cc, .slice x.pa K x.pc, .slice x.ha H x.hc] := by unfold Cfg.v; rw [hH, hL, hK]
 have hBeg : Beg x w1 O := LP.beg hF hP hfl
 have hyIn := hBeg.in HX.out.1.fn
 obtain ⟨y, hy⟩ : ∃ y, y = cfgO x O := ⟨_, rfl⟩
 rw [← hy] at hyIn hyv
 have hpu : y.pure = x.pure := by rw [hy]; exact cfgO_pure x O
 obtain ⟨Lb, hLb⟩ : ∃ Lb, Lb = w1.heap.size := ⟨_, rfl⟩
 obtain ⟨Ob, hOb⟩ : ∃ Ob, Ob = w1.heap.size + 1 := ⟨_, rfl⟩
 obtain ⟨n1, hn1⟩ : ∃ n1, n1 = w1.heap.size := ⟨_, rfl⟩
 obtain ⟨W2, hW2⟩ : ∃ W2, W2 = w1.alloc (.cells #[.int .i64 x.frames, .int .i64 x.major, .int .i64 x.kernel, .int .i64 x.room, .slice a8 L c8, .slice a10 K c10, .slice a7 H c7, .slice a7 MH c7, .slice a8 MC c8, .slice a9 L c9, .slice a10 MP c10, .slice a11 K c11, .slice a12 K c12] 30) := ⟨_, rfl⟩
 obtain ⟨W3, hW3⟩ : ∃ W3, W3 = W2.alloc (.cells #[.int .i64 x.frames, .int .i64 x.major, .int .i64 x.kernel, .int .i64 x.room, .slice a8 L c8, .slice a10 K c10, .slice a7 H c7] 26) := ⟨_, rfl⟩
 have k2 : KF w1 W2 := by rw [hW2]; exact (Keeps.refl _ _).alloc _
 have k3 : KF w1 W3 := by rw [hW3]; exact k2.alloc _
 have hL2 : Blk W2 Lb [.int .i64 x.frames, .int .i64 x.major, .int .i64 x.kernel, .int .i64 x.room, .slice a8 L c8, .slice a10 K c10, .slice a7 H c7, .slice a7 MH c7, .slice a8 MC c8, .slice a9 L c9, .slice a10 MP c10, .slice a11 K c11, .slice a12 K c12] 30 := by rw [hW2, hLb]; exact Blk.new _ _ _
 have hxvs : x.vs = [.int .i64 x.frames, .int .i64 x.major, .int .i64 x.kernel, .int .i64 x.room, .slice x.ca L x.cc, .slice x.pa K x.pc, .slice x.ha H x.hc] := by unfold Cfg.vs; rw [hH, hL, hK]
 obtain ⟨xv, hxe⟩ : ∃ l : List Value, l = [.int .i64 x.frames, .int .i64 x.major, .int .i64 x.kernel, .int .i64 x.room, .slice x.ca L x.cc, .slice x.pa K x.pc, .slice x.ha H x.hc] := ⟨_, rfl⟩
 obtain ⟨lv, hle⟩ : ∃ l : List Value, l = [.int .i64 x.frames, .int .i64 x.major, .int .i64 x.kernel, .int .i64 x.room, .slice a8 L c8, .slice a10 K c10, .slice a7 H c7, .slice a7 MH c7, .slice a8 MC c8, .slice a9 L c9, .slice a10 MP c10, .slice a11 K c11, .slice a12 K c12] := ⟨_, rfl⟩
 obtain ⟨yv, hye⟩ : ∃ l : List Value, l = [.int .i64 x.frames, .int .i64 x.major, .int .i64 x.kernel, .int .i64 x.room, .slice a8 L c8, .slice a10 K c10, .slice a7 H c7] := ⟨_, rfl⟩
 have HXL : Hid (xv = [.int .i64 x.frames, .int .i64 x.major, .int .i64 x.kernel, .int .i64 x.room, .slice x.ca L x.cc, .slice x.pa K x.pc, .slice x.ha H x.hc] ∧ lv = [.int .i64 x.frames, .int .i64 x.major, .int .i64 x.kernel, .int .i64 x.room, .slice a8 L c8, .slice a10 K c10, .slice a7 H c7, .slice a7 MH c7, .slice a8 MC c8, .slice a9 L c9, .slice a10 MP c10, .slice a11 K c11, .slice a12 K c12] ∧ yv = [.int .i64 x.frames, .int .i64 x.major, .int .i64 x.kernel, .int .i64 x.room, .slice a8 L c8, .slice a10 K c10, .slice a7 H c7]) := ⟨hxe, hle, hye⟩
 have HI3 : Hid (AI x y C Lb Ob N n1 lo O xv lv yv W3) := by
  refine ⟨?_, by rw [hW3, hle]; exact hL2.alloc _, ?_, ?_, ?_, hF.kept k3 fun _ _ _ _ e => e, ?_, by rw [hn1]; exact k3.size⟩
  ·
   rw [hxe, ← hxvs]; exact (HX.out.2.2.2.2.1.kept hK1 fun e => e).kept k3 fun e => e
  ·
   have := Blk.new W2 #[.int .i64 x.frames, .int .i64 x.major, .int .i64 x.kernel, .int .i64 x.room, .slice a8 L c8, .slice a10 K c10, .slice a7 H c7] 26
   rw [hW3, hOb, hye]
   rw [show w1.heap.size + 1 = W2.heap.size by rw [hW2]; simp]
   exact this
  ·
   exact (HX.out.1.keeps HX.out.2.1 hK1).keeps (Nat.le_trans HX.out.2.1 hK1.size) k3
  ·
   rw [hn1]; exact hyIn.keeps (Nat.le_refl _) k3
  ·
   exact Nat.le_trans HX.out.2.1 (Nat.le_trans hK1.size k3.size)
 have HD : Hid (Dis O) := fun a b c d k h1 h2 => hF.dis a b c d k h1 h2
 have HV : Hid (x.v = .agg #[.int .i64 x.frames, .int .i64 x.major, .int .i64 x.kernel, .int .i64 x.room, .slice x.ca L x.cc, .slice x.pa K x.pc, .slice x.ha H x.hc] ∧ y.v = .agg yv.toArray ∧ y.pure = x.pure ∧ y = cfgO x O) := ⟨hxv, by rw [hye]; exact hyv, hpu, hy⟩
 have HL : Hid (x.hs.length = H ∧ x.cs.length = L ∧ x.ps.length = K ∧ H + 24 = MH ∧ L + 24 = MC ∧ K + 24 = MP) := ⟨hH, hL, hK, hMH, hMC, hMP⟩
 have HE : Hid ((O 0 0).u = .slice a7 MH c7 ∧ (O 0 1).u = .slice a8 MC c8 ∧ (O 0 2).u = .slice a9 L c9 ∧ (O 0 3).u = .slice a10 MP c10 ∧ (O 0 4).u = .slice a11 K c11 ∧ (O 0 5).u = .slice a12 K c12) := ⟨e7, e8, e9, e10, e11, e12⟩
 have HP : Hid (LP x (x.cs.length + 24) (x.ps.length + 24) O ∧ Fl eChn hM x.hs (O 0 0) ∧ Beg x w1 O ∧ w1.heap.size = n1 ∧ Sml x ∧ I64 mk ∧ Fn x ∧ lo ≤ w1.heap.size ∧ Lb = n1 ∧ Ob = n1 + 1) := ⟨hP, hfl, hBeg, hn1.symm, HX.out.2.2.1, HX.out.2.2.2.1, HX.out.1.fn, hF.siz, by rw [hLb, hn1], by rw [hOb, hn1]⟩
 have HK3 : Hid (KF w1 W3) := k3
 have HKW : Hid (KF w w1 ∧ ∀ a b k, (O a b).u.ownBlock = some k → w.heap.size ≤ k) := ⟨HX.out.2.2.2.2.2.trans hK1 fun _ _ e => e, fun a b k h => Nat.le_trans HX.out.2.2.2.2.2.size (Nat.le_trans hlo (hF.low a b k h))⟩
 have HLT : Hid (∀ a b k, (O a b).u.ownBlock = some k → k < n1) := fun a b k h => by rw [hn1]; exact hF.lt h
 obtain ⟨Fl', hFl⟩ : ∃ F : Flt, F = chk x := ⟨_, rfl⟩
 have HDC : Hid (∀ w, x.In w N → N ≤ w.heap.size → Calls Tryz.prog 5 #[.agg #[.int .i64 x.frames, .int .i64 x.major, .int .i64 x.kernel, .int .i64 x.room, .slice x.ca L x.cc, .slice x.pa K x.pc, .slice x.ha H x.hc]] w (FlP Fl' w)) := fun w h1 h2 => by rw [hFl, ← hxv]; exact dcheck_any x w N h1 h2
 have HC8 : Hid (∀ (z : Cfg) (V : World) (n2 : Nat), z.v = .agg yv.toArray → z.In V n2 → n2 ≤ V.heap.size → Sml z → Calls Tryz.prog 8 #[.agg #[.int .i64 x.frames, .int .i64 x.major, .int .i64 x.kernel, .int .i64 x.room, .slice a8 L c8, .slice a10 K c10, .slice a7 H c7]] V (CopP z V)) := fun z V n2 h0 h1 h2 h3 => by rw [hye] at h0; rw [← h0]; exact Copied_any z V n2 h1 h2 h3
 have HC6 : Hid (∀ (z : Cfg) (V : World) (n2 : Nat), z.v = .agg yv.toArray → z.In V n2 → n2 ≤ V.heap.size → Calls Tryz.prog 6 #[.agg #[.int .i64 x.frames, .int .i64 x.major, .int .i64 x.kernel, .int .i64 x.room, .slice a8 L c8, .slice a10 K c10, .slice a7 H c7]] V (ChkP z V)) := fun z V n2 h0 h1 h2 => by rw [hye] at h0; rw [← h0]; exact Check_any z V n2 h1 h2
 have HPC : Hid (∀ w, y.In w n1 → n1 ≤ w.heap.size → Calls Tryz.prog 6 #[.agg #[.int .i64 x.frames, .int .i64 x.major, .int .i64 x.kernel, .int .i64 x.room, .slice a8 L c8, .slice a10 K c10, .slice a7 H c7]] w (ChkP y w)) := fun w h1 h2 => by rw [← hyv]; exact Check_any y w n1 h1 h2
 have HCE : Hid (chk y = Fl') := by rw [hFl]; exact chk_pure hpu
 obtain ⟨fn, fa, fb⟩ := Fl'
 rw [hlv]
 have q1 : (L : Int) ≤ c8 := by omega
 have q2 : (K : Int) ≤ c10 := by omega
 clear hxe hle hye hlv hyv hxv hxvs hyIn hBeg hpu hy hFl hP hfl hF hlo hK1 e7 e8 e9 e10 e11 e12 g7 g8 g10 hH hL hK hMH hMC hMP hn1 k2 k3 HX
 have hOb2 : W2.heap.size = Ob := by rw [hW2, hOb]; simp
 have HOb : Hid (W2.heap.size = Ob) := hOb2
 clear hOb2
 have HKP : Hid (∀ w, AI x y C Lb Ob N n1 lo O xv lv yv w → Calls Tryz.prog 7 #[.agg #[.int .i64 x.frames, .int .i64 x.major, .int .i64 x.kernel, .int .i64 x.room, .slice a8 L c8, .slice a10 K c10, .slice a7 H c7, .slice a7 MH c7, .slice a8 MC c8, .slice a9 L c9, .slice a10 MP c10, .slice a11 K c11, .slice a12 K c12], .agg #[.int .i64 x.frames, .int .i64 x.major, .int .i64 x.kernel, .int .i64 x.room, .slice x.ca L x.cc, .slice x.pa K x.pc, .slice x.ha H x.hc]] w (RetK (.bool true) w)) := fun w hA => by
  refine Kept_walk x O lo x.frames x.major x.kernel x.room a8 a10 a7 a7 a8 a9 a10 a11 a12 L K H c8 c10 c7 c7 c8 c9 c10 c11 c12 MH MC MP H L K w (fun W hW => ?_) hA.xin.ok HP.out.2.2.2.2.1 hA.fam HP.out.1 HP.out.2.1 HL.out.1 HL.out.2.1 HL.out.2.2.1 HL.out.2.2.2.1 HL.out.2.2.2.2.1 HL.out.2.2.2.2.2 HE.out.1 HE.out.2.1 HE.out.2.2.1 HE.out.2.2.2.1 HE.out.2.2.2.2.1 HE.out.2.2.2.2.2
  have e1 := HV.out.2.1
  rw [HXL.out.2.2] at e1
  rw [← e1]
  exact same_eq y x W HV.out.2.2.1 ((hA.kept hW).yin.ok) ((hA.kept hW).xin.ok)
 clear hOb
 have l0 := hL2.cell (i := 0) rfl
 have l1 := hL2.cell (i := 1) rfl
 have l2 := hL2.cell (i := 2) rfl
 have l3 := hL2.cell (i := 3) rfl
 have l4 := hL2.cell (i := 4) rfl
 have l5 := hL2.cell (i := 5) rfl
 have l6 := hL2.cell (i := 6) rfl
 clear hL2
 go_upto_region 2 with fail
 rw [← hW2, ← hLb]
 clear hW2 hLb
 go_upto_region 3 with fail
 rw [HOb.out, ← hW3]
 clear hW3 HOb l0 l1 l2 l3 l4 l5 l6
 have hc := HI3.out.cfg
 rw [HXL.out.1] at hc
 have x0 := hc.cell (i := 0) rfl
 have x1 := hc.cell (i := 1) rfl
 have x2 := hc.cell (i := 2) rfl
 have x3 := hc.cell (i := 3) rfl
 have x4 := hc.cell (i := 4) rfl
 have x5 := hc.cell (i := 5) rfl
 have x6 := hc.cell (i := 6) rfl
 clear hc
 go_wp2_with fail
 refine (HDC.out _ HI3.out.xin HI3.out.nn).mono ?_
 rintro e w2 ⟨rfl, hK2⟩
 clear x0 x1 x2 x3 x4 x5 x6
 obtain ⟨Q1, hQ1⟩ : ∃ Q1, Q1 = w2.heap.size := ⟨_, rfl⟩
 obtain ⟨V4, hV4⟩ : ∃ V4, V4 = w2.alloc (.cells #[.int .i64 fa, .int .i64 fb] 34) := ⟨_, rfl⟩
 have HI4 : Hid (AI x y C Lb Ob N n1 lo O xv lv yv V4 ∧ Blk V4 Q1 [.int .i64 fa, .int .i64 fb] 34 ∧ KF w1 V4) := by
  rw [hV4, hQ1]
  exact ⟨(HI3.out.kept hK2).kept ((Keeps.refl _ _).alloc _), Blk.new _ _ _, (HK3.out.trans hK2 fun _ _ e => e).alloc _⟩
 clear hK2 HI3 HK3
 go_upto_region 4 with fail
 rw [← hV4, ← hQ1]
 clear hV4 hQ1
 have hc := HI4.out.1.own
 rw [HXL.out.2.2] at hc
 have o0 := hc.cell (i := 0) rfl
 have o1 := hc.cell (i := 1) rfl
 have o2 := hc.cell (i := 2) rfl
 have o3 := hc.cell (i := 3) rfl
 have o4 := hc.cell (i := 4) rfl
 have o5 := hc.cell (i := 5) rfl
 have o6 := hc.cell (i := 6) rfl
 clear hc
 go_wp2_with fail
 refine (HPC.out _ HI4.out.1.yin HI4.out.1.n1n).mono ?_
 rintro e w3 ⟨rfl, hK3⟩
 rw [HCE.out]
 clear o0 o1 o2 o3 o4 o5 o6
 obtain ⟨Q2, hQ2⟩ : ∃ Q2, Q2 = w3.heap.size := ⟨_, rfl⟩
 obtain ⟨V5, hV5⟩ : ∃ V5, V5 = w3.alloc (.cells #[.int .i64 fa, .int .i64 fb] 34) := ⟨_, rfl⟩
 have HI5 : Hid (AI x y C Lb Ob N n1 lo O xv lv yv V5 ∧ Blk V5 Q1 [.int .i64 fa, .int .i64 fb] 34 ∧ KF w1 V5 ∧ Blk V5 Q2 [.int .i64 fa, .int .i64 fb] 34) := by
  rw [hV5, hQ2]
  exact ⟨(HI4.out.1.kept hK3).kept ((Keeps.refl _ _).alloc _), (HI4.out.2.1.kept hK3 fun e => e).alloc _, (HI4.out.2.2.trans hK3 fun _ _ e => e).alloc _, Blk.new _ _ _⟩
 clear hK3 HI4
 go_upto_region 5 with fail
 rw [← hV5, ← hQ2]
 clear hV5 hQ2
 have hc := HI5.out.1.cfg
 rw [HXL.out.1] at hc
 have x0 := hc.cell (i := 0) rfl
 have x1 := hc.cell (i := 1) rfl
 have x2 := hc.cell (i := 2) rfl
 have x3 := hc.cell (i := 3) rfl
 have x4 := hc.cell (i := 4) rfl
 have x5 := hc.cell (i := 5) rfl
 have x6 := hc.cell (i := 6) rfl
 clear hc
 have hc := HI5.out.1.len
 rw [HXL.out.2.1] at hc
 have l0 := hc.cell (i := 0) rfl
 have l1 := hc.cell (i := 1) rfl
 have l2 := hc.cell (i := 2) rfl
 have l3 := hc.cell (i := 3) rfl
 have l4 := hc.cell (i := 4) rfl
 have l5 := hc.cell (i := 5) rfl
 have l6 := hc.cell (i := 6) rfl
 have l7 := hc.cell (i := 7) rfl
 have l8 := hc.cell (i := 8) rfl
 have l9 := hc.cell (i := 9) rfl
 have l10 := hc.cell (i := 10) rfl
 have l11 := hc.cell (i := 11) rfl
 have l12 := hc.cell (i := 12) rfl
 clear hc
 have r0 := HI5.out.2.1.cell (i := 0) rfl
 have r1 := HI5.out.2.1.cell (i := 1) rfl
 have s0 := HI5.out.2.2.2.cell (i := 0) rfl
 have s1 := HI5.out.2.2.2.cell (i := 1) rfl
 go_wp2_with fail
 refine (HKP.out _ HI5.out.1).mono ?_
 rintro e w4 ⟨rfl, hK4⟩
 clear x0 x1 x2 x3 x4 x5 x6 l0 l1 l2 l3 l4 l5 l6 l7 l8 l9 l10 l11 l12 r0 r1 s0 s1
 have HI6 : Hid (AI x y C Lb Ob N n1 lo O xv lv yv w4 ∧ Blk w4 Q1 [.int .i64 fa, .int .i64 fb] 34 ∧ KF w1 w4) := ⟨HI5.out.1.kept hK4, HI5.out.2.1.kept hK4 fun e => e, HI5.out.2.2.1.trans hK4 fun _ _ e => e⟩
 clear hK4 HI5 HKP
 go_upto_region 7 with fail
 have hc := HI6.out.1.own
 rw [HXL.out.2.2] at hc
 have o0 := hc.cell (i := 0) rfl
 have o1 := hc.cell (i := 1) rfl
 have o2 := hc.cell (i := 2) rfl
 have o3 := hc.cell (i := 3) rfl
 have o4 := hc.cell (i := 4) rfl
 have o5 := hc.cell (i := 5) rfl
 have o6 := hc.cell (i := 6) rfl
 clear hc
 go_wp2_with fail
 refine (HPC.out _ HI6.out.1.yin HI6.out.1.n1n).mono ?_
 rintro e w5 ⟨rfl, hK5⟩
 rw [HCE.out]
 clear o0 o1 o2 o3 o4 o5 o6
 obtain ⟨Q3, hQ3⟩ : ∃ Q3, Q3 = w5.heap.size := ⟨_, rfl⟩
 obtain ⟨V6, hV6⟩ : ∃ V6, V6 = w5.alloc (.cells #[.int .i64 fa, .int .i64 fb] 34) := ⟨_, rfl⟩
 have HI7 : Hid (AI x y C Lb Ob N n1 lo O xv lv yv V6 ∧ Blk V6 Q1 [.int .i64 fa, .int .i64 fb] 34 ∧ KF w1 V6 ∧ Blk V6 Q3 [.int .i64 fa, .int .i64 fb] 34) := by
  rw [hV6, hQ3]
  exact ⟨(HI6.out.1.kept hK5).kept ((Keeps.refl _ _).alloc _), (HI6.out.2.1.kept hK5 fun e => e).alloc _, (HI6.out.2.2.trans hK5 fun _ _ e => e).alloc _, Blk.new _ _ _⟩
 clear hK5 HI6
 go_upto_region 8 with fail
 rw [← hV6, ← hQ3]
 clear hV6 hQ3
 have r0 := HI7.out.2.1.cell (i := 0) rfl
 have r1 := HI7.out.2.1.cell (i := 1) rfl
 have s0 := HI7.out.2.2.2.cell (i := 0) rfl
 have s1 := HI7.out.2.2.2.cell (i := 1) rfl
 go_upto_region 10 with fail
 clear r0 r1 s0 s1
 have o5 := HI7.out.1.own
 rw [HXL.out.2.2] at o5
 replace o5 := o5.cell (i := 5) rfl
 have hBeg7 : Beg x V6 O := HP.out.2.2.1.kept HI7.out.2.2.1
 rcases hps : x.ps with _ | ⟨P, rp⟩
 ·
  have hK0 : K = 0 := by have := HL.out.2.2.1; rw [hps] at this; exact this.symm
  have t1 : ¬ ((K : Int) > 0) := by omega
  have t2 : ¬ ((0 : Int) < K) := by omega
  have HA : Hid (Beg x V6 O ∧ Fn x ∧ Sml x ∧ Blk V6 Ob yv 26 ∧ (cfgO x O).v = .agg yv.toArray ∧ x.cs = x.cs ∧ Fz O V6 ∧ KF w V6) := ⟨hBeg7, HP.out.2.2.2.2.2.2.1, HP.out.2.2.2.2.1, HI7.out.1.own, by rw [← HV.out.2.2.2]; exact HV.out.2.1, rfl, HI7.out.1.fam.fz, HKW.out.1.trans HI7.out.2.2.1 fun _ _ e => e⟩
  clear hps hK0 hBeg7
  go_upto_region 12 with fail
  clear o5 t1 t2
  obtain ⟨z, hz⟩ : ∃ z, z = cfgO x O := ⟨_, rfl⟩
  obtain ⟨n2, hn2⟩ : ∃ n2, n2 = V6.heap.size := ⟨_, rfl⟩
  have o4 := HA.out.2.2.2.1
  rw [HXL.out.2.2] at o4
  replace o4 := o4.cell (i := 4) rfl
  rcases hcs : x.cs with _ | ⟨X, rc⟩
  ·
   have hL0 : L = 0 := by have := HL.out.2.1; rw [hcs] at this; exact this.symm
   have d1 : ¬ ((L : Int) > 0) := by omega
   have d2 : ¬ ((0 : Int) < L) := by omega
   have hZ : z.In V6 n2 ∧ n2 ≤ V6.heap.size ∧ Blk V6 Ob yv 26 ∧ Sml z ∧ z.v = .agg yv.toArray ∧ KF w V6 := by
    rw [hz, hn2]
    exact ⟨HA.out.1.in HA.out.2.1, Nat.le_refl _, HA.out.2.2.2.1, HA.out.2.2.1.pure (cfgO_pure _ O).symm, HA.out.2.2.2.2.1, HA.out.2.2.2.2.2.2.2⟩
   clear hcs hL0 hz hn2
   go_upto_region 14 with fail
   clear o4 d1 d2
   have HZ : Hid (z.In V6 n2 ∧ n2 ≤ V6.heap.size ∧ Blk V6 Ob yv 26 ∧ Sml z ∧ z.v = .agg yv.toArray ∧ KF w V6) := hZ
   clear hZ
   have hc := HZ.out.2.2.1
   rw [HXL.out.2.2] at hc
   have o0 := hc.cell (i := 0) rfl
   have o1 := hc.cell (i := 1) rfl
   have o2 := hc.cell (i := 2) rfl
   have o3 := hc.cell (i := 3) rfl
   have o4 := hc.cell (i := 4) rfl
   have o5 := hc.cell (i := 5) rfl
   have o6 := hc.cell (i := 6) rfl
   clear hc
   go_wp2_with fail
   refine (HC8.out z V6 n2 HZ.out.2.2.2.2.1 HZ.out.1 HZ.out.2.1 HZ.out.2.2.2.1).mono ?_
   rintro e w6 ⟨z', rfl, hEq, hin, _, hK6⟩
   clear o0 o1 o2 o3 o4 o5 o6
   have HZ2 : Hid (z'.In w6 w6.heap.size ∧ chk z' = chk z ∧ KF V6 w6) := ⟨hin, (chk_pure hEq.pure).symm, hK6⟩
   clear hEq hin hK6
   obtain ⟨F2, hF2⟩ : ∃ F : Flt, F = chk z := ⟨_, rfl⟩
   have HF2 : Hid (F2 = chk z) := hF2
   clear hF2
   go_wp2_with fail
   refine (dcheck_any z' w6 w6.heap.size HZ2.out.1 (Nat.le_refl _)).mono ?_
   rintro e w7 ⟨rfl, hK7⟩
   rw [HZ2.out.2.1, ← HF2.out]
   obtain ⟨Q5, hQ5⟩ : ∃ Q5, Q5 = w7.heap.size := ⟨_, rfl⟩
   obtain ⟨V8, hV8⟩ : ∃ V8, V8 = w7.alloc (.cells #[.int .i64 F2.a, .int .i64 F2.b] 34) := ⟨_, rfl⟩
   have k8 : KF V6 V8 := by rw [hV8]; exact (HZ2.out.2.2.trans hK7 fun _ _ e => e).alloc _
   have HZ3 : Hid (z.In V8 n2 ∧ n2 ≤ V8.heap.size ∧ Blk V8 Ob yv 26 ∧ Blk V8 Q5 [.int .i64 F2.a, .int .i64 F2.b] 34 ∧ KF w V8) := ⟨HZ.out.1.keeps HZ.out.2.1 k8, Nat.le_trans HZ.out.2.1 k8.size, HZ.out.2.2.1.kept k8 fun e => e, by rw [hV8, hQ5]; exact Blk.new _ _ _, HZ.out.2.2.2.2.2.trans k8 fun _ _ e => e⟩
   clear hK7 k8
   go_upto_region 15 with fail
   rw [← hV8, ← hQ5]
   clear hV8 hQ5
   have hc := HZ3.out.2.2.1
   rw [HXL.out.2.2] at hc
   have o0 := hc.cell (i := 0) rfl
   have o1 := hc.cell (i := 1) rfl
   have o2 := hc.cell (i := 2) rfl
   have o3 := hc.cell (i := 3) rfl
   have o4 := hc.cell (i := 4) rfl
   have o5 := hc.cell (i := 5) rfl
   have o6 := hc.cell (i := 6) rfl
   clear hc
   go_wp2_with fail
   refine (HC6.out z V8 n2 HZ.out.2.2.2.2.1 HZ3.out.1 HZ3.out.2.1).mono ?_
   rintro e w9 ⟨rfl, hK9⟩
   rw [← HF2.out]
   clear o0 o1 o2 o3 o4 o5 o6
   obtain ⟨Q6, hQ6⟩ : ∃ Q6, Q6 = w9.heap.size := ⟨_, rfl⟩
   obtain ⟨V9, hV9⟩ : ∃ V9, V9 = w9.alloc (.cells #[.int .i64 F2.a, .int .i64 F2.b] 34) := ⟨_, rfl⟩
   have hB5 : Blk V9 Q5 [.int .i64 F2.a, .int .i64 F2.b] 34 := by rw [hV9]; exact (HZ3.out.2.2.2.1.kept hK9 fun e => e).alloc _
   have hB6 : Blk V9 Q6 [.int .i64 F2.a, .int .i64 F2.b] 34 := by rw [hV9, hQ6]; exact Blk.new _ _ _
   have HKF : Hid (KF w V9) := by rw [hV9]; exact (HZ3.out.2.2.2.2.trans hK9 fun _ _ e => e).alloc _
   go_upto_region 16 with fail
   rw [← hV9, ← hQ6]
   have r0 := hB5.cell (i := 0) rfl
   have r1 := hB5.cell (i := 1) rfl
   have s0 := hB6.cell (i := 0) rfl
   have s1 := hB6.cell (i := 1) rfl
   clear hV9 hQ6 hB5 hB6 hK9
   go_wp2
   go_ret
   exact ⟨rfl, HKF.out⟩
  ·
   have hL0 : 0 < L := by have := HL.out.2.1; rw [hcs] at this; simp at this; omega
   have d1 : (L : Int) > 0 := by omega
   have d2 : (0 : Int) < L := by omega
   have hX1 : (x).cs[0]? = some X := by rw [HA.out.2.2.2.2.2.1, hcs]; rfl
   obtain ⟨gC, ea8, hc0⟩ := HA.out.1.c0 0 (by have := (List.getElem?_eq_some_iff.1 hX1).1; exact this)
   rw [HE.out.2.1] at ea8
   simp only [adO] at ea8
   rw [ea8] at o4
   obtain ⟨_, _, m3⟩ := HP.out.1.c1 0 X (by omega) (by rw [hcs]; rfl)
   obtain ⟨dR, kR, eR, hkR, hkR2⟩ := HI7.out.1.fam.form 1 0
   rw [m3.1] at eR hkR
   obtain ⟨G, hGd, _, _⟩ := at_cell (HI7.out.1.fam.own 1 0) (m3.2.2 X.ws.length (Nat.le_refl _) (by omega)) (by rw [m3.1]; exact eR) (by simp [wM])
   have hc1 : V6.cell? ⟨gC, 0, none⟩ = some (.slice (some ⟨G, 0, none⟩) X.ws.length kR) := by
    rw [hc0]
    unfold coreO
    rw [wsO_some hX1, eR, hGd]
    rfl
   rcases hws : X.ws with _ | ⟨yw, qw⟩
   ·
    rw [hws] at hc1
    have hc2 : V6.cell? ⟨gC, 0, none⟩ = some (.slice (some ⟨G, 0, none⟩) 0 kR) := hc1
    have hZ : z.In V6 n2 ∧ n2 ≤ V6.heap.size ∧ Blk V6 Ob yv 26 ∧ Sml z ∧ z.v = .agg yv.toArray ∧ KF w V6 := by
     rw [hz, hn2]
     exact ⟨HA.out.1.in HA.out.2.1, Nat.le_refl _, HA.out.2.2.2.1, HA.out.2.2.1.pure (cfgO_pure _ O).symm, HA.out.2.2.2.2.1, HA.out.2.2.2.2.2.2.2⟩
    clear hcs hL0 hz hn2 hX1 ea8 hc0 m3 eR hkR hkR2 hGd hc1 hws
    go_upto_region 14 with fail
    clear o4 d1 d2 hc2
    have HZ : Hid (z.In V6 n2 ∧ n2 ≤ V6.heap.size ∧ Blk V6 Ob yv 26 ∧ Sml z ∧ z.v = .agg yv.toArray ∧ KF w V6) := hZ
    clear hZ
    have hc := HZ.out.2.2.1
    rw [HXL.out.2.2] at hc
    have o0 := hc.cell (i := 0) rfl
    have o1 := hc.cell (i := 1) rfl
    have o2 := hc.cell (i := 2) rfl
    have o3 := hc.cell (i := 3) rfl
    have o4 := hc.cell (i := 4) rfl
    have o5 := hc.cell (i := 5) rfl
    have o6 := hc.cell (i := 6) rfl
    clear hc
    go_wp2_with fail
    refine (HC8.out z V6 n2 HZ.out.2.2.2.2.1 HZ.out.1 HZ.out.2.1 HZ.out.2.2.2.1).mono ?_
    rintro e w6 ⟨z', rfl, hEq, hin, _, hK6⟩
    clear o0 o1 o2 o3 o4 o5 o6
    have HZ2 : Hid (z'.In w6 w6.heap.size ∧ chk z' = chk z ∧ KF V6 w6) := ⟨hin, (chk_pure hEq.pure).symm, hK6⟩
    clear hEq hin hK6
    obtain ⟨F2, hF2⟩ : ∃ F : Flt, F = chk z := ⟨_, rfl⟩
    have HF2 : Hid (F2 = chk z) := hF2
    clear hF2
    go_wp2_with fail
    refine (dcheck_any z' w6 w6.heap.size HZ2.out.1 (Nat.le_refl _)).mono ?_
    rintro e w7 ⟨rfl, hK7⟩
    rw [HZ2.out.2.1, ← HF2.out]
    obtain ⟨Q5, hQ5⟩ : ∃ Q5, Q5 = w7.heap.size := ⟨_, rfl⟩
    obtain ⟨V8, hV8⟩ : ∃ V8, V8 = w7.alloc (.cells #[.int .i64 F2.a, .int .i64 F2.b] 34) := ⟨_, rfl⟩
    have k8 : KF V6 V8 := by rw [hV8]; exact (HZ2.out.2.2.trans hK7 fun _ _ e => e).alloc _
    have HZ3 : Hid (z.In V8 n2 ∧ n2 ≤ V8.heap.size ∧ Blk V8 Ob yv 26 ∧ Blk V8 Q5 [.int .i64 F2.a, .int .i64 F2.b] 34 ∧ KF w V8) := ⟨HZ.out.1.keeps HZ.out.2.1 k8, Nat.le_trans HZ.out.2.1 k8.size, HZ.out.2.2.1.kept k8 fun e => e, by rw [hV8, hQ5]; exact Blk.new _ _ _, HZ.out.2.2.2.2.2.trans k8 fun _ _ e => e⟩
    clear hK7 k8
    go_upto_region 15 with fail
    rw [← hV8, ← hQ5]
    clear hV8 hQ5
    have hc := HZ3.out.2.2.1
    rw [HXL.out.2.2] at hc
    have o0 := hc.cell (i := 0) rfl
    have o1 := hc.cell (i := 1) rfl
    have o2 := hc.cell (i := 2) rfl
    have o3 := hc.cell (i := 3) rfl
    have o4 := hc.cell (i := 4) rfl
    have o5 := hc.cell (i := 5) rfl
    have o6 := hc.cell (i := 6) rfl
    clear hc
    go_wp2_with fail
    refine (HC6.out z V8 n2 HZ.out.2.2.2.2.1 HZ3.out.1 HZ3.out.2.1).mono ?_
    rintro e w9 ⟨rfl, hK9⟩
    rw [← HF2.out]
    clear o0 o1 o2 o3 o4 o5 o6
    obtain ⟨Q6, hQ6⟩ : ∃ Q6, Q6 = w9.heap.size := ⟨_, rfl⟩
    obtain ⟨V9, hV9⟩ : ∃ V9, V9 = w9.alloc (.cells #[.int .i64 F2.a, .int .i64 F2.b] 34) := ⟨_, rfl⟩
    have hB5 : Blk V9 Q5 [.int .i64 F2.a, .int .i64 F2.b] 34 := by rw [hV9]; exact (HZ3.out.2.2.2.1.kept hK9 fun e => e).alloc _
    have hB6 : Blk V9 Q6 [.int .i64 F2.a, .int .i64 F2.b] 34 := by rw [hV9, hQ6]; exact Blk.new _ _ _
    have HKF : Hid (KF w V9) := by rw [hV9]; exact (HZ3.out.2.2.2.2.trans hK9 fun _ _ e => e).alloc _
    go_upto_region 16 with fail
    rw [← hV9, ← hQ6]
    have r0 := hB5.cell (i := 0) rfl
    have r1 := hB5.cell (i := 1) rfl
    have s0 := hB6.cell (i := 0) rfl
    have s1 := hB6.cell (i := 1) rfl
    clear hV9 hQ6 hB5 hB6 hK9
    go_wp2
    go_ret
    exact ⟨rfl, HKF.out⟩
   ·
    obtain ⟨XL, hXL⟩ : ∃ XL, X.ws.length = XL := ⟨_, rfl⟩
    have hX0 : 0 < XL := by rw [← hXL, hws]; simp
    have d3 : (XL : Int) > 0 := by omega
    have d4 : (0 : Int) < XL := by omega
    rw [hXL] at hc1
    have hadG : adO (O 1 0).u = some ⟨G, 0, none⟩ := by rw [eR, hGd]; rfl
    obtain ⟨a1, _⟩ := HA.out.1.i1 0 X hX1
    rw [hadG, hws] at a1
    obtain ⟨g', o', ea', hcw⟩ := a1.at (j := 0) (x := yw) rfl
    cases ea'
    have u1 : V6.cell? ⟨G, 1, none⟩ = some (.int .i64 yw.u) := hcw 1 _ rfl
    obtain ⟨lG, tG, hbG⟩ := HA.out.2.2.2.2.2.2.1 1 0 G hadG
    have uf : V6.frozen? ⟨G, 1, none⟩ = false := hbG.frozen 1
    clear hbG
    have hGO : Ob ≠ G := by
     have h1 := HLT.out 1 0 G (ad_own hadG)
     have := HP.out.2.2.2.2.2.2.2.2.2
     omega
    have HS : Hid (∀ u, I64 u → ∃ z n2, z.In (V6.setCell ⟨G, 1, none⟩ (.int .i64 u)) n2 ∧ n2 ≤ (V6.setCell ⟨G, 1, none⟩ (.int .i64 u)).heap.size ∧ Blk (V6.setCell ⟨G, 1, none⟩ (.int .i64 u)) Ob yv 26 ∧ Sml z ∧ z.v = .agg yv.toArray ∧ KF w (V6.setCell ⟨G, 1, none⟩ (.int .i64 u))) := fun u hu => by
     have hcs1 : (x).cs = X :: rc := by rw [HA.out.2.2.2.2.2.1, hcs]
     have hB2 := HA.out.1.setU HD.out hcs1 hws hadG u
     have hf2 := HA.out.2.1.setU hcs1 hws hu
     have hs2 := HA.out.2.2.1.setU hcs1 hws (u := u)
     refine ⟨_, _, hB2.in hf2, Nat.le_refl _, HA.out.2.2.2.1.setCell_ne hGO _, hs2.pure (cfgO_pure _ O).symm, ?_, HA.out.2.2.2.2.2.2.2.setCell ⟨G, 1, none⟩ _ fun h => by have := HKW.out.2 1 0 G (ad_own hadG); simp only at h; omega⟩
     have := HA.out.2.2.2.2.1
     unfold Cfg.v cfgO at this ⊢
     simp only [List.length_map, List.length_range, hcs1, hcs, List.length_cons] at this ⊢
     exact this
    clear hcs hL0 hz hn2 hX1 ea8 hc0 m3 eR hkR hkR2 hGd hws hXL hX0 hadG a1 hcw hGO
    go_upto_region 14 with fail
    clear o4 d1 d2 d3 d4 hc1 u1 uf
    obtain ⟨uu, huu⟩ : ∃ uu, uu = wrap64 (yw.u + bits BinOp.and IntKind.i64 mk 3) := ⟨_, rfl⟩
    have hu64 : I64 uu := by rw [huu]; unfold I64 wrap64; omega
    rw [← huu]
    obtain ⟨z, n2, hZ⟩ := HS.out uu hu64
    obtain ⟨Vb, hVb⟩ : ∃ Vb, Vb = V6.setCell ⟨G, 1, none⟩ (.int .i64 uu) := ⟨_, rfl⟩
    rw [← hVb] at hZ ⊢
    clear hVb huu hu64 HS
    have HZ : Hid (z.In Vb n2 ∧ n2 ≤ Vb.heap.size ∧ Blk Vb Ob yv 26 ∧ Sml z ∧ z.v = .agg yv.toArray ∧ KF w Vb) := hZ
    clear hZ
    have hc := HZ.out.2.2.1
    rw [HXL.out.2.2] at hc
    have o0 := hc.cell (i := 0) rfl
    have o1 := hc.cell (i := 1) rfl
    have o2 := hc.cell (i := 2) rfl
    have o3 := hc.cell (i := 3) rfl
    have o4 := hc.cell (i := 4) rfl
    have o5 := hc.cell (i := 5) rfl
    have o6 := hc.cell (i := 6) rfl
    clear hc
    go_wp2_with fail
    refine (HC8.out z Vb n2 HZ.out.2.2.2.2.1 HZ.out.1 HZ.out.2.1 HZ.out.2.2.2.1).mono ?_
    rintro e w6 ⟨z', rfl, hEq, hin, _, hK6⟩
    clear o0 o1 o2 o3 o4 o5 o6
    have HZ2 : Hid (z'.In w6 w6.heap.size ∧ chk z' = chk z ∧ KF Vb w6) := ⟨hin, (chk_pure hEq.pure).symm, hK6⟩
    clear hEq hin hK6
    obtain ⟨F2, hF2⟩ : ∃ F : Flt, F = chk z := ⟨_, rfl⟩
    have HF2 : Hid (F2 = chk z) := hF2
    clear hF2
    go_wp2_with fail
    refine (dcheck_any z' w6 w6.heap.size HZ2.out.1 (Nat.le_refl _)).mono ?_
    rintro e w7 ⟨rfl, hK7⟩
    rw [HZ2.out.2.1, ← HF2.out]
    obtain ⟨Q5, hQ5⟩ : ∃ Q5, Q5 = w7.heap.size := ⟨_, rfl⟩
    obtain ⟨V8, hV8⟩ : ∃ V8, V8 = w7.alloc (.cells #[.int .i64 F2.a, .int .i64 F2.b] 34) := ⟨_, rfl⟩
    have k8 : KF Vb V8 := by rw [hV8]; exact (HZ2.out.2.2.trans hK7 fun _ _ e => e).alloc _
    have HZ3 : Hid (z.In V8 n2 ∧ n2 ≤ V8.heap.size ∧ Blk V8 Ob yv 26 ∧ Blk V8 Q5 [.int .i64 F2.a, .int .i64 F2.b] 34 ∧ KF w V8) := ⟨HZ.out.1.keeps HZ.out.2.1 k8, Nat.le_trans HZ.out.2.1 k8.size, HZ.out.2.2.1.kept k8 fun e => e, by rw [hV8, hQ5]; exact Blk.new _ _ _, HZ.out.2.2.2.2.2.trans k8 fun _ _ e => e⟩
    clear hK7 k8
    go_upto_region 15 with fail
    rw [← hV8, ← hQ5]
    clear hV8 hQ5
    have hc := HZ3.out.2.2.1
    rw [HXL.out.2.2] at hc
    have o0 := hc.cell (i := 0) rfl
    have o1 := hc.cell (i := 1) rfl
    have o2 := hc.cell (i := 2) rfl
    have o3 := hc.cell (i := 3) rfl
    have o4 := hc.cell (i := 4) rfl
    have o5 := hc.cell (i := 5) rfl
    have o6 := hc.cell (i := 6) rfl
    clear hc
    go_wp2_with fail
    refine (HC6.out z V8 n2 HZ.out.2.2.2.2.1 HZ3.out.1 HZ3.out.2.1).mono ?_
    rintro e w9 ⟨rfl, hK9⟩
    rw [← HF2.out]
    clear o0 o1 o2 o3 o4 o5 o6
    obtain ⟨Q6, hQ6⟩ : ∃ Q6, Q6 = w9.heap.size := ⟨_, rfl⟩
    obtain ⟨V9, hV9⟩ : ∃ V9, V9 = w9.alloc (.cells #[.int .i64 F2.a, .int .i64 F2.b] 34) := ⟨_, rfl⟩
    have hB5 : Blk V9 Q5 [.int .i64 F2.a, .int .i64 F2.b] 34 := by rw [hV9]; exact (HZ3.out.2.2.2.1.kept hK9 fun e => e).alloc _
    have hB6 : Blk V9 Q6 [.int .i64 F2.a, .int .i64 F2.b] 34 := by rw [hV9, hQ6]; exact Blk.new _ _ _
    have HKF : Hid (KF w V9) := by rw [hV9]; exact (HZ3.out.2.2.2.2.trans hK9 fun _ _ e => e).alloc _
    go_upto_region 16 with fail
    rw [← hV9, ← hQ6]
    have r0 := hB5.cell (i := 0) rfl
    have r1 := hB5.cell (i := 1) rfl
    have s0 := hB6.cell (i := 0) rfl
    have s1 := hB6.cell (i := 1) rfl
    clear hV9 hQ6 hB5 hB6 hK9
    go_wp2
    go_ret
    exact ⟨rfl, HKF.out⟩
 ·
  have hK0 : 0 < K := by have := HL.out.2.2.1; rw [hps] at this; simp at this; omega
  have t1 : (K : Int) > 0 := by omega
  have t2 : (0 : Int) < K := by omega
  obtain ⟨gP, hgad, hc⟩ := hBeg7.c2 0 (by rw [HL.out.2.2.1]; exact hK0)
  have ea := hgad
  rw [HE.out.2.2.2.1] at ea
  simp only [adO] at ea
  rw [ea] at o5
  have e0 : parO x O 0 = ⟨P.name, P.entry, P.action, P.restarts, P.inputs, P.outputs, adO (O 2 0).u, cpO (O 2 0).u, P.rs, adO (O 3 0).u, cpO (O 3 0).u, P.ps⟩ := parO_some (by rw [hps]; rfl)
  rw [e0] at hc
  have u1 : V6.cell? ⟨gP, 1, none⟩ = some (.int .i64 P.entry) := hc 1 _ rfl
  obtain ⟨lG, tG, hbG⟩ := HI7.out.1.fam.fz 0 3 gP hgad
  have uf : V6.frozen? ⟨gP, 1, none⟩ = false := hbG.frozen 1
  have hGO : Ob ≠ gP := by
   have h1 := HLT.out 0 3 gP (ad_own hgad)
   have := HP.out.2.2.2.2.2.2.2.2.2
   omega
  obtain ⟨V7, hV7⟩ : ∃ V7, V7 = V6.setCell ⟨gP, 1, none⟩ (.int .i64 mk) := ⟨_, rfl⟩
  have HA : Hid (Beg ({ x with ps := { P with entry := mk } :: rp } : Cfg) V7 O ∧ Fn ({ x with ps := { P with entry := mk } :: rp } : Cfg) ∧ Sml ({ x with ps := { P with entry := mk } :: rp } : Cfg) ∧ Blk V7 Ob yv 26 ∧ (cfgO ({ x with ps := { P with entry := mk } :: rp } : Cfg) O).v = .agg yv.toArray ∧ ({ x with ps := { P with entry := mk } :: rp } : Cfg).cs = x.cs ∧ Fz O V7 ∧ KF w V7) := by
   rw [hV7]
   refine ⟨hBeg7.setE HD.out hps hgad mk, HP.out.2.2.2.2.2.2.1.setE hps HP.out.2.2.2.2.2.1, HP.out.2.2.2.2.1.setE hps, HI7.out.1.own.setCell_ne hGO _, ?_, rfl, HI7.out.1.fam.fz.setCell _ _ _, (HKW.out.1.trans HI7.out.2.2.1 fun _ _ e => e).setCell ⟨gP, 1, none⟩ _ fun h => by have := HKW.out.2 0 3 gP (ad_own hgad); simp only at h; omega⟩
   have h2 := HV.out.2.1
   rw [HV.out.2.2.2] at h2
   unfold Cfg.v cfgO at h2 ⊢
   simp only [List.length_map, List.length_range, hps, List.length_cons] at h2 ⊢
   exact h2
  clear hps hK0 hBeg7 hgad hc ea e0 hbG hGO
  go_upto_region 12 with fail
  rw [← hV7]
  clear hV7 o5 t1 t2 u1 uf
  obtain ⟨z, hz⟩ : ∃ z, z = cfgO ({ x with ps := { P with entry := mk } :: rp } : Cfg) O := ⟨_, rfl⟩
  obtain ⟨n2, hn2⟩ : ∃ n2, n2 = V7.heap.size := ⟨_, rfl⟩
  have o4 := HA.out.2.2.2.1
  rw [HXL.out.2.2] at o4
  replace o4 := o4.cell (i := 4) rfl
  rcases hcs : x.cs with _ | ⟨X, rc⟩
  ·
   have hL0 : L = 0 := by have := HL.out.2.1; rw [hcs] at this; exact this.symm
   have d1 : ¬ ((L : Int) > 0) := by omega
   have d2 : ¬ ((0 : Int) < L) := by omega
   have hZ : z.In V7 n2 ∧ n2 ≤ V7.heap.size ∧ Blk V7 Ob yv 26 ∧ Sml z ∧ z.v = .agg yv.toArray ∧ KF w V7 := by
    rw [hz, hn2]
    exact ⟨HA.out.1.in HA.out.2.1, Nat.le_refl _, HA.out.2.2.2.1, HA.out.2.2.1.pure (cfgO_pure _ O).symm, HA.out.2.2.2.2.1, HA.out.2.2.2.2.2.2.2⟩
   clear hcs hL0 hz hn2
   go_upto_region 14 with fail
   clear o4 d1 d2
   have HZ : Hid (z.In V7 n2 ∧ n2 ≤ V7.heap.size ∧ Blk V7 Ob yv 26 ∧ Sml z ∧ z.v = .agg yv.toArray ∧ KF w V7) := hZ
   clear hZ
   have hc := HZ.out.2.2.1
   rw [HXL.out.2.2] at hc
   have o0 := hc.cell (i := 0) rfl
   have o1 := hc.cell (i := 1) rfl
   have o2 := hc.cell (i := 2) rfl
   have o3 := hc.cell (i := 3) rfl
   have o4 := hc.cell (i := 4) rfl
   have o5 := hc.cell (i := 5) rfl
   have o6 := hc.cell (i := 6) rfl
   clear hc
   go_wp2_with fail
   refine (HC8.out z V7 n2 HZ.out.2.2.2.2.1 HZ.out.1 HZ.out.2.1 HZ.out.2.2.2.1).mono ?_
   rintro e w6 ⟨z', rfl, hEq, hin, _, hK6⟩
   clear o0 o1 o2 o3 o4 o5 o6
   have HZ2 : Hid (z'.In w6 w6.heap.size ∧ chk z' = chk z ∧ KF V7 w6) := ⟨hin, (chk_pure hEq.pure).symm, hK6⟩
   clear hEq hin hK6
   obtain ⟨F2, hF2⟩ : ∃ F : Flt, F = chk z := ⟨_, rfl⟩
   have HF2 : Hid (F2 = chk z) := hF2
   clear hF2
   go_wp2_with fail
   refine (dcheck_any z' w6 w6.heap.size HZ2.out.1 (Nat.le_refl _)).mono ?_
   rintro e w7 ⟨rfl, hK7⟩
   rw [HZ2.out.2.1, ← HF2.out]
   obtain ⟨Q5, hQ5⟩ : ∃ Q5, Q5 = w7.heap.size := ⟨_, rfl⟩
   obtain ⟨V8, hV8⟩ : ∃ V8, V8 = w7.alloc (.cells #[.int .i64 F2.a, .int .i64 F2.b] 34) := ⟨_, rfl⟩
   have k8 : KF V7 V8 := by rw [hV8]; exact (HZ2.out.2.2.trans hK7 fun _ _ e => e).alloc _
   have HZ3 : Hid (z.In V8 n2 ∧ n2 ≤ V8.heap.size ∧ Blk V8 Ob yv 26 ∧ Blk V8 Q5 [.int .i64 F2.a, .int .i64 F2.b] 34 ∧ KF w V8) := ⟨HZ.out.1.keeps HZ.out.2.1 k8, Nat.le_trans HZ.out.2.1 k8.size, HZ.out.2.2.1.kept k8 fun e => e, by rw [hV8, hQ5]; exact Blk.new _ _ _, HZ.out.2.2.2.2.2.trans k8 fun _ _ e => e⟩
   clear hK7 k8
   go_upto_region 15 with fail
   rw [← hV8, ← hQ5]
   clear hV8 hQ5
   have hc := HZ3.out.2.2.1
   rw [HXL.out.2.2] at hc
   have o0 := hc.cell (i := 0) rfl
   have o1 := hc.cell (i := 1) rfl
   have o2 := hc.cell (i := 2) rfl
   have o3 := hc.cell (i := 3) rfl
   have o4 := hc.cell (i := 4) rfl
   have o5 := hc.cell (i := 5) rfl
   have o6 := hc.cell (i := 6) rfl
   clear hc
   go_wp2_with fail
   refine (HC6.out z V8 n2 HZ.out.2.2.2.2.1 HZ3.out.1 HZ3.out.2.1).mono ?_
   rintro e w9 ⟨rfl, hK9⟩
   rw [← HF2.out]
   clear o0 o1 o2 o3 o4 o5 o6
   obtain ⟨Q6, hQ6⟩ : ∃ Q6, Q6 = w9.heap.size := ⟨_, rfl⟩
   obtain ⟨V9, hV9⟩ : ∃ V9, V9 = w9.alloc (.cells #[.int .i64 F2.a, .int .i64 F2.b] 34) := ⟨_, rfl⟩
   have hB5 : Blk V9 Q5 [.int .i64 F2.a, .int .i64 F2.b] 34 := by rw [hV9]; exact (HZ3.out.2.2.2.1.kept hK9 fun e => e).alloc _
   have hB6 : Blk V9 Q6 [.int .i64 F2.a, .int .i64 F2.b] 34 := by rw [hV9, hQ6]; exact Blk.new _ _ _
   have HKF : Hid (KF w V9) := by rw [hV9]; exact (HZ3.out.2.2.2.2.trans hK9 fun _ _ e => e).alloc _
   go_upto_region 16 with fail
   rw [← hV9, ← hQ6]
   have r0 := hB5.cell (i := 0) rfl
   have r1 := hB5.cell (i := 1) rfl
   have s0 := hB6.cell (i := 0) rfl
   have s1 := hB6.cell (i := 1) rfl
   clear hV9 hQ6 hB5 hB6 hK9
   go_wp2
   go_ret
   exact ⟨rfl, HKF.out⟩
  ·
   have hL0 : 0 < L := by have := HL.out.2.1; rw [hcs] at this; simp at this; omega
   have d1 : (L : Int) > 0 := by omega
   have d2 : (0 : Int) < L := by omega
   have hX1 : (({ x with ps := { P with entry := mk } :: rp } : Cfg)).cs[0]? = some X := by rw [HA.out.2.2.2.2.2.1, hcs]; rfl
   obtain ⟨gC, ea8, hc0⟩ := HA.out.1.c0 0 (by have := (List.getElem?_eq_some_iff.1 hX1).1; exact this)
   rw [HE.out.2.1] at ea8
   simp only [adO] at ea8
   rw [ea8] at o4
   obtain ⟨_, _, m3⟩ := HP.out.1.c1 0 X (by omega) (by rw [hcs]; rfl)
   obtain ⟨dR, kR, eR, hkR, hkR2⟩ := HI7.out.1.fam.form 1 0
   rw [m3.1] at eR hkR
   obtain ⟨G, hGd, _, _⟩ := at_cell (HI7.out.1.fam.own 1 0) (m3.2.2 X.ws.length (Nat.le_refl _) (by omega)) (by rw [m3.1]; exact eR) (by simp [wM])
   have hc1 : V7.cell? ⟨gC, 0, none⟩ = some (.slice (some ⟨G, 0, none⟩) X.ws.length kR) := by
    rw [hc0]
    unfold coreO
    rw [wsO_some hX1, eR, hGd]
    rfl
   rcases hws : X.ws with _ | ⟨yw, qw⟩
   ·
    rw [hws] at hc1
    have hc2 : V7.cell? ⟨gC, 0, none⟩ = some (.slice (some ⟨G, 0, none⟩) 0 kR) := hc1
    have hZ : z.In V7 n2 ∧ n2 ≤ V7.heap.size ∧ Blk V7 Ob yv 26 ∧ Sml z ∧ z.v = .agg yv.toArray ∧ KF w V7 := by
     rw [hz, hn2]
     exact ⟨HA.out.1.in HA.out.2.1, Nat.le_refl _, HA.out.2.2.2.1, HA.out.2.2.1.pure (cfgO_pure _ O).symm, HA.out.2.2.2.2.1, HA.out.2.2.2.2.2.2.2⟩
    clear hcs hL0 hz hn2 hX1 ea8 hc0 m3 eR hkR hkR2 hGd hc1 hws
    go_upto_region 14 with fail
    clear o4 d1 d2 hc2
    have HZ : Hid (z.In V7 n2 ∧ n2 ≤ V7.heap.size ∧ Blk V7 Ob yv 26 ∧ Sml z ∧ z.v = .agg yv.toArray ∧ KF w V7) := hZ
    clear hZ
    have hc := HZ.out.2.2.1
    rw [HXL.out.2.2] at hc
    have o0 := hc.cell (i := 0) rfl
    have o1 := hc.cell (i := 1) rfl
    have o2 := hc.cell (i := 2) rfl
    have o3 := hc.cell (i := 3) rfl
    have o4 := hc.cell (i := 4) rfl
    have o5 := hc.cell (i := 5) rfl
    have o6 := hc.cell (i := 6) rfl
    clear hc
    go_wp2_with fail
    refine (HC8.out z V7 n2 HZ.out.2.2.2.2.1 HZ.out.1 HZ.out.2.1 HZ.out.2.2.2.1).mono ?_
    rintro e w6 ⟨z', rfl, hEq, hin, _, hK6⟩
    clear o0 o1 o2 o3 o4 o5 o6
    have HZ2 : Hid (z'.In w6 w6.heap.size ∧ chk z' = chk z ∧ KF V7 w6) := ⟨hin, (chk_pure hEq.pure).symm, hK6⟩
    clear hEq hin hK6
    obtain ⟨F2, hF2⟩ : ∃ F : Flt, F = chk z := ⟨_, rfl⟩
    have HF2 : Hid (F2 = chk z) := hF2
    clear hF2
    go_wp2_with fail
    refine (dcheck_any z' w6 w6.heap.size HZ2.out.1 (Nat.le_refl _)).mono ?_
    rintro e w7 ⟨rfl, hK7⟩
    rw [HZ2.out.2.1, ← HF2.out]
    obtain ⟨Q5, hQ5⟩ : ∃ Q5, Q5 = w7.heap.size := ⟨_, rfl⟩
    obtain ⟨V8, hV8⟩ : ∃ V8, V8 = w7.alloc (.cells #[.int .i64 F2.a, .int .i64 F2.b] 34) := ⟨_, rfl⟩
    have k8 : KF V7 V8 := by rw [hV8]; exact (HZ2.out.2.2.trans hK7 fun _ _ e => e).alloc _
    have HZ3 : Hid (z.In V8 n2 ∧ n2 ≤ V8.heap.size ∧ Blk V8 Ob yv 26 ∧ Blk V8 Q5 [.int .i64 F2.a, .int .i64 F2.b] 34 ∧ KF w V8) := ⟨HZ.out.1.keeps HZ.out.2.1 k8, Nat.le_trans HZ.out.2.1 k8.size, HZ.out.2.2.1.kept k8 fun e => e, by rw [hV8, hQ5]; exact Blk.new _ _ _, HZ.out.2.2.2.2.2.trans k8 fun _ _ e => e⟩
    clear hK7 k8
    go_upto_region 15 with fail
    rw [← hV8, ← hQ5]
    clear hV8 hQ5
    have hc := HZ3.out.2.2.1
    rw [HXL.out.2.2] at hc
    have o0 := hc.cell (i := 0) rfl
    have o1 := hc.cell (i := 1) rfl
    have o2 := hc.cell (i := 2) rfl
    have o3 := hc.cell (i := 3) rfl
    have o4 := hc.cell (i := 4) rfl
    have o5 := hc.cell (i := 5) rfl
    have o6 := hc.cell (i := 6) rfl
    clear hc
    go_wp2_with fail
    refine (HC6.out z V8 n2 HZ.out.2.2.2.2.1 HZ3.out.1 HZ3.out.2.1).mono ?_
    rintro e w9 ⟨rfl, hK9⟩
    rw [← HF2.out]
    clear o0 o1 o2 o3 o4 o5 o6
    obtain ⟨Q6, hQ6⟩ : ∃ Q6, Q6 = w9.heap.size := ⟨_, rfl⟩
    obtain ⟨V9, hV9⟩ : ∃ V9, V9 = w9.alloc (.cells #[.int .i64 F2.a, .int .i64 F2.b] 34) := ⟨_, rfl⟩
    have hB5 : Blk V9 Q5 [.int .i64 F2.a, .int .i64 F2.b] 34 := by rw [hV9]; exact (HZ3.out.2.2.2.1.kept hK9 fun e => e).alloc _
    have hB6 : Blk V9 Q6 [.int .i64 F2.a, .int .i64 F2.b] 34 := by rw [hV9, hQ6]; exact Blk.new _ _ _
    have HKF : Hid (KF w V9) := by rw [hV9]; exact (HZ3.out.2.2.2.2.trans hK9 fun _ _ e => e).alloc _
    go_upto_region 16 with fail
    rw [← hV9, ← hQ6]
    have r0 := hB5.cell (i := 0) rfl
    have r1 := hB5.cell (i := 1) rfl
    have s0 := hB6.cell (i := 0) rfl
    have s1 := hB6.cell (i := 1) rfl
    clear hV9 hQ6 hB5 hB6 hK9
    go_wp2
    go_ret
    exact ⟨rfl, HKF.out⟩
   ·
    obtain ⟨XL, hXL⟩ : ∃ XL, X.ws.length = XL := ⟨_, rfl⟩
    have hX0 : 0 < XL := by rw [← hXL, hws]; simp
    have d3 : (XL : Int) > 0 := by omega
    have d4 : (0 : Int) < XL := by omega
    rw [hXL] at hc1
    have hadG : adO (O 1 0).u = some ⟨G, 0, none⟩ := by rw [eR, hGd]; rfl
    obtain ⟨a1, _⟩ := HA.out.1.i1 0 X hX1
    rw [hadG, hws] at a1
    obtain ⟨g', o', ea', hcw⟩ := a1.at (j := 0) (x := yw) rfl
    cases ea'
    have u1 : V7.cell? ⟨G, 1, none⟩ = some (.int .i64 yw.u) := hcw 1 _ rfl
    obtain ⟨lG, tG, hbG⟩ := HA.out.2.2.2.2.2.2.1 1 0 G hadG
    have uf : V7.frozen? ⟨G, 1, none⟩ = false := hbG.frozen 1
    clear hbG
    have hGO : Ob ≠ G := by
     have h1 := HLT.out 1 0 G (ad_own hadG)
     have := HP.out.2.2.2.2.2.2.2.2.2
     omega
    have HS : Hid (∀ u, I64 u → ∃ z n2, z.In (V7.setCell ⟨G, 1, none⟩ (.int .i64 u)) n2 ∧ n2 ≤ (V7.setCell ⟨G, 1, none⟩ (.int .i64 u)).heap.size ∧ Blk (V7.setCell ⟨G, 1, none⟩ (.int .i64 u)) Ob yv 26 ∧ Sml z ∧ z.v = .agg yv.toArray ∧ KF w (V7.setCell ⟨G, 1, none⟩ (.int .i64 u))) := fun u hu => by
     have hcs1 : (({ x with ps := { P with entry := mk } :: rp } : Cfg)).cs = X :: rc := by rw [HA.out.2.2.2.2.2.1, hcs]
     have hB2 := HA.out.1.setU HD.out hcs1 hws hadG u
     have hf2 := HA.out.2.1.setU hcs1 hws hu
     have hs2 := HA.out.2.2.1.setU hcs1 hws (u := u)
     refine ⟨_, _, hB2.in hf2, Nat.le_refl _, HA.out.2.2.2.1.setCell_ne hGO _, hs2.pure (cfgO_pure _ O).symm, ?_, HA.out.2.2.2.2.2.2.2.setCell ⟨G, 1, none⟩ _ fun h => by have := HKW.out.2 1 0 G (ad_own hadG); simp only at h; omega⟩
     have := HA.out.2.2.2.2.1
     unfold Cfg.v cfgO at this ⊢
     simp only [List.length_map, List.length_range, hcs1, hcs, List.length_cons] at this ⊢
     exact this
    clear hcs hL0 hz hn2 hX1 ea8 hc0 m3 eR hkR hkR2 hGd hws hXL hX0 hadG a1 hcw hGO
    go_upto_region 14 with fail
    clear o4 d1 d2 d3 d4 hc1 u1 uf
    obtain ⟨uu, huu⟩ : ∃ uu, uu = wrap64 (yw.u + bits BinOp.and IntKind.i64 mk 3) := ⟨_, rfl⟩
    have hu64 : I64 uu := by rw [huu]; unfold I64 wrap64; omega
    rw [← huu]
    obtain ⟨z, n2, hZ⟩ := HS.out uu hu64
    obtain ⟨Vb, hVb⟩ : ∃ Vb, Vb = V7.setCell ⟨G, 1, none⟩ (.int .i64 uu) := ⟨_, rfl⟩
    rw [← hVb] at hZ ⊢
    clear hVb huu hu64 HS
    have HZ : Hid (z.In Vb n2 ∧ n2 ≤ Vb.heap.size ∧ Blk Vb Ob yv 26 ∧ Sml z ∧ z.v = .agg yv.toArray ∧ KF w Vb) := hZ
    clear hZ
    have hc := HZ.out.2.2.1
    rw [HXL.out.2.2] at hc
    have o0 := hc.cell (i := 0) rfl
    have o1 := hc.cell (i := 1) rfl
    have o2 := hc.cell (i := 2) rfl
    have o3 := hc.cell (i := 3) rfl
    have o4 := hc.cell (i := 4) rfl
    have o5 := hc.cell (i := 5) rfl
    have o6 := hc.cell (i := 6) rfl
    clear hc
    go_wp2_with fail
    refine (HC8.out z Vb n2 HZ.out.2.2.2.2.1 HZ.out.1 HZ.out.2.1 HZ.out.2.2.2.1).mono ?_
    rintro e w6 ⟨z', rfl, hEq, hin, _, hK6⟩
    clear o0 o1 o2 o3 o4 o5 o6
    have HZ2 : Hid (z'.In w6 w6.heap.size ∧ chk z' = chk z ∧ KF Vb w6) := ⟨hin, (chk_pure hEq.pure).symm, hK6⟩
    clear hEq hin hK6
    obtain ⟨F2, hF2⟩ : ∃ F : Flt, F = chk z := ⟨_, rfl⟩
    have HF2 : Hid (F2 = chk z) := hF2
    clear hF2
    go_wp2_with fail
    refine (dcheck_any z' w6 w6.heap.size HZ2.out.1 (Nat.le_refl _)).mono ?_
    rintro e w7 ⟨rfl, hK7⟩
    rw [HZ2.out.2.1, ← HF2.out]
    obtain ⟨Q5, hQ5⟩ : ∃ Q5, Q5 = w7.heap.size := ⟨_, rfl⟩
    obtain ⟨V8, hV8⟩ : ∃ V8, V8 = w7.alloc (.cells #[.int .i64 F2.a, .int .i64 F2.b] 34) := ⟨_, rfl⟩
    have k8 : KF Vb V8 := by rw [hV8]; exact (HZ2.out.2.2.trans hK7 fun _ _ e => e).alloc _
    have HZ3 : Hid (z.In V8 n2 ∧ n2 ≤ V8.heap.size ∧ Blk V8 Ob yv 26 ∧ Blk V8 Q5 [.int .i64 F2.a, .int .i64 F2.b] 34 ∧ KF w V8) := ⟨HZ.out.1.keeps HZ.out.2.1 k8, Nat.le_trans HZ.out.2.1 k8.size, HZ.out.2.2.1.kept k8 fun e => e, by rw [hV8, hQ5]; exact Blk.new _ _ _, HZ.out.2.2.2.2.2.trans k8 fun _ _ e => e⟩
    clear hK7 k8
    go_upto_region 15 with fail
    rw [← hV8, ← hQ5]
    clear hV8 hQ5
    have hc := HZ3.out.2.2.1
    rw [HXL.out.2.2] at hc
    have o0 := hc.cell (i := 0) rfl
    have o1 := hc.cell (i := 1) rfl
    have o2 := hc.cell (i := 2) rfl
    have o3 := hc.cell (i := 3) rfl
    have o4 := hc.cell (i := 4) rfl
    have o5 := hc.cell (i := 5) rfl
    have o6 := hc.cell (i := 6) rfl
    clear hc
    go_wp2_with fail
    refine (HC6.out z V8 n2 HZ.out.2.2.2.2.1 HZ3.out.1 HZ3.out.2.1).mono ?_
    rintro e w9 ⟨rfl, hK9⟩
    rw [← HF2.out]
    clear o0 o1 o2 o3 o4 o5 o6
    obtain ⟨Q6, hQ6⟩ : ∃ Q6, Q6 = w9.heap.size := ⟨_, rfl⟩
    obtain ⟨V9, hV9⟩ : ∃ V9, V9 = w9.alloc (.cells #[.int .i64 F2.a, .int .i64 F2.b] 34) := ⟨_, rfl⟩
    have hB5 : Blk V9 Q5 [.int .i64 F2.a, .int .i64 F2.b] 34 := by rw [hV9]; exact (HZ3.out.2.2.2.1.kept hK9 fun e => e).alloc _
    have hB6 : Blk V9 Q6 [.int .i64 F2.a, .int .i64 F2.b] 34 := by rw [hV9, hQ6]; exact Blk.new _ _ _
    have HKF : Hid (KF w V9) := by rw [hV9]; exact (HZ3.out.2.2.2.2.trans hK9 fun _ _ e => e).alloc _
    go_upto_region 16 with fail
    rw [← hV9, ← hQ6]
    have r0 := hB5.cell (i := 0) rfl
    have r1 := hB5.cell (i := 1) rfl
    have s0 := hB6.cell (i := 0) rfl
    have s1 := hB6.cell (i := 1) rfl
    clear hV9 hQ6 hB5 hB6 hK9
    go_wp2
    go_ret
    exact ⟨rfl, HKF.out⟩
end Go.Proofs.YtlnmlbkeemahcaaGreat
