import Derived.Test.YtjadpbkhfclldaaGreatMl
namespace Go.Proofs.YtjadpbkhfclldaaGreat
open Go.RowKit Gw
set_option linter.unusedVariables false
set_option linter.unusedSimpArgs false
set_option maxRecDepth 8000


/-- What stands of y. -/
structure TY (gb P N C D L2 : Nat) (fm : List UInt8) (wa : Option Addr) (was x y1 : Cfg) (w0 w : World) : Prop where
  tk : TK gb P N C fm wa was w
  kp : Keeps (fun k => k = gb) w0 w
  lt : gb < P ∧ w0.heap.size < P ∧ P ≤ L2 ∧ L2 ≤ D
  yp : y1.pure = x.pure
  yl : y1.LstsR w L2
  yb : Blk w D y1.vs 26
theorem TY.kept {gb P N C D L2 : Nat} {fm : List UInt8} {wa : Option Addr} {was x y1 : Cfg} {w0 w w' : World} (h : TY gb P N C D L2 fm wa was x y1 w0 w) (hK : Keeps (fun k => k = gb ∨ (P ≤ k ∧ k < L2)) w w') : TY gb P N C D L2 fm wa was x y1 w0 w' :=
  ⟨h.tk.kept (hK.mono fun k _ e => e.elim .inl fun e => .inr e.1), h.kp.trans hK fun b hb e => by have := h.lt; omega, h.lt, h.yp, h.yl.kept hK fun k e => by have := h.lt; omega, h.yb.kept hK fun e => by have := h.lt; omega⟩
theorem TY.grown {gb P N C D L2 : Nat} {fm : List UInt8} {wa : Option Addr} {was x y1 : Cfg} {w0 w w' : World} (h : TY gb P N C D L2 fm wa was x y1 w0 w) (hK : Keeps (fun _ => False) w w') : TY gb P N C D L2 fm wa was x y1 w0 w' := h.kept (hK.mono fun _ _ e => e.elim)
/-- What stands of x. -/
structure TX (gb P H A L1 L2 : Nat) (fm : List UInt8) (x x1 : Cfg) (w : World) : Prop where
  lt : gb < P ∧ P ≤ H ∧ H < L1 ∧ L1 ≤ A ∧ A < L2
  xp : x1.pure = x.pure
  xl : x1.LstsR w L1
  xb : Blk w A x1.vs 26
  xr : ∀ k, x1.B k → k < A
theorem TX.kept {gb P H A L1 L2 : Nat} {fm : List UInt8} {x x1 : Cfg} {w w' : World} (h : TX gb P H A L1 L2 fm x x1 w) (hK : Keeps (fun k => k = gb ∨ k = H) w w') : TX gb P H A L1 L2 fm x x1 w' :=
  ⟨h.lt, h.xp, h.xl.kept hK fun k e => by have := h.lt; omega, h.xb.kept hK fun e => by have := h.lt; omega, h.xr⟩
theorem TX.grown {gb P H A L1 L2 : Nat} {fm : List UInt8} {x x1 : Cfg} {w w' : World} (h : TX gb P H A L1 L2 fm x x1 w) (hK : Keeps (fun _ => False) w w') : TX gb P H A L1 L2 fm x x1 w' := h.kept (hK.mono fun _ _ e => e.elim)

set_option maxHeartbeats 16000000 in
/-- bulkheadlaw11.taken. -/
theorem taken_any (x was : Cfg) (gb N : Nat) (wa : Option Addr) (wc F : Nat) (w : World) (hd : x.d = false) (hpd : x.pure.d = x.d) (hp : was.pure = x.pure) (hFF : F = (form x).length) (hF : F ≤ 16384) (hF0 : 0 < F) (hb : Blk w gb (bvs (form x)) 5) (hwa : Seg w wa (form x)) (hwc : F ≤ wc ∧ wc ≤ maxLen)
    (hne : ∀ y, wa = some y → y.block ≠ gb ∧ y.block < w.heap.size) (hwas : was.In w N) (hN : N ≤ gb) (hB : Bnd x) :
    Calls Tryz.prog 12 #[.slice (some ⟨gb, 0, none⟩) F F, .slice wa F wc, was.v] w fun e w' => e = .returned (.bool true) ∧ Keeps (fun k => k = gb) w w' := by
  obtain ⟨fm, hfm⟩ : ∃ fm, fm = form x := ⟨_, rfl⟩
  rw [← hfm] at hFF hb hwa
  obtain ⟨W0, hW0⟩ : ∃ W0, W0 = was.laid w := ⟨_, rfl⟩
  obtain ⟨C, hC⟩ : ∃ C, C = w.heap.size := ⟨_, rfl⟩
  have k0 : Keeps (fun _ => False) w W0 := by rw [hW0]; exact (Keeps.refl _ w).alloc _
  have hgl := hb.lt
  have HT0 : Hid (TK gb W0.heap.size N C fm wa was W0 ∧ Blk W0 gb (bvs fm) 5 ∧ Keeps (fun _ => False) w W0 ∧ gb < w.heap.size ∧ W0.heap.size = w.heap.size + 1) := by
    have hsz : W0.heap.size = w.heap.size + 1 := by rw [hW0]; simp [Cfg.laid]
    exact ⟨⟨hwa.kept k0 fun _ _ e => e, hwas.below (k0.below (by omega) fun _ e => e.elim), by rw [hW0, hC]; exact Blk.new _ _ _, fun y hy => ⟨(hne y hy).1, by have := (hne y hy).2; omega⟩, by omega, by omega, Nat.le_refl _⟩, hb.kept k0 fun e => e, k0, hgl, hsz⟩
  obtain ⟨P, hP⟩ : ∃ P, P = W0.heap.size := ⟨_, rfl⟩
  have HC : Hid (x.d = false ∧ x.pure.d = x.d ∧ was.pure = x.pure ∧ F = fm.length ∧ F ≤ 16384 ∧ fm = form x ∧ (F ≤ wc ∧ wc ≤ maxLen) ∧ Bnd x ∧ form x = pform x.pure ∧ P = W0.heap.size ∧ 0 < F ∧ w.heap.size < P) := ⟨hd, hpd, hp, hFF, hF, hfm, hwc, hB, cfgForm x, hP, hF0, by have := HT0.out; omega⟩
  rw [← hP] at HT0
  have HD : Hid (∀ (a : Option Addr) (cap : Nat) w, Seg w a fm → F ≤ cap ∧ cap ≤ maxLen → Calls Tryz.prog 26 #[.slice a F cap] w fun e w' => Keeps (fun _ => False) w w' ∧ ∃ z : Cfg, z.pure = x.pure ∧ e = .returned (.tuple #[z.v, .int .i64 0, .int .i64 0]) ∧ z.LstsR w' w.heap.size) := by
    intro a cap w hs hcap
    rw [hfm] at hs
    exact dec_k x hd F (by rw [hFF, hfm]) hF (cfgForm x) hpd a cap w hs hcap
  clear hd hpd hp hFF hF hfm hwc hB hb hwa hne hwas hN k0 hgl hP hF0
  unfold Cfg.laid at hW0
  go_enter Tryz.func12, Tryz.ntmps12
  go_upto_region 1 with fail
  rw [← hW0, ← hC]
  clear hW0 hC
  have HS1 : Hid (Calls Tryz.prog 11 #[.slice (some ⟨gb, 0, none⟩) F F, .slice wa F wc] W0 fun e w' => e = .returned (.bool true) ∧ Keeps (fun _ => False) W0 w') := by
    have := sameB_any (some ⟨gb, 0, none⟩) wa F wc fm W0 (seg_blk HT0.out.2.1) HT0.out.1.sg
    rw [← HC.out.2.2.2.1] at this
    exact this
  go_wp2_with fail
  refine HS1.out.mono ?_
  rintro e w1 ⟨rfl, hK1⟩
  have HT1 : Hid (TK gb P N C fm wa was w1 ∧ Blk w1 gb (bvs fm) 5 ∧ Keeps (fun k => k = gb) w w1 ∧ gb < P) := ⟨HT0.out.1.grown hK1, HT0.out.2.1.kept hK1 fun e => e, ((HT0.out.2.2.1).trans hK1 fun _ _ e => e).mono fun _ _ e => e.elim, by have := HT0.out; omega⟩
  clear hK1 HS1 HT0
  go_wp2_with fail
  refine (handK wa F wc fm w1 HT1.out.1.sg HC.out.2.2.2.1 HC.out.2.2.2.2.1).mono ?_
  rintro e w2 ⟨rfl, hBH, hK2⟩
  obtain ⟨H, hH⟩ : ∃ H, H = w1.heap.size := ⟨_, rfl⟩
  rw [← hH] at hBH ⊢
  have HT2 : Hid (TK gb P N C fm wa was w2 ∧ Blk w2 gb (bvs fm) 5 ∧ Keeps (fun k => k = gb) w w2 ∧ Blk w2 H (fK (F + 70) (spareK fm)) 5 ∧ P ≤ H ∧ gb < P) := ⟨HT1.out.1.grown hK2, HT1.out.2.1.kept hK2 fun e => e, HT1.out.2.2.1.trans hK2 fun _ _ e => e.elim, hBH, by rw [hH]; exact HT1.out.1.sz, HT1.out.2.2.2⟩
  have hFl : F ≤ 16384 := HC.out.2.2.2.2.1
  have hcapH : F ≤ F + 70 ∧ F + 70 ≤ maxLen := by unfold maxLen; omega
  clear hBH hK2 HT1 hH
  go_wp2_with fail
  refine (HD.out (some ⟨H, 0, none⟩) (F + 70) w2 (seg_spareK HT2.out.2.2.2.1 (by have := HC.out.2.2.2.1; omega)) hcapH).mono ?_
  rintro e w3 ⟨hK3, x1, hx1, rfl, hL1⟩
  obtain ⟨A, hA⟩ : ∃ A, A = w3.heap.size := ⟨_, rfl⟩
  obtain ⟨W3, hW3⟩ : ∃ W, W = w3.alloc (.cells x1.vs.toArray 26) := ⟨_, rfl⟩
  have k3 : Keeps (fun _ => False) w2 W3 := by rw [hW3]; exact hK3.alloc _
  have HT3 : Hid (TK gb P N C fm wa was W3 ∧ Blk W3 gb (bvs fm) 5 ∧ Keeps (fun k => k = gb) w W3 ∧ Blk W3 H (fK (F + 70) (spareK fm)) 5 ∧ (P ≤ H ∧ H < w2.heap.size ∧ gb < P) ∧ x1.pure = x.pure ∧ x1.LstsR W3 w2.heap.size ∧ Blk W3 A x1.vs 26 ∧ (∀ k, x1.B k → k < A) ∧ A < W3.heap.size ∧ w2.heap.size ≤ A) := by
    have ka : Keeps (fun _ => False) w3 W3 := by rw [hW3]; exact (Keeps.refl _ _).alloc _
    exact ⟨HT2.out.1.grown k3, HT2.out.2.1.kept k3 fun e => e, HT2.out.2.2.1.trans k3 fun _ _ e => e.elim, HT2.out.2.2.2.1.kept k3 fun e => e, ⟨HT2.out.2.2.2.2.1, HT2.out.2.2.2.1.lt, HT2.out.2.2.2.2.2⟩, hx1, hL1.kept ka fun _ e => e.elim, by rw [hW3, hA]; exact Blk.new _ _ _, fun k hk => by rw [hA]; exact (hL1.rangeB hk).2, by rw [hW3, hA]; simp, by rw [hA]; exact hK3.size⟩
  go_upto_region 5 with fail
  rw [← hW3, ← hA]
  clear hK3 hx1 hL1 hA hW3 k3 HT2
  go_wp2_with fail
  refine (HD.out (some ⟨H, 0, none⟩) (F + 70) W3 (seg_spareK HT3.out.2.2.2.1 (by have := HC.out.2.2.2.1; omega)) hcapH).mono ?_
  rintro e w4 ⟨hK4, y1, hy1, rfl, hM1⟩
  obtain ⟨D, hD⟩ : ∃ A, A = w4.heap.size := ⟨_, rfl⟩
  obtain ⟨W4, hW4⟩ : ∃ W, W = w4.alloc (.cells y1.vs.toArray 26) := ⟨_, rfl⟩
  have k4 : Keeps (fun _ => False) W3 W4 := by rw [hW4]; exact hK4.alloc _
  have HT4 : Hid (TK gb P N C fm wa was W4 ∧ Blk W4 gb (bvs fm) 5 ∧ Keeps (fun k => k = gb) w W4 ∧ Blk W4 H (fK (F + 70) (spareK fm)) 5 ∧ (P ≤ H ∧ H < w2.heap.size ∧ gb < P) ∧ x1.pure = x.pure ∧ x1.LstsR W4 w2.heap.size ∧ Blk W4 A x1.vs 26 ∧ ((∀ k, x1.B k → k < A) ∧ A < W3.heap.size ∧ w2.heap.size ≤ A) ∧ y1.pure = x.pure ∧ y1.LstsR W4 W3.heap.size ∧ Blk W4 D y1.vs 26 ∧ W3.heap.size ≤ D) := by
    have ka : Keeps (fun _ => False) w4 W4 := by rw [hW4]; exact (Keeps.refl _ _).alloc _
    exact ⟨HT3.out.1.grown k4, HT3.out.2.1.kept k4 fun e => e, HT3.out.2.2.1.trans k4 fun _ _ e => e.elim, HT3.out.2.2.2.1.kept k4 fun e => e, HT3.out.2.2.2.2.1, HT3.out.2.2.2.2.2.1, HT3.out.2.2.2.2.2.2.1.kept k4 fun _ e => e.elim, HT3.out.2.2.2.2.2.2.2.1.kept k4 fun e => e, HT3.out.2.2.2.2.2.2.2.2, hy1, hM1.kept ka fun _ e => e.elim, by rw [hW4, hD]; exact Blk.new _ _ _, by rw [hD]; exact hK4.size⟩
  go_upto_region 6 with fail
  rw [← hW4, ← hD]
  clear hK4 hy1 hM1 hD hW4 k4 HT3
  go_wp2_with fail
  refine (keptK H wa F wc fm W4 HT4.out.2.2.2.1 HT4.out.1.sg HC.out.2.2.2.1 hFl).mono ?_
  rintro e w5 ⟨rfl, h5⟩
  obtain rfl := h5.symm
  clear h5
  go_wp2_with fail
  refine (spoil_any (some ⟨H, 0, none⟩) F (F + 70) fm 9 W4 (own_spareK HT4.out.2.2.2.1 HC.out.2.2.2.1 hFl) hFl).mono ?_
  rintro e w6 ⟨rfl, ⟨ys, hyl, hyo⟩, hK6⟩
  obtain ⟨L1, hL1⟩ : ∃ L, L = w2.heap.size := ⟨_, rfl⟩
  obtain ⟨L2, hL2⟩ : ∃ L, L = W3.heap.size := ⟨_, rfl⟩
  have hK6' : Keeps (fun k => k = H) W4 w6 := hK6.mono fun k _ e => by simpa [bk] using e
  have HY0 : Hid (TY gb P N C D L2 fm wa was x y1 w w6 ∧ TX gb P H A L1 L2 fm x x1 w6 ∧ Blk w6 gb (bvs fm) 5) := by
    obtain ⟨a1, a2, a3, a4, ⟨b1, b2, b3⟩, a5, a6, a7, ⟨b4, b5, b6⟩, a8, a9, a10, a11⟩ := HT4.out
    have hwP := HC.out.2.2.2.2.2.2.2.2.2.2.2
    rw [← hL1] at b2 b6 a6
    rw [← hL2] at b5 a9 a11
    have h0 : TY gb P N C D L2 fm wa was x y1 w W4 := ⟨a1, a3, ⟨b3, hwP, by omega, a11⟩, a8, a9, a10⟩
    exact ⟨h0.kept (hK6'.mono fun k _ e => by omega), (show TX gb P H A L1 L2 fm x x1 W4 from ⟨⟨b3, b1, b2, b6, b5⟩, a5, a6, a7, b4⟩).kept (hK6'.mono fun k _ e => .inr e), a2.kept hK6' fun e => by omega⟩
  have HS : Hid (ys.length = F ∧ w6.ownsRow 0 5 1 (.slice (some ⟨H, 0, none⟩) F (F + 70)) F (bvs ys)) := ⟨hyl, hyo⟩
  have HD7 : Hid (Calls Tryz.prog 26 #[.slice (some ⟨H, 0, none⟩) F (F + 70)] w6 (DecP w6 ys)) := by
    have := dec_any ys (by omega) (some ⟨H, 0, none⟩) (F + 70) w6 (seg_ownB hyo) (by omega) (fun _ y hy => by injection hy with hy; subst hy; exact own_ltR hyo rfl)
    rw [hyl] at this
    exact this
  clear HT4 hK6 hK6' hyl hyo hL1 hL2
  go_wp2_with fail
  refine HD7.out.mono ?_
  clear HD7
  intro e w7 hP7
  obtain ⟨n1, n2, n3, n4, ca, M1, cc, pa, M2, pc, ha, M3, hc, q, k, rfl, hK7, hx7⟩ := hP7.open
  clear hP7
  obtain ⟨E, hE⟩ : ∃ A, A = w7.heap.size := ⟨_, rfl⟩
  obtain ⟨W7, hW7⟩ : ∃ W, W = w7.alloc (.cells #[.int .i64 n1, .int .i64 n2, .int .i64 n3, .int .i64 n4, .slice ca M1 cc, .slice pa M2 pc, .slice ha M3 hc] 26) := ⟨_, rfl⟩
  have HA7 : Hid (Keeps (fun _ => False) w6 W7 ∧ Blk W7 E [.int .i64 n1, .int .i64 n2, .int .i64 n3, .int .i64 n4, .slice ca M1 cc, .slice pa M2 pc, .slice ha M3 hc] 26 ∧ ∃ X : Cfg, X.v = .agg #[.int .i64 n1, .int .i64 n2, .int .i64 n3, .int .i64 n4, .slice ca M1 cc, .slice pa M2 pc, .slice ha M3 hc] ∧ X.Ok W7 ∧ decA ys = (X.pure, q, k)) := by
    obtain ⟨X, h1, h2, h3⟩ := hx7
    have ka : Keeps (fun _ => False) w7 W7 := by rw [hW7]; exact (Keeps.refl _ _).alloc _
    exact ⟨hK7.trans ka fun _ _ e => e, by rw [hW7, hE]; exact Blk.new w7 _ _, X, h1, h2.grown ka, h3⟩
  go_upto_region 10 with fail
  rw [← hW7, ← hE]
  clear hK7 hx7 hW7 hE
  have HB7 : Hid (W7.ownsRow 0 5 1 (.slice (some ⟨H, 0, none⟩) F (F + 70)) F (bvs ys)) := owns_kept HS.out.2 HA7.out.1 fun _ _ e => e
  go_wp2_with fail
  refine (handK (some ⟨H, 0, none⟩) F (F + 70) ys W7 (seg_ownB HB7.out) HS.out.1.symm hFl).mono ?_
  rintro e w8 ⟨rfl, hB8, hK8⟩
  obtain ⟨H2, hH2⟩ : ∃ H, H = W7.heap.size := ⟨_, rfl⟩
  rw [← hH2] at hB8 ⊢
  have HR8 : Hid (Calls Tryz.prog 29 #[.slice (some ⟨H2, 0, none⟩) F (F + 70)] w8 (DecP w8 ys)) := by
    have hyl := HS.out.1
    have := refDecode_any ys (some ⟨H2, 0, none⟩) (F + 70) w8 (seg_spareK hB8 (by omega)) (by omega) (fun _ y hy => by injection hy with hy; subst hy; exact hB8.lt)
    rw [hyl] at this
    exact this
  have HK8 : Hid (Keeps (fun _ => False) W7 w8) := hK8
  clear hB8 hK8 hH2 HB7
  go_wp2_with fail
  refine HR8.out.mono ?_
  clear HR8
  intro e w9 hP9
  obtain ⟨m1, m2, m3, m4, da, K1, dc, qa, K2, qc, ea, K3, ec, q', k', rfl, hK9, hy9⟩ := hP9.open
  clear hP9
  obtain ⟨G, hG⟩ : ∃ A, A = w9.heap.size := ⟨_, rfl⟩
  obtain ⟨W9, hW9⟩ : ∃ W, W = w9.alloc (.cells #[.int .i64 m1, .int .i64 m2, .int .i64 m3, .int .i64 m4, .slice da K1 dc, .slice qa K2 qc, .slice ea K3 ec] 26) := ⟨_, rfl⟩
  have ka : Keeps (fun _ => False) w9 W9 := by rw [hW9]; exact (Keeps.refl _ _).alloc _
  have k79 : Keeps (fun _ => False) W7 W9 := (HK8.out.trans hK9 fun _ _ e => e).trans ka fun _ _ e => e
  have hall : q' = q ∧ k' = k ∧ Calls Tryz.prog 22 #[.agg #[.int .i64 n1, .int .i64 n2, .int .i64 n3, .int .i64 n4, .slice ca M1 cc, .slice pa M2 pc, .slice ha M3 hc], .agg #[.int .i64 m1, .int .i64 m2, .int .i64 m3, .int .i64 m4, .slice da K1 dc, .slice qa K2 qc, .slice ea K3 ec]] W9 fun e w' => e = .returned (.bool true) ∧ Keeps (fun _ => False) W9 w' := by
    obtain ⟨X, h1, h2, h3⟩ := HA7.out.2.2
    obtain ⟨Y, h4, h5, h6⟩ := hy9
    rw [h3] at h6
    injection h6 with e1 e2
    injection e2 with e2 e3
    refine ⟨e2.symm, e3.symm, ?_⟩
    rw [← h1, ← h4]
    exact same_eq X Y W9 e1 (h2.grown k79) (h5.grown ka)
  have HA9 : Hid (Blk W9 E [.int .i64 n1, .int .i64 n2, .int .i64 n3, .int .i64 n4, .slice ca M1 cc, .slice pa M2 pc, .slice ha M3 hc] 26 ∧ Blk W9 G [.int .i64 m1, .int .i64 m2, .int .i64 m3, .int .i64 m4, .slice da K1 dc, .slice qa K2 qc, .slice ea K3 ec] 26 ∧ Keeps (fun _ => False) w6 W9) := ⟨HA7.out.2.1.kept k79 fun e => e, by rw [hW9, hG]; exact Blk.new w9 _ _, HA7.out.1.trans k79 fun _ _ e => e⟩
  obtain ⟨rfl, rfl, hsm⟩ := hall
  have HSm : Hid (Calls _ _ _ _ _) := hsm
  clear hsm HA7 hK9 hy9 ka k79 HK8
  go_upto_region 11 with fail
  rw [← hW9, ← hG]
  clear hW9 hG
  have HY1 : Hid (TY gb P N C D L2 fm wa was x y1 w W9 ∧ TX gb P H A L1 L2 fm x x1 W9 ∧ Blk W9 gb (bvs fm) 5) := ⟨HY0.out.1.grown HA9.out.2.2, HY0.out.2.1.grown HA9.out.2.2, HY0.out.2.2.kept HA9.out.2.2 fun e => e⟩
  have c0 := (HA9.out.1).cell (i := 0) rfl
  have c1 := (HA9.out.1).cell (i := 1) rfl
  have c2 := (HA9.out.1).cell (i := 2) rfl
  have c3 := (HA9.out.1).cell (i := 3) rfl
  have c4 := (HA9.out.1).cell (i := 4) rfl
  have c5 := (HA9.out.1).cell (i := 5) rfl
  have c6 := (HA9.out.1).cell (i := 6) rfl
  have d0 := (HA9.out.2.1).cell (i := 0) rfl
  have d1 := (HA9.out.2.1).cell (i := 1) rfl
  have d2 := (HA9.out.2.1).cell (i := 2) rfl
  have d3 := (HA9.out.2.1).cell (i := 3) rfl
  have d4 := (HA9.out.2.1).cell (i := 4) rfl
  have d5 := (HA9.out.2.1).cell (i := 5) rfl
  have d6 := (HA9.out.2.1).cell (i := 6) rfl
  clear HA9 HY0
  go_wp2_with fail
  refine HSm.out.mono ?_
  rintro e w10 ⟨rfl, hK10⟩
  have HY2 : Hid (TY gb P N C D L2 fm wa was x y1 w w10 ∧ TX gb P H A L1 L2 fm x x1 w10 ∧ w10.ownsRow 0 5 1 (.slice (some ⟨gb, 0, none⟩) F F) F (bvs fm)) := by
    have hb := HY1.out.2.2.kept hK10 fun e => e
    have ho := own_bytes hb (by have := HC.out.2.2.2.1; omega)
    rw [← HC.out.2.2.2.1] at ho
    exact ⟨HY1.out.1.grown hK10, HY1.out.2.1.grown hK10, ho⟩
  clear c0 c1 c2 c3 c4 c5 c6 d0 d1 d2 d3 d4 d5 d6
  clear HSm hK10 HY1
  go_wp2_with fail
  refine (spoil_any (some ⟨gb, 0, none⟩) F F fm 7 w10 HY2.out.2.2 hFl).mono ?_
  rintro e w11 ⟨rfl, -, hK11⟩
  have HY3 : Hid (TY gb P N C D L2 fm wa was x y1 w w11 ∧ TX gb P H A L1 L2 fm x x1 w11) := by
    have hK : Keeps (fun k => k = gb) w10 w11 := hK11.mono fun k _ e => by simpa [bk] using e
    exact ⟨HY2.out.1.kept (hK.mono fun _ _ e => .inl e), HY2.out.2.1.kept (hK.mono fun _ _ e => .inl e)⟩
  have HSa : Hid (Calls Tryz.prog 22 #[x1.v, was.v] w11 fun e w' => e = .returned (.bool true) ∧ Keeps (fun _ => False) w11 w') :=
    same_eq x1 was w11 (by rw [HY3.out.2.xp, HC.out.2.2.1]) (lst_ok HY3.out.2.xl) HY3.out.1.tk.si.ok
  have c0 := (HY3.out.2.xb).cell (i := 0) rfl
  have c1 := (HY3.out.2.xb).cell (i := 1) rfl
  have c2 := (HY3.out.2.xb).cell (i := 2) rfl
  have c3 := (HY3.out.2.xb).cell (i := 3) rfl
  have c4 := (HY3.out.2.xb).cell (i := 4) rfl
  have c5 := (HY3.out.2.xb).cell (i := 5) rfl
  have c6 := (HY3.out.2.xb).cell (i := 6) rfl
  have d0 := (HY3.out.1.tk.bx).cell (i := 0) rfl
  have d1 := (HY3.out.1.tk.bx).cell (i := 1) rfl
  have d2 := (HY3.out.1.tk.bx).cell (i := 2) rfl
  have d3 := (HY3.out.1.tk.bx).cell (i := 3) rfl
  have d4 := (HY3.out.1.tk.bx).cell (i := 4) rfl
  have d5 := (HY3.out.1.tk.bx).cell (i := 5) rfl
  have d6 := (HY3.out.1.tk.bx).cell (i := 6) rfl
  clear HY2 hK11
  go_wp2_with fail
  refine HSa.out.mono ?_
  rintro e w12 ⟨rfl, hK12⟩
  have HY4 : Hid (TY gb P N C D L2 fm wa was x y1 w w12 ∧ TX gb P H A L1 L2 fm x x1 w12) := ⟨HY3.out.1.grown hK12, HY3.out.2.grown hK12⟩
  have HSb : Hid (Calls Tryz.prog 22 #[y1.v, was.v] w12 fun e w' => e = .returned (.bool true) ∧ Keeps (fun _ => False) w12 w') :=
    same_eq y1 was w12 (by rw [HY4.out.1.yp, HC.out.2.2.1]) (lst_ok HY4.out.1.yl) HY4.out.1.tk.si.ok
  clear c0 c1 c2 c3 c4 c5 c6 d0 d1 d2 d3 d4 d5 d6
  have c0 := (HY4.out.1.yb).cell (i := 0) rfl
  have c1 := (HY4.out.1.yb).cell (i := 1) rfl
  have c2 := (HY4.out.1.yb).cell (i := 2) rfl
  have c3 := (HY4.out.1.yb).cell (i := 3) rfl
  have c4 := (HY4.out.1.yb).cell (i := 4) rfl
  have c5 := (HY4.out.1.yb).cell (i := 5) rfl
  have c6 := (HY4.out.1.yb).cell (i := 6) rfl
  have d0 := (HY4.out.1.tk.bx).cell (i := 0) rfl
  have d1 := (HY4.out.1.tk.bx).cell (i := 1) rfl
  have d2 := (HY4.out.1.tk.bx).cell (i := 2) rfl
  have d3 := (HY4.out.1.tk.bx).cell (i := 3) rfl
  have d4 := (HY4.out.1.tk.bx).cell (i := 4) rfl
  have d5 := (HY4.out.1.tk.bx).cell (i := 5) rfl
  have d6 := (HY4.out.1.tk.bx).cell (i := 6) rfl
  clear HY3 hK12 HSa
  go_wp2_with fail
  refine HSb.out.mono ?_
  rintro e w13 ⟨rfl, hK13⟩
  have HY5 : Hid (TY gb P N C D L2 fm wa was x y1 w w13 ∧ TX gb P H A L1 L2 fm x x1 w13) := ⟨HY4.out.1.grown hK13, HY4.out.2.grown hK13⟩
  clear c0 c1 c2 c3 c4 c5 c6 d0 d1 d2 d3 d4 d5 d6
  have c0 := (HY5.out.2.xb).cell (i := 0) rfl
  have c1 := (HY5.out.2.xb).cell (i := 1) rfl
  have c2 := (HY5.out.2.xb).cell (i := 2) rfl
  have c3 := (HY5.out.2.xb).cell (i := 3) rfl
  have c4 := (HY5.out.2.xb).cell (i := 4) rfl
  have c5 := (HY5.out.2.xb).cell (i := 5) rfl
  have c6 := (HY5.out.2.xb).cell (i := 6) rfl
  clear HY4 hK13 HSb
  go_wp2_with fail
  refine (marked_any x1 w13 L1 HY5.out.2.xl).mono ?_
  rintro e w14 ⟨rfl, ⟨x2, hx2, hs2⟩, hK14⟩
  have HY6 : Hid (TY gb P N C D L2 fm wa was x y1 w w14 ∧ Blk w14 A x1.vs 26 ∧ (∀ k, x1.B k → P ≤ k ∧ k < L2)) := by
    have hr : ∀ k, x1.B k → P ≤ k ∧ k < L2 := fun k hk => by have := HY5.out.2.lt; have := HY5.out.2.xr k hk; have := (HY5.out.2.xl.rangeB hk).1; omega
    exact ⟨HY5.out.1.kept (hK14.mono fun k _ e => .inr (hr k e)), HY5.out.2.xb.kept hK14 fun e => by have := HY5.out.2.xr A e; omega, hr⟩
  have HGr : Hid (Calls Tryz.prog 30 #[x1.v] w14 fun e w' => e = .returned (.bool true) ∧ Keeps x2.B w14 w') := by
    have hv : x1.v = x2.v := congrArg (fun l : List Value => Value.agg l.toArray) (sk_vs hs2).symm
    rw [hv]
    exact grown_any x2 w14 L1 hx2 (bnd_sk hs2 (bnd_pure HY5.out.2.xp HC.out.2.2.2.2.2.2.2.1))
  have Hsk : Hid (x2.sk = x1.sk) := hs2
  clear c0 c1 c2 c3 c4 c5 c6
  have c0 := (HY6.out.2.1).cell (i := 0) rfl
  have c1 := (HY6.out.2.1).cell (i := 1) rfl
  have c2 := (HY6.out.2.1).cell (i := 2) rfl
  have c3 := (HY6.out.2.1).cell (i := 3) rfl
  have c4 := (HY6.out.2.1).cell (i := 4) rfl
  have c5 := (HY6.out.2.1).cell (i := 5) rfl
  have c6 := (HY6.out.2.1).cell (i := 6) rfl
  clear HY5 hK14 hx2 hs2
  go_wp2_with fail
  refine HGr.out.mono ?_
  rintro e w15 ⟨rfl, hK15⟩
  have HY7 : Hid (TY gb P N C D L2 fm wa was x y1 w w15) := HY6.out.1.kept (hK15.mono fun k _ e => .inr (HY6.out.2.2 k (sk_B Hsk.out e)))
  clear c0 c1 c2 c3 c4 c5 c6
  clear HY6 hK15 HGr Hsk
  go_wp2_with fail
  refine (HD.out wa wc w15 HY7.out.tk.sg HC.out.2.2.2.2.2.2.1).mono ?_
  rintro e w16 ⟨hK16, z, hz, rfl, hL16⟩
  obtain ⟨Z, hZ⟩ : ∃ A, A = w16.heap.size := ⟨_, rfl⟩
  obtain ⟨W16, hW16⟩ : ∃ W, W = w16.alloc (.cells z.vs.toArray 26) := ⟨_, rfl⟩
  have HY8 : Hid (TY gb P N C D L2 fm wa was x y1 w W16 ∧ Blk W16 Z z.vs 26 ∧ z.Ok W16 ∧ z.pure = x.pure) := by
    have ka : Keeps (fun _ => False) w16 W16 := by rw [hW16]; exact (Keeps.refl _ _).alloc _
    exact ⟨(HY7.out.grown hK16).grown ka, by rw [hW16, hZ]; exact Blk.new _ _ _, (lst_ok hL16).grown ka, hz⟩
  go_upto_region 20 with fail
  rw [← hW16, ← hZ]
  have HSc : Hid (Calls Tryz.prog 22 #[y1.v, was.v] W16 fun e w' => e = .returned (.bool true) ∧ Keeps (fun _ => False) W16 w') :=
    same_eq y1 was W16 (by rw [HY8.out.1.yp, HC.out.2.2.1]) (lst_ok HY8.out.1.yl) HY8.out.1.tk.si.ok
  have c0 := (HY8.out.1.yb).cell (i := 0) rfl
  have c1 := (HY8.out.1.yb).cell (i := 1) rfl
  have c2 := (HY8.out.1.yb).cell (i := 2) rfl
  have c3 := (HY8.out.1.yb).cell (i := 3) rfl
  have c4 := (HY8.out.1.yb).cell (i := 4) rfl
  have c5 := (HY8.out.1.yb).cell (i := 5) rfl
  have c6 := (HY8.out.1.yb).cell (i := 6) rfl
  have d0 := (HY8.out.1.tk.bx).cell (i := 0) rfl
  have d1 := (HY8.out.1.tk.bx).cell (i := 1) rfl
  have d2 := (HY8.out.1.tk.bx).cell (i := 2) rfl
  have d3 := (HY8.out.1.tk.bx).cell (i := 3) rfl
  have d4 := (HY8.out.1.tk.bx).cell (i := 4) rfl
  have d5 := (HY8.out.1.tk.bx).cell (i := 5) rfl
  have d6 := (HY8.out.1.tk.bx).cell (i := 6) rfl
  clear HY7 hK16 hz hL16 hW16 hZ
  go_wp2_with fail
  refine HSc.out.mono ?_
  rintro e w17 ⟨rfl, hK17⟩
  have HY9 : Hid (TY gb P N C D L2 fm wa was x y1 w w17 ∧ Blk w17 Z z.vs 26) := ⟨HY8.out.1.grown hK17, HY8.out.2.1.kept hK17 fun e => e⟩
  have HSd : Hid (Calls Tryz.prog 22 #[z.v, was.v] w17 fun e w' => e = .returned (.bool true) ∧ Keeps (fun _ => False) w17 w') :=
    same_eq z was w17 (by rw [HY8.out.2.2.2, HC.out.2.2.1]) (HY8.out.2.2.1.grown hK17) HY9.out.1.tk.si.ok
  clear c0 c1 c2 c3 c4 c5 c6 d0 d1 d2 d3 d4 d5 d6
  have c0 := (HY9.out.2).cell (i := 0) rfl
  have c1 := (HY9.out.2).cell (i := 1) rfl
  have c2 := (HY9.out.2).cell (i := 2) rfl
  have c3 := (HY9.out.2).cell (i := 3) rfl
  have c4 := (HY9.out.2).cell (i := 4) rfl
  have c5 := (HY9.out.2).cell (i := 5) rfl
  have c6 := (HY9.out.2).cell (i := 6) rfl
  have d0 := (HY9.out.1.tk.bx).cell (i := 0) rfl
  have d1 := (HY9.out.1.tk.bx).cell (i := 1) rfl
  have d2 := (HY9.out.1.tk.bx).cell (i := 2) rfl
  have d3 := (HY9.out.1.tk.bx).cell (i := 3) rfl
  have d4 := (HY9.out.1.tk.bx).cell (i := 4) rfl
  have d5 := (HY9.out.1.tk.bx).cell (i := 5) rfl
  have d6 := (HY9.out.1.tk.bx).cell (i := 6) rfl
  clear HY8 hK17 HSc
  go_wp2_with fail
  refine HSd.out.mono ?_
  rintro e w18 ⟨rfl, hK18⟩
  have HY10 : Hid (TY gb P N C D L2 fm wa was x y1 w w18) := HY9.out.1.grown hK18
  clear c0 c1 c2 c3 c4 c5 c6 d0 d1 d2 d3 d4 d5 d6
  clear HY9 hK18 HSd
  go_wp2
  go_ret
  exact ⟨rfl, HY10.out.kp⟩
end Go.Proofs.YtjadpbkhfclldaaGreat
