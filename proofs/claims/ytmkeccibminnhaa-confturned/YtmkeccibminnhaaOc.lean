import Derived.Test.YtmkeccibminnhaaSb
import Derived.Test.YtmkeccibminnhaaOb
namespace Go.Proofs.Ytmkeccibminnhaa
open Go.RowKit
set_option linter.unusedVariables false
set_option maxRecDepth 6000

/-- Of a configuration that is held, written and read again. -/
theorem dec_back {x : Cfg} {w : World} {N : Nat} (h : x.In w N) (hd : x.d = false) : dec (form x) = .ok x.pure := by
  rw [cfgForm]
  exact dec_form x.pure (by rw [← cfgD x h.fine]; exact hd)

set_option maxHeartbeats 2000000 in
theorem confBack_any (N : Nat) (x : Cfg) (w : World) (hi : x.In w N) (hN : N ≤ w.heap.size) :
    Calls Try.prog 5 #[x.v] w fun e w' => e = .returned (.bool true) ∧ Keeps (fun _ => False) w w' := by
  obtain ⟨n1, n2, n3, n4, ca, cc, cs, pa, pc, ps, ha, hc, hs⟩ := x
  obtain ⟨X, hXX⟩ : ∃ X : Cfg, X = ⟨n1, n2, n3, n4, ca, cc, cs, pa, pc, ps, ha, hc, hs⟩ := ⟨_, rfl⟩
  rw [← hXX] at hi ⊢
  obtain ⟨L1, hL1⟩ : ∃ L, cs.length = L := ⟨_, rfl⟩
  obtain ⟨L2, hL2⟩ : ∃ L, ps.length = L := ⟨_, rfl⟩
  obtain ⟨L3, hL3⟩ : ∃ L, hs.length = L := ⟨_, rfl⟩
  have hv : X.v = .agg #[.int .i64 n1, .int .i64 n2, .int .i64 n3, .int .i64 n4, .slice ca L1 cc, .slice pa L2 pc, .slice ha L3 hc] := by rw [hXX, ← hL1, ← hL2, ← hL3]
  rw [hv]
  obtain ⟨C, hC⟩ : ∃ C, C = w.heap.size := ⟨_, rfl⟩
  obtain ⟨W, hW⟩ : ∃ W, W = w.alloc (.cells #[.int .i64 n1, .int .i64 n2, .int .i64 n3, .int .i64 n4, .slice ca L1 cc, .slice pa L2 pc, .slice ha L3 hc] 26) := ⟨_, rfl⟩
  have hKW : Keeps (fun _ => False) w W := by rw [hW]; exact (Keeps.refl _ _).alloc _
  have hBW : Blk W C [.int .i64 n1, .int .i64 n2, .int .i64 n3, .int .i64 n4, .slice ca L1 cc, .slice pa L2 pc, .slice ha L3 hc] 26 := by rw [hW, hC]; exact Blk.new w _ _
  have HE : Hid (Calls _ _ _ _ _) := encode_any N X W (hi.below (hKW.below hN fun _ e => e.elim)) (Nat.le_trans hN hKW.size)
  rw [hv] at HE
  have HA : Hid (X.In w N ∧ N ≤ w.heap.size ∧ Keeps (fun _ => False) w W ∧ Blk W C [.int .i64 n1, .int .i64 n2, .int .i64 n3, .int .i64 n4, .slice ca L1 cc, .slice pa L2 pc, .slice ha L3 hc] 26 ∧ X.v = .agg #[.int .i64 n1, .int .i64 n2, .int .i64 n3, .int .i64 n4, .slice ca L1 cc, .slice pa L2 pc, .slice ha L3 hc]) := ⟨hi, hN, hKW, hBW, hv⟩
  clear hi hN hXX hL1 hL2 hL3 hv hKW hBW
  go_enter Try.func5, Try.ntmps5
  go_wp2_with fail
  rw [← hW, ← hC]
  clear hW hC
  refine HE.out.mono ?_
  clear HE
  rintro e w1 ⟨hK1, ⟨h1, rfl⟩ | ⟨h1, h2, rfl⟩ | ⟨h1, h2, g, hg, hB, rfl⟩⟩
  · have HK : Hid (Keeps (fun _ => False) w w1) := HA.out.2.2.1.trans hK1 fun _ _ e => e
    clear hK1
    go_wp2
    go_ret
    exact ⟨rfl, HK.out⟩
  · have HK : Hid (Keeps (fun _ => False) w w1) := HA.out.2.2.1.trans hK1 fun _ _ e => e
    clear hK1 h1 h2
    go_wp2
    go_ret
    exact ⟨rfl, HK.out⟩
  · have hdec := dec_back HA.out.1 h1
    have HD : Hid (Calls Try.prog 12 #[.slice (some ⟨g, 0, none⟩) (form X).length (form X).length] w1 (DecP w1 (form X))) :=
      decode_short (form X) (some ⟨g, 0, none⟩) (form X).length w1 (seg_blk hB) ⟨Nat.le_refl _, by unfold maxLen; omega⟩ h2 (fun _ y hy => by cases hy; exact hB.lt)
    obtain ⟨M, hM⟩ : ∃ M, (form X).length = M := ⟨_, rfl⟩
    rw [hM] at HD ⊢
    have h2' : (M : Int) ≤ 16384 := by omega
    have H1 : Hid (Keeps (fun _ => False) w w1 ∧ Keeps (fun _ => False) W w1 ∧ dec (form X) = .ok X.pure ∧ (form X).length = M) := ⟨HA.out.2.2.1.trans hK1 fun _ _ e => e, hK1, hdec, hM⟩
    clear hK1 h1 h2 hg hB hdec hM
    go_wp2_with fail
    refine HD.out.mono ?_
    clear HD
    rintro e w2 ⟨hK2, ⟨hl, _⟩ | ⟨_, ⟨y, hd, rfl, hY⟩ | ⟨q, k, hd, _⟩⟩⟩
    · have := H1.out.2.2.2; omega
    rotate_left
    · rw [H1.out.2.2.1] at hd; cases hd
    have hyp : X.pure = y.pure := by have h3 := H1.out.2.2.1; rw [hd] at h3; exact (Except.ok.inj h3).symm
    obtain ⟨m1, m2, m3, m4, da, dc, ds, qa, qc, qs, ea, ec, es⟩ := y
    obtain ⟨Y, hYY⟩ : ∃ Y : Cfg, Y = ⟨m1, m2, m3, m4, da, dc, ds, qa, qc, qs, ea, ec, es⟩ := ⟨_, rfl⟩
    rw [← hYY] at hyp hY ⊢
    obtain ⟨K1, hK1⟩ : ∃ L, ds.length = L := ⟨_, rfl⟩
    obtain ⟨K2, hK2'⟩ : ∃ L, qs.length = L := ⟨_, rfl⟩
    obtain ⟨K3, hK3⟩ : ∃ L, es.length = L := ⟨_, rfl⟩
    have hyv : Y.v = .agg #[.int .i64 m1, .int .i64 m2, .int .i64 m3, .int .i64 m4, .slice da K1 dc, .slice qa K2 qc, .slice ea K3 ec] := by rw [hYY, ← hK1, ← hK2', ← hK3]
    rw [hyv]
    obtain ⟨W2, hW2⟩ : ∃ W2, W2 = w2.alloc (.cells #[.int .i64 m1, .int .i64 m2, .int .i64 m3, .int .i64 m4, .slice da K1 dc, .slice qa K2 qc, .slice ea K3 ec] 26) := ⟨_, rfl⟩
    have hKW2 : Keeps (fun _ => False) w2 W2 := by rw [hW2]; exact (Keeps.refl _ _).alloc _
    have hKall : Keeps (fun _ => False) w W2 := (H1.out.1.trans hK2 fun _ _ e => e).trans hKW2 fun _ _ e => e
    have HSm : Hid (Calls _ _ _ _ _) := same_eq X Y W2 hyp ((HA.out.1.below (hKall.below HA.out.2.1 fun _ e => e.elim)).ok) (hY.in.ok.grown hKW2)
    rw [HA.out.2.2.2.2, hyv] at HSm
    have hBc : Blk w2 C _ 26 := (HA.out.2.2.2.1.kept H1.out.2.1 fun e => e).kept hK2 fun e => e
    have hBd : Blk W2 C _ 26 := hBc.kept hKW2 fun e => e
    have c0 := hBd.cell (i := 0) rfl
    have c1 := hBd.cell (i := 1) rfl
    have c2 := hBd.cell (i := 2) rfl
    have c3 := hBd.cell (i := 3) rfl
    have c4 := hBd.cell (i := 4) rfl
    have c5 := hBd.cell (i := 5) rfl
    have c6 := hBd.cell (i := 6) rfl
    have HK9 : Hid (Keeps (fun _ => False) w W2) := hKall
    clear hyp hY hd hYY hK1 hK2' hK3 hyv hKW2 hKall hBc hBd hK2
    rw [hW2] at c0 c1 c2 c3 c4 c5 c6
    go_wp2_with fail
    rw [← hW2]
    refine HSm.out.mono ?_
    rintro e w3 ⟨rfl, hK3⟩
    have HK3 : Hid (Keeps (fun _ => False) w w3) := HK9.out.trans hK3 fun _ _ e => e
    clear hK3 HSm c0 c1 c2 c3 c4 c5 c6 hW2
    go_wp2
    go_ret
    exact ⟨rfl, HK3.out⟩
end Go.Proofs.Ytmkeccibminnhaa
