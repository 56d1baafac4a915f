import Derived.Test.YtonjmknjjdnjkaaKept
namespace Go.Proofs.Ytonjmknjjdnjkaa
open Go.RowKit
set_option linter.unusedVariables false

set_option maxRecDepth 100000 in
set_option maxHeartbeats 2000000 in
theorem writes_out (who a b : Int) (W V N : Nat) (pb : Option Addr) (lb cb : Nat) (pw : Option Addr) (lw cw : Nat) (str : ByteArray) (w0 w : World) (X T : Nat) (h : Game w0 w X T) (hwho : in64 who)  (hT : T ≤ 2147483700) :
    Calls Try.prog 14 #[.pointer (some ⟨X, 0, none⟩), .agg #[.int .i64 13, .int .i64 who, .int .i64 a, .int .i64 b, .int .u32 W, .int .u32 V, .int .u64 N, .slice pb lb cb, .slice pw lw cw, .string str]] w fun e w' => e = .returned (.bool true) ∧ Game w0 w' X (T + 8) := by
  obtain ⟨s, g, hH, hR, hS, rfl⟩ := h.out
  have H1 := has_box hH #[.int .i64 13, .int .i64 who, .int .i64 a, .int .i64 b, .int .u32 W, .int .u32 V, .int .u64 N, .slice pb lb cb, .slice pw lw cw, .string str]
  have R1 := hR.other 21 0 (by omega) (.blk w.heap.size (#[.int .i64 13, .int .i64 who, .int .i64 a, .int .i64 b, .int .u32 W, .int .u32 V, .int .u64 N, .slice pb lb cb, .slice pw lw cw, .string str] : Array Value).toList 41)
  obtain ⟨bo, hbo⟩ : ∃ bo, bo = w.heap.size := ⟨_, rfl⟩
  obtain ⟨w1, hw1⟩ : ∃ w1, w1 = w.alloc (.cells #[.int .i64 13, .int .i64 who, .int .i64 a, .int .i64 b, .int .u32 W, .int .u32 V, .int .u64 N, .slice pb lb cb, .slice pw lw cw, .string str] 41) := ⟨_, rfl⟩
  obtain ⟨s1, hs1⟩ : ∃ s1, s1 = upd s (21, 0) (.blk w.heap.size (#[.int .i64 13, .int .i64 who, .int .i64 a, .int .i64 b, .int .u32 W, .int .u32 V, .int .u64 N, .slice pb lb cb, .slice pw lw cw, .string str] : Array Value).toList 41) := ⟨_, rfl⟩
  have hO : s1 (21, 0) = .blk bo (#[.int .i64 13, .int .i64 who, .int .i64 a, .int .i64 b, .int .u32 W, .int .u32 V, .int .u64 N, .slice pb lb cb, .slice pw lw cw, .string str] : Array Value).toList 41 := by rw [hs1, hbo]; exact upd_self _ _ _
  rw [← hw1, ← hs1] at H1
  rw [← hs1] at R1
  clear hH hR hs1 h
  obtain ⟨X, sw, sv, sr, sq, sb, sk, gW, gV, gR, gQ, gB, gK⟩ := g
  have hn0 : 0 < gW.length := hS.w0
  have hnT : gW.length ≤ T + 8 := hS.w
  obtain ⟨i, hi⟩ : ∃ i : Nat, pickZ who gW.length = (i : Int) := ⟨(pickZ who gW.length).toNat, by have := (pickZ_bd who gW.length (by omega)).1; omega⟩
  have hiL : i < gW.length := by have := (pickZ_bd who gW.length (by omega)).2; omega
  have HPK : Hid (∀ w, Calls Try.prog 32 #[.int .i64 who, .int .i64 (gW.length : Int)] w fun e w' => e = .returned (.int .i64 (i : Int)) ∧ w' = w) := fun w => by
    have := pick_any who gW.length w (by omega) hwho.1 hwho.2 (by omega)
    rw [hi] at this
    exact this
  obtain ⟨bW, xs, bV, vV, eW, eV, kW, kV⟩ := wr_at R1 i hiL
  have hxT : xs.length ≤ T := hS.ws i bW xs eW
  have rw1 := R1.rw
  have rv1 := R1.rv
  have x1 := R1.x
  have hlV : gV.length = gW.length := R1.lenV
  dsimp only at rw1 rv1 x1 eW eV
  obtain ⟨aW, cW, rfl, q1, q2⟩ := row_some H1 rw1 hn0
  obtain ⟨aV, cV, rfl, q3, q4⟩ := row_some H1 rv1 (by omega)
  have HPKd : Hid (∀ k, Calls Try.prog 32 #[.int .i64 who, .int .i64 (gW.length : Int)] (w1.drewN k) fun e w' => e = .returned (.int .i64 (i : Int)) ∧ w' = w1.drewN k) := fun k => HPK.out _
  obtain ⟨L, hL⟩ : ∃ L, L = gW.length := ⟨_, rfl⟩
  rw [hlV] at rv1
  rw [hlV] at x1
  rw [hlV, ← hL] at R1 hS
  have HLV : Hid (gV.length = L ∧ gW.length = L) := ⟨by omega, hL.symm⟩
  have HR : Hid (Rel s1 _ w0) := R1
  have HS : Hid (Small _ T) := hS
  have HXT : Hid (True ∧ xs.length ≤ T ∧ T ≤ 2147483700) := ⟨trivial, hxT, hT⟩
  have HE : Hid (gW[i]? = some (bW, xs) ∧ gV[i]? = some (bV, vV)) := ⟨eW, eV⟩
  rw [← hL] at rw1 rv1 x1 HPKd
  have hLb : (L : Int) ≤ 2147483708 := by omega
  have hiL' : (i : Int) < (L : Int) := by omega
  clear hL hlV hn0 hnT hi hiL q1 q2 q3 q4 R1 hS HPK hxT hT eW eV
  have HH : Hid (Has s1 w1) := H1
  have Hw : Hid (s1 (2, 0) = _) := rw1
  have Hv : Hid (s1 (3, 0) = _) := rv1
  have Hx : Hid (s1 (1, 0) = _) := x1
  have HO : Hid (s1 (21, 0) = _) := hO
  have HkW : Hid (s1 (8, i) = _) := kW
  have HkV : Hid (s1 (9, i) = _) := kV
  clear rw1 rv1 x1 hO kW kV
  obtain ⟨x0, -, -, -, -, -⟩ := cells_x H1 Hx.out
  have r0 := cell_row H1 _ _ Hw.out i _ HE.out.1
  have BO := (H1.blk HO.out).1
  have o0 := BO.cell (i := 0) rfl
  have o1 := BO.cell (i := 1) rfl
  have o5 := BO.cell (i := 5) rfl
  have o6 := BO.cell (i := 6) rfl
  have o9 := BO.cell (i := 9) rfl
  unfold ptr at r0
  dsimp only at r0
  clear BO H1
  go_enter Try.func14, Try.ntmps14
  go_wp2_with fail
  rw [← hbo, ← hw1]
  clear hbo hw1
  go_quiet ((go_at_call 32; exact (HPKd.out _).mono fun e w2 h2 => ⟨h2.1, _, h2.2⟩))
  go_wp2_with fail
  have HD1 := HH.out.quiet ((Keeps.refl _ w1).drewN nq)
  obtain ⟨gw, hWr, -⟩ := HD1.wr HkW.out
  obtain ⟨n, hn⟩ : ∃ n, n = xs.length := ⟨_, rfl⟩
  have HNX : Hid (True ∧ n = xs.length) := ⟨trivial, hn⟩
  have hLen := wLen_any bW gw xs _ hWr
  have hOut := wOut_any bW gw xs _ hWr (by have := HXT.out; omega)
  have hGs : (w1.drewN nq).heap.size = w1.heap.size := rfl
  rw [hGs] at hOut
  obtain ⟨G1, hG1⟩ : ∃ G1, G1 = w1.heap.size := ⟨_, rfl⟩
  have HG1 : Hid (G1 = w1.heap.size) := hG1
  rw [← hG1] at hOut
  rw [← hn] at hLen hOut
  have HLen : Hid (Calls _ _ _ _ _) := hLen
  have HOut : Hid (Calls _ _ _ _ _) := hOut
  have HHD1 : Hid (Has s1 (w1.drewN nq)) := HD1
  have hnb : (n : Int) ≤ 2147483700 := by have := HXT.out; omega
  clear hLen hOut hG1 hn hGs hWr HD1
  refine HLen.out.mono ?_
  rintro e w' ⟨rfl, hw'⟩; obtain rfl := hw'.symm
  go_wp2_with fail
  refine HOut.out.mono ?_
  rintro e w2 ⟨rfl, hB2, hK2⟩
  obtain ⟨m, hm⟩ : ∃ m, m = gB.length := ⟨_, rfl⟩
  have HM : Hid (m = gB.length) := hm
  have H2 := HHD1.out.newRow (12, m) (own_of_blk hB2 (by have := HXT.out; unfold maxLen; omega)) (fun k hk => by cases hk; exact Nat.le_of_eq HG1.out.symm) hK2
  obtain ⟨y0, -, -, -, -, -⟩ := cells_x H2 (by rw [upd_ne _ _ _ _ (by simp)]; exact Hx.out)
  have u0 := cell_row H2 (o := (2, 0)) _ _ (by rw [upd_ne _ _ _ _ (by simp)]; exact Hw.out) i _ HE.out.1
  unfold ptr at u0
  dsimp only at u0
  obtain ⟨gw2, hWr2, -⟩ := H2.wr (o := (8, i)) (by rw [upd_ne _ _ _ _ (by simp)]; exact HkW.out)
  have hOut2 := wOut_any bW gw2 xs _ hWr2 (by have := HXT.out; omega)
  obtain ⟨G2, hG2⟩ : ∃ G2, G2 = w2.heap.size := ⟨_, rfl⟩
  have HG2 : Hid (G2 = w2.heap.size) := hG2
  rw [← hG2, ← HNX.out.2] at hOut2
  have HOut2 : Hid (Calls _ _ _ _ _) := hOut2
  have HH2 : Hid (Has _ w2) := H2
  clear hOut2 hG2 hWr2 H2 hB2 hK2 hm x0 r0 o0 o1 o5 o6 o9 HOut HLen
  go_wp2_with fail
  refine HOut2.out.mono ?_
  rintro e w3 ⟨rfl, hB3, hK3⟩
  have H3 := HH2.out.newRow (12, m + 1) (own_of_blk hB3 (by have := HXT.out; unfold maxLen; omega)) (fun k hk => by cases hk; exact Nat.le_of_eq HG2.out.symm) hK3
  have R3 := (HR.out.spare m (Nat.le_of_eq HM.out.symm) (.row 5 1 (.slice (some ⟨G1, 0, none⟩) xs.length xs.length) xs.length (bvs xs))).spare (m + 1) (by show gB.length ≤ m + 1; have := HM.out; omega) (.row 5 1 (.slice (some ⟨G2, 0, none⟩) xs.length xs.length) xs.length (bvs xs))
  have e12 : upd (upd s1 (12, m) (.row 5 1 (.slice (some ⟨G1, 0, none⟩) xs.length xs.length) xs.length (bvs xs))) (12, m + 1) (.row 5 1 (.slice (some ⟨G2, 0, none⟩) xs.length xs.length) xs.length (bvs xs)) (12, m) = .row 5 1 (.slice (some ⟨G1, 0, none⟩) xs.length xs.length) xs.length (bvs xs) := by
    rw [upd_ne _ _ _ _ (by simp), upd_self]
  have e13 : upd (upd s1 (12, m) (.row 5 1 (.slice (some ⟨G1, 0, none⟩) xs.length xs.length) xs.length (bvs xs))) (12, m + 1) (.row 5 1 (.slice (some ⟨G2, 0, none⟩) xs.length xs.length) xs.length (bvs xs)) (12, m + 1) = .row 5 1 (.slice (some ⟨G2, 0, none⟩) xs.length xs.length) xs.length (bvs xs) := upd_self _ _ _
  have e9 : upd (upd s1 (12, m) (.row 5 1 (.slice (some ⟨G1, 0, none⟩) xs.length xs.length) xs.length (bvs xs))) (12, m + 1) (.row 5 1 (.slice (some ⟨G2, 0, none⟩) xs.length xs.length) xs.length (bvs xs)) (9, i) = .dw bV vV xs := by
    rw [upd_ne _ _ _ _ (by simp), upd_ne _ _ _ _ (by simp)]; exact HkV.out
  generalize upd (upd s1 (12, m) (.row 5 1 (.slice (some ⟨G1, 0, none⟩) xs.length xs.length) xs.length (bvs xs))) (12, m + 1) (.row 5 1 (.slice (some ⟨G2, 0, none⟩) xs.length xs.length) xs.length (bvs xs)) = s3 at H3 R3 e12 e13 e9
  obtain ⟨aV', cV', hvV, -, -⟩ := own_slice (H3.dw e9).1.row
  subst hvV
  have seg9 : ∀ s2 w2, Has s2 w2 → s2 (9, i) = s3 (9, i) → Seg w2 aV' xs := fun s2 w2 h2 h3 => (own_seg ((h2.dw (h3.trans e9)).1.row)).2
  have seg12 : ∀ s2 w2, Has s2 w2 → s2 (12, m) = s3 (12, m) → Seg w2 (some ⟨G1, 0, none⟩) xs := fun s2 w2 h2 h3 => (own_seg ((h2.row (h3.trans e12)).1)).2
  have hmT : gB.length ≤ T := HS.out.b
  have hk1 := fun k => keepBytes_any s3 (w3.drewN k) X m _ _ _ _ _ _ _ (some ⟨G1, 0, none⟩) aV' xs.length cV' xs (12, m) (9, i) (H3.quiet ((Keeps.refl _ w3).drewN k)) R3.x (by rw [HM.out]; exact R3.kb) seg12 seg9 (by simp) (by simp) (by have := HXT.out; omega) (by have := HXT.out; have := HM.out; omega)
  obtain ⟨-, z1, -, -, -, -⟩ := cells_x H3 R3.x
  have rv3 := R3.rv
  dsimp only at rv3
  rw [HLV.out.1] at rv3
  have v0 := cell_row H3 (o := (3, 0)) _ _ rv3 i _ HE.out.2
  unfold ptr at v0
  dsimp only at v0 z1
  have vc := (H3.dw e9).1.blk.cell (i := 0) rfl
  rw [← HNX.out.2] at hk1 vc
  have HK1 : Hid (∀ k, _) := hk1
  have HR3 : Hid (Rel s3 _ w0) := R3
  have HE3 : Hid (True ∧ s3 (12, m) = _ ∧ s3 (12, m + 1) = _ ∧ s3 (9, i) = _) := ⟨trivial, e12, e13, e9⟩
  clear hk1 rv3 R3 e12 e13 e9 seg9 seg12 hmT H3 hB3 hK3 y0 u0 HH2 HOut2
  go_wp2_with fail
  refine region_tail 14 (by kernel_rfl) ?_
  simp only [List.take_succ_cons, List.take_zero, List.drop_succ_cons, List.drop_zero]
  repeat still_step
  refine wpStill_nil ?_
  go_wp2_with fail
  refine (HK1.out _).mono ?_
  rintro e w4 ⟨rfl, vw1, vk1, ⟨aw1, cw1, rfl⟩, ⟨ak1, ck1, rfl⟩, H4⟩
  have R4 := HR3.out.kept (some ⟨G1, 0, none⟩) xs (.slice aw1 n cw1) (.slice ak1 (m + 1) ck1) (by show s3 (12, gB.length) = _; rw [← HM.out]; exact HE3.out.2.1)
  dsimp only at R4
  rw [← HM.out, ← HNX.out.2] at R4
  have e13 := HE3.out.2.2.1
  have e9 := HE3.out.2.2.2
  obtain ⟨s4, hs4⟩ : ∃ s4, s4 = upd (upd (upd s3 (13, m) (.row 5 1 (.slice aw1 n cw1) n (bvs xs))) (6, 0) (.row 100 4 (.slice ak1 (m + 1) ck1) (m + 1) (gB.flatMap bCells ++ [.slice (some ⟨G1, 0, none⟩) n n, .slice aw1 n cw1, .slice none 0 0, .slice none 0 0]))) (1, 0) (.blk X [.slice (some ⟨aW, 0, none⟩) L cW, .slice (some ⟨aV, 0, none⟩) L cV, sr, sq, .slice ak1 (m + 1) ck1, sk] 34) := ⟨_, rfl⟩
  rw [← hs4] at H4 R4
  have k13 : s4 (12, m + 1) = .row 5 1 (.slice (some ⟨G2, 0, none⟩) n n) n (bvs xs) := by
    rw [hs4, upd_ne _ _ _ _ (by simp), upd_ne _ _ _ _ (by simp), upd_ne _ _ _ _ (by simp), e13, HNX.out.2]
  have k9 : s4 (9, i) = .dw bV (.slice aV' n cV') xs := by
    rw [hs4, upd_ne _ _ _ _ (by simp), upd_ne _ _ _ _ (by simp), upd_ne _ _ _ _ (by simp), e9, HNX.out.2]
  have kb4 := R4.kb
  have rv4 := R4.rv
  have x4 := R4.x
  dsimp only at kb4 rv4 x4
  rw [List.length_append, List.length_singleton, ← HM.out] at kb4
  rw [HLV.out.1] at rv4
  have seg9 : ∀ s2 w2, Has s2 w2 → s2 (9, i) = s4 (9, i) → Seg w2 aV' xs := fun s2 w2 h2 h3 => by
    have hh := (h2.dw (h3.trans k9)).1.row
    rw [HNX.out.2] at hh
    exact (own_seg hh).2
  have seg12 : ∀ s2 w2, Has s2 w2 → s2 (12, m + 1) = s4 (12, m + 1) → Seg w2 (some ⟨G2, 0, none⟩) xs := fun s2 w2 h2 h3 => (own_seg ((h2.row (h3.trans k13)).1)).2
  have hmT : gB.length ≤ T := HS.out.b
  have hk2 := fun k => keepBytes_any s4 (w4.drewN k) X (m + 1) _ _ _ _ _ _ _ (some ⟨G2, 0, none⟩) aV' n cV' xs (12, m + 1) (9, i) (H4.quiet ((Keeps.refl _ w4).drewN k)) x4 kb4 seg12 seg9 (by simp) (by simp) (by have := HXT.out; omega) (by have := HXT.out; have := HM.out; omega)
  obtain ⟨-, z4, -, -, -, -⟩ := cells_x H4 x4
  have v4 := cell_row H4 (o := (3, 0)) _ _ rv4 i _ HE.out.2
  unfold ptr at v4
  dsimp only at v4
  have vc4 := (H4.dw k9).1.blk.cell (i := 0) rfl
  rw [← HNX.out.2] at hk2
  have HK2 : Hid (∀ k, _) := hk2
  have HR4 : Hid (Rel s4 _ w0) := R4
  have HE4 : Hid (True ∧ s4 (12, m + 1) = _ ∧ s4 (9, i) = _ ∧ s4 (3, 0) = _) := ⟨trivial, k13, k9, rv4⟩
  clear hk2 R4 k13 k9 kb4 rv4 x4 seg9 seg12 hmT H4 e13 e9 z1 v0 vc HK1 hs4
  go_wp2_with fail
  refine region_tail 14 (by kernel_rfl) ?_
  simp only [List.take_succ_cons, List.take_zero, List.drop_succ_cons, List.drop_zero]
  repeat still_step
  refine wpStill_nil ?_
  go_wp2_with fail
  refine (HK2.out _).mono ?_
  rintro e w5 ⟨rfl, vw2, vk2, ⟨aw2, cw2, rfl⟩, ⟨ak2, ck2, rfl⟩, H5⟩
  have R5 := HR4.out.kept (some ⟨G2, 0, none⟩) xs (.slice aw2 n cw2) (.slice ak2 (m + 1 + 1) ck2) (by
    show s4 (12, (gB ++ [_]).length) = _
    rw [List.length_append, List.length_singleton, ← HM.out, HE4.out.2.1, HNX.out.2])
  dsimp only at R5
  rw [List.length_append, List.length_singleton, ← HM.out, ← HNX.out.2] at R5
  have x5 := R5.x
  have rv5 := R5.rv
  dsimp only at x5 rv5
  rw [HLV.out.1] at rv5
  obtain ⟨-, z5, -, -, -, -⟩ := cells_x H5 x5
  have v5 := cell_row H5 (o := (3, 0)) _ _ rv5 i _ HE.out.2
  unfold ptr at v5
  dsimp only at v5
  have vc5 := (H5.dw (o := (9, i)) (by rw [upd_ne _ _ _ _ (by simp), upd_ne _ _ _ _ (by simp), upd_ne _ _ _ _ (by simp)]; exact HE4.out.2.2.1)).1.blk.cell (i := 0) rfl
  have HF : Hid (Has _ w5 ∧ Rel _ _ w0) := ⟨H5, R5⟩
  clear H5 R5 x5 rv5 z4 v4 vc4 HK2
  go_wp2
  go_ret
  exact ⟨rfl, ⟨_, _, HF.out.1, HF.out.2, ((HS.out.kept (vk' := .slice ak1 (m + 1) ck1) (by have := HXT.out; omega)).kept (by have := HXT.out; omega)).more (by omega), rfl⟩⟩

end Go.Proofs.Ytonjmknjjdnjkaa
