import Derived.Test.YtfcgpjojjehkiaaSd
namespace Go.Proofs.Ytfcgpjojjehkiaa
open Go.RowKit
set_option linter.unusedVariables false
set_option linter.unusedSimpArgs false

theorem wd_get? {xs : List UInt32} {i : Nat} (h : i < xs.length) : xs[i]? = some (wd xs i) := by rw [List.getElem?_eq_getElem h, wd_get h]

set_option maxRecDepth 20000 in
set_option maxHeartbeats 4000000 in
theorem walls_4 (a : Option Addr) (cap : Nat) (ws : List UInt32) (o : Opn) (w : World) (hx : SegW w a ws) (hl : ws.length ≤ cap ∧ cap ≤ maxLen) (hok : o.Ok w) (hK : o.k = 4) :
    Calls Try.prog 5 #[.slice a ws.length cap, o.v] w fun e w' => e = .returned (.bool true) ∧ Keeps (fun _ => False) w w' := by
  obtain ⟨xs, hxs⟩ : ∃ xs, xs = bgL ws := ⟨_, rfl⟩
  have hxl : xs.length = 80 := by rw [hxs]; exact bgL_length ws
  obtain ⟨k, p, n, ma, mc, ms, pa, pc, ps, x, nl⟩ := o
  simp only at *
  subst hK
  obtain ⟨Lm, hLm⟩ : ∃ L, L = ms.length := ⟨_, rfl⟩
  obtain ⟨Lp, hLp⟩ : ∃ L, L = ps.length := ⟨_, rfl⟩
  obtain ⟨X, hX⟩ : ∃ X : Nat, X = x.toNat := ⟨_, rfl⟩
  unfold Opn.v
  simp only
  rw [← hLm, ← hLp, ← hX]
  obtain ⟨W0, hW0⟩ : ∃ W0, W0 = w.alloc (.cells #[.int .i64 4, .int .i64 p, .int .i64 n, .slice ma Lm mc, .slice pa Lp pc, .int .u32 (X : Int), .bool nl] 36) := ⟨_, rfl⟩
  have hB0 : Blk W0 w.heap.size [.int .i64 4, .int .i64 p, .int .i64 n, .slice ma Lm mc, .slice pa Lp pc, .int .u32 (X : Int), .bool nl] 36 := by rw [hW0]; exact Blk.new w _ 36
  have hk0 : Keeps (fun _ => False) w W0 := by rw [hW0]; exact (Keeps.refl _ w).alloc _
  obtain ⟨O, hO⟩ : ∃ O, O = w.heap.size := ⟨_, rfl⟩
  rw [← hO] at hB0
  have hok0 := hok.grown hk0
  have HBg : Hid (∀ W, Keeps (fun _ => False) W0 W → Calls Try.prog 9 #[.slice a ws.length cap] W fun e w' => ∃ G, W.heap.size ≤ G ∧ e = .returned (.slice (some ⟨G, 0, none⟩) 80 80) ∧ Blk w' G (wvs xs) 34 ∧ Keeps (fun _ => False) W w') := fun W kk => by rw [hxs]; exact begun_any a cap ws W ((hx.kept hk0 (fun _ _ e => e)).kept kk (fun _ _ e => e)) hl
  have HO : Hid (∀ W G, Blk W G (wvs xs) 34 → Calls Try.prog 8 #[.slice (some ⟨G, 0, none⟩) 80 80] W fun e w' => ∃ b', W.heap.size < b' ∧ e = .returned (.tuple #[.pointer (some ⟨b', 0, none⟩), .int .i64 0]) ∧ Mm w' b' W.heap.size xs ∧ Keeps (fun _ => False) W w') := fun W G hG => by
    have := of_in (some ⟨G, 0, none⟩) 80 5 xs W (segW_of_blk hG) (by rw [hxl]) (by omega) (by omega)
    rw [hxl] at this
    exact this
  obtain ⟨L, hL⟩ : ∃ L, L = ws.length := ⟨_, rfl⟩
  rw [← hL] at HBg ⊢
  have HX : Hid (W0 = w.alloc (.cells #[.int .i64 4, .int .i64 p, .int .i64 n, .slice ma Lm mc, .slice pa Lp pc, .int .u32 (X : Int), .bool nl] 36) ∧ O = w.heap.size ∧ Keeps (fun _ => False) w W0 ∧ Blk W0 O [.int .i64 4, .int .i64 p, .int .i64 n, .slice ma Lm mc, .slice pa Lp pc, .int .u32 (X : Int), .bool nl] 36) := ⟨hW0, hO, hk0, hB0⟩
  clear hx hl hok hxs hxl hLm hLp hX hW0 hB0 hk0 hO hok0 hL
  go_enter Try.func5, Try.ntmps5
  go_wp2_with fail
  rw [← HX.out.1, ← HX.out.2.1]
  refine (HBg.out W0 (Keeps.refl _ _)).mono ?_
  rintro e w1 ⟨G1, hG1, rfl, hB1, hk1⟩
  have HO1 : Hid (Calls _ _ _ _ _) := HO.out w1 G1 hB1
  have H1 : Hid (Keeps (fun _ => False) W0 w1) := hk1
  clear hG1 hB1 hk1 HO HBg
  go_wp2_with fail
  refine HO1.out.mono ?_
  rintro e w2 ⟨b, hb, rfl, hM, hk2⟩
  have hkx : Keeps (fun _ => False) W0 w2 := H1.out.trans hk2 fun _ _ e => e
  have d0 := (HX.out.2.2.2.kept hkx fun e => e).cell (i := 0) rfl
  have H2 : Hid (Keeps (fun _ => False) w w2) := HX.out.2.2.1.trans hkx fun _ _ e => e
  clear hb hM hk2 hkx HO1 H1
  go_wp2
  go_ret
  exact ⟨rfl, H2.out⟩

set_option maxRecDepth 20000 in
set_option maxHeartbeats 4000000 in
theorem walls_0 (a : Option Addr) (cap : Nat) (ws : List UInt32) (o : Opn) (w : World) (hx : SegW w a ws) (hl : ws.length ≤ cap ∧ cap ≤ maxLen) (hok : o.Ok w) (hK : o.k = 0) :
    Calls Try.prog 5 #[.slice a ws.length cap, o.v] w fun e w' => e = .returned (.bool true) ∧ Keeps (fun _ => False) w w' := by
  obtain ⟨xs, hxs⟩ : ∃ xs, xs = bgL ws := ⟨_, rfl⟩
  have hxl : xs.length = 80 := by rw [hxs]; exact bgL_length ws
  obtain ⟨ys, hys⟩ : ∃ ys, ys = oneX o xs := ⟨_, rfl⟩
  have hyl : ys.length = 80 := by rw [hys, oneX_length]; exact hxl
  have hwl : ∀ i, i < 80 → ¬ wd ys i = wd xs i → o.nil = false ∧ mineB o i = true := fun i hi hne => by
    have h9 := walls_pure (o := o) (xs := xs) (i := i) (by rw [hK]; omega) (by omega) (by omega) (by
      rw [← hys, wd_get? (by omega), wd_get? (by omega)]
      intro e; exact hne (Option.some.inj e))
    exact h9
  have hmi : ∀ i : Nat, mineB o i = amB i o.p (mM2 o.n) := fun i => by unfold mineB; rw [if_pos hK]
  have hone : ∀ w0 w b g rb rg, Duo w b g rb rg xs → Keeps (fun _ => False) w0 w → o.Ok w0 → w0.heap.size ≤ g → w0.heap.size ≤ rg → Calls Try.prog 11 #[.pointer (some ⟨b, 0, none⟩), .pointer (some ⟨rb, 0, none⟩), o.v] w (OneP w0 w b g rb rg ys) := fun w0 w b g rb rg q1 q2 q3 q4 q5 => by rw [hys]; exact one_any w0 b g rb rg xs o w q1 q2 q3 q4 q5
  obtain ⟨k, p, n, ma, mc, ms, pa, pc, ps, x, nl⟩ := o
  simp only at *
  subst hK
  obtain ⟨Lm, hLm⟩ : ∃ L, L = ms.length := ⟨_, rfl⟩
  obtain ⟨Lp, hLp⟩ : ∃ L, L = ps.length := ⟨_, rfl⟩
  obtain ⟨X, hX⟩ : ∃ X : Nat, X = x.toNat := ⟨_, rfl⟩
  unfold Opn.v
  simp only
  rw [← hLm, ← hLp, ← hX]
  obtain ⟨W0, hW0⟩ : ∃ W0, W0 = w.alloc (.cells #[.int .i64 0, .int .i64 p, .int .i64 n, .slice ma Lm mc, .slice pa Lp pc, .int .u32 (X : Int), .bool nl] 36) := ⟨_, rfl⟩
  have hB0 : Blk W0 w.heap.size [.int .i64 0, .int .i64 p, .int .i64 n, .slice ma Lm mc, .slice pa Lp pc, .int .u32 (X : Int), .bool nl] 36 := by rw [hW0]; exact Blk.new w _ 36
  have hk0 : Keeps (fun _ => False) w W0 := by rw [hW0]; exact (Keeps.refl _ w).alloc _
  obtain ⟨O, hO⟩ : ∃ O, O = w.heap.size := ⟨_, rfl⟩
  rw [← hO] at hB0
  have hok0 := hok.grown hk0
  have HBg : Hid (∀ W, Keeps (fun _ => False) W0 W → Calls Try.prog 9 #[.slice a ws.length cap] W fun e w' => ∃ G, W.heap.size ≤ G ∧ e = .returned (.slice (some ⟨G, 0, none⟩) 80 80) ∧ Blk w' G (wvs xs) 34 ∧ Keeps (fun _ => False) W w') := fun W kk => by rw [hxs]; exact begun_any a cap ws W ((hx.kept hk0 (fun _ _ e => e)).kept kk (fun _ _ e => e)) hl
  have HO : Hid (∀ W G, Blk W G (wvs xs) 34 → Calls Try.prog 8 #[.slice (some ⟨G, 0, none⟩) 80 80] W fun e w' => ∃ b', W.heap.size < b' ∧ e = .returned (.tuple #[.pointer (some ⟨b', 0, none⟩), .int .i64 0]) ∧ Mm w' b' W.heap.size xs ∧ Keeps (fun _ => False) W w') := fun W G hG => by
    have := of_in (some ⟨G, 0, none⟩) 80 5 xs W (segW_of_blk hG) (by rw [hxl]) (by omega) (by omega)
    rw [hxl] at this
    exact this
  obtain ⟨L, hL⟩ : ∃ L, L = ws.length := ⟨_, rfl⟩
  rw [← hL] at HBg ⊢
  have HR : Hid (∀ W G, Blk W G (wvs xs) 34 → Calls Try.prog 10 #[.slice (some ⟨G, 0, none⟩) 80 80] W fun e w' => e = .returned (.tuple #[.pointer (some ⟨W.heap.size, 0, none⟩), .int .i64 0]) ∧ Rm w' W.heap.size (W.heap.size + 1) xs ∧ Keeps (fun _ => False) W w') := fun W G hG => by
    have := rof_in (some ⟨G, 0, none⟩) 80 5 xs W (segW_of_blk hG) (by rw [hxl]) (by omega) (by omega)
    rw [hxl] at this
    exact this
  have HWs : Hid (∀ W b g zs, Mm W b g zs → zs.length = 80 → Calls Try.prog 12 #[.pointer (some ⟨b, 0, none⟩)] W fun e w' => e = .returned (.slice (some ⟨W.heap.size, 0, none⟩) 80 80) ∧ Blk w' W.heap.size (wvs zs) 34 ∧ Keeps (fun _ => False) W w') := fun W b g zs hM h8 => by
    have := words_any b g zs W hM
    rw [h8] at this
    exact this
  unfold Opn.v at hone
  simp only at hone
  rw [← hLm, ← hLp, ← hX] at hone
  have HOne : Hid (∀ w b g rb rg, Duo w b g rb rg xs → Keeps (fun _ => False) W0 w → W0.heap.size ≤ g → W0.heap.size ≤ rg → Calls Try.prog 11 #[.pointer (some ⟨b, 0, none⟩), .pointer (some ⟨rb, 0, none⟩), .agg #[.int .i64 0, .int .i64 p, .int .i64 n, .slice ma Lm mc, .slice pa Lp pc, .int .u32 (X : Int), .bool nl]] w (OneP W0 w b g rb rg ys)) := fun w b g rb rg q1 q2 q4 q5 => hone W0 w b g rb rg q1 q2 hok0 q4 q5
  have HX : Hid (W0 = w.alloc (.cells #[.int .i64 0, .int .i64 p, .int .i64 n, .slice ma Lm mc, .slice pa Lp pc, .int .u32 (X : Int), .bool nl] 36) ∧ O = w.heap.size ∧ Keeps (fun _ => False) w W0 ∧ Blk W0 O [.int .i64 0, .int .i64 p, .int .i64 n, .slice ma Lm mc, .slice pa Lp pc, .int .u32 (X : Int), .bool nl] 36 ∧ xs.length = 80 ∧ ys.length = 80 ∧ SegI W0 pa ps ∧ Lp = ps.length ∧ (Lp ≤ pc ∧ pc ≤ maxLen)) := ⟨hW0, hO, hk0, hB0, hxl, hyl, hok0.ps, hLp, by rw [hLp]; exact hok0.pl⟩
  have HWl : Hid (∀ i, i < 80 → ¬ wd ys i = wd xs i → nl = false ∧ mineB ⟨0, p, n, ma, mc, ms, pa, pc, ps, x, nl⟩ i = true) := hwl
  have HMi : Hid (∀ i : Nat, mineB ⟨0, p, n, ma, mc, ms, pa, pc, ps, x, nl⟩ i = amB i p (mM2 n)) := hmi
  have b9 : (Lp : Int) ≤ 9223372036854775807 := by have h9 : ps.length ≤ pc ∧ pc ≤ maxLen := hok0.pl; unfold maxLen at h9; omega
  clear hx hl hok hxs hxl hLm hLp hX hW0 hB0 hk0 hO hok0 hL hone hys hyl hwl hmi
  go_enter Try.func5, Try.ntmps5
  go_wp2_with fail
  rw [← HX.out.1, ← HX.out.2.1]
  refine (HBg.out W0 (Keeps.refl _ _)).mono ?_
  rintro e w1 ⟨G1, hG1, rfl, hB1, hk1⟩
  have HO1 : Hid (Calls _ _ _ _ _) := HO.out w1 G1 hB1
  have H1 : Hid (Keeps (fun _ => False) W0 w1) := hk1
  clear hG1 hB1 hk1 HO
  go_wp2_with fail
  refine HO1.out.mono ?_
  rintro e w2 ⟨b, hb, rfl, hM, hk2⟩
  obtain ⟨g, hg⟩ : ∃ g, g = w1.heap.size := ⟨_, rfl⟩
  rw [← hg] at hM hb
  have hkx : Keeps (fun _ => False) W0 w2 := H1.out.trans hk2 fun _ _ e => e
  have d0 := (HX.out.2.2.2.1.kept hkx fun e => e).cell (i := 0) rfl
  have H2 : Hid (Mm w2 b g xs ∧ Keeps (fun _ => False) W0 w2 ∧ W0.heap.size ≤ g) := ⟨hM, hkx, by have := H1.out.size; omega⟩
  have HW2 : Hid (Calls _ _ _ _ _) := HWs.out w2 b g xs hM HX.out.2.2.2.2.1
  clear hM hk2 hb hg hkx HO1 H1
  go_wp2_with fail
  refine HW2.out.mono ?_
  rintro e w3 ⟨rfl, hB3, hk3⟩
  obtain ⟨Wb, hWb⟩ : ∃ g, g = w2.heap.size := ⟨_, rfl⟩
  rw [← hWb] at hB3 ⊢
  have hkx : Keeps (fun _ => False) W0 w3 := H2.out.2.1.trans hk3 fun _ _ e => e
  have H3 : Hid (Mm w3 b g xs ∧ Keeps (fun _ => False) W0 w3 ∧ Blk w3 Wb (wvs xs) 34 ∧ Wb ≠ g) := ⟨H2.out.1.kept hk3 (fun e => e) (fun e => e), hkx, hB3, by have := H2.out.1.row.lt; omega⟩
  have HB3 : Hid (Calls _ _ _ _ _) := HBg.out w3 hkx
  clear hB3 hk3 hkx hWb HW2 d0 HBg
  go_wp2_with fail
  refine HB3.out.mono ?_
  rintro e w4 ⟨G4, hG4, rfl, hB4, hk4⟩
  have HR4 : Hid (Calls _ _ _ _ _) := HR.out w4 G4 hB4
  have H4 : Hid (Mm w4 b g xs ∧ Keeps (fun _ => False) W0 w4 ∧ Blk w4 Wb (wvs xs) 34) := ⟨H3.out.1.kept hk4 (fun e => e) (fun e => e), H3.out.2.1.trans hk4 (fun _ _ e => e), H3.out.2.2.1.kept hk4 fun e => e⟩
  clear hG4 hB4 hk4 HB3 HR
  go_wp2_with fail
  refine HR4.out.mono ?_
  rintro e w5 ⟨rfl, hR5, hk5⟩
  obtain ⟨rb, hrb⟩ : ∃ rb, rb = w4.heap.size := ⟨_, rfl⟩
  rw [← hrb] at hR5 ⊢
  obtain ⟨rg, hrg⟩ : ∃ rg, rg = rb + 1 := ⟨_, rfl⟩
  rw [← hrg] at hR5
  have hkx : Keeps (fun _ => False) W0 w5 := H4.out.2.1.trans hk5 fun _ _ e => e
  have q1 := H4.out.1.blk.lt
  have q2' := H4.out.1.row.lt
  have q3 := H4.out.2.1.size
  have q5 := H4.out.2.2.lt
  have HOn : Hid (Calls _ _ _ _ _) := HOne.out w5 b g rb rg ⟨H4.out.1.kept hk5 (fun e => e) (fun e => e), hR5, by omega, by omega, by omega⟩ hkx H2.out.2.2 (by omega)
  have hOb := HX.out.2.2.2.1.kept hkx fun e => e
  have c0 := hOb.cell (i := 0) rfl
  have c1 := hOb.cell (i := 1) rfl
  have c2 := hOb.cell (i := 2) rfl
  have c3 := hOb.cell (i := 3) rfl
  have c4 := hOb.cell (i := 4) rfl
  have c5 := hOb.cell (i := 5) rfl
  have c6 := hOb.cell (i := 6) rfl
  have H5 : Hid (Blk w5 Wb (wvs xs) 34 ∧ Wb ≠ g ∧ Wb ≠ rg) := ⟨H4.out.2.2.kept hk5 (fun e => e), H3.out.2.2.2, by omega⟩
  clear hR5 hk5 hrb hrg hkx q1 q2' q3 q5 hOb HR4 HOne
  go_wp2_with fail
  refine HOn.out.mono ?_
  rintro e w6 ⟨rfl, hD6, hk6, hkg⟩
  have HW6 : Hid (Calls _ _ _ _ _) := HWs.out w6 b g ys hD6.mm HX.out.2.2.2.2.2.1
  have H6 : Hid (Keeps (fun _ => False) W0 w6 ∧ Blk w6 Wb (wvs xs) 34) := ⟨hk6, H5.out.1.kept hkg fun e => by rcases e with e | e; exact H5.out.2.1 e; exact H5.out.2.2 e⟩
  clear hD6 hk6 hkg HOn c0 c1 c2 c3 c4 c5 c6
  go_wp2_with fail
  refine HW6.out.mono ?_
  rintro e w7 ⟨rfl, hB7, hk7⟩
  obtain ⟨Nb, hNb⟩ : ∃ g, g = w6.heap.size := ⟨_, rfl⟩
  rw [← hNb] at hB7 ⊢
  have H7 : Hid (Keeps (fun _ => False) W0 w7 ∧ Blk w7 Wb (wvs xs) 34 ∧ Blk w7 Nb (wvs ys) 34) := ⟨H6.out.1.trans hk7 (fun _ _ e => e), H6.out.2.kept hk7 (fun e => e), hB7⟩
  clear hB7 hk7 hNb HW6 H6 HWs H5 H4 H3 H2
  go_wp2
  go_loopw [51] (fun v wr => ∃ i : Nat, i ≤ 80 ∧ v = .int .i64 (i : Int) ∧ Keeps (fun _ => False) w7 wr) (fun v _ => 80 - (intOf v).toNat)
  case atStart => exact ⟨0, by omega, rfl, Keeps.refl _ _⟩
  case round =>
    obtain ⟨i, hi, rfl, hk⟩ := hrel
    by_cases hi80 : i < 80
    · have hi80' : (i : Int) < 80 := by omega
      have HFx : Hid (∀ W, Keeps (fun _ => False) wr W → W.cell? ⟨O, 0, none⟩ = some (.int .i64 0) ∧ W.cell? ⟨O, 1, none⟩ = some (.int .i64 p) ∧ W.cell? ⟨O, 2, none⟩ = some (.int .i64 n) ∧ W.cell? ⟨O, 4, none⟩ = some (.slice pa Lp pc) ∧ W.cell? ⟨O, 6, none⟩ = some (.bool nl) ∧ W.cell? ⟨Nb, i, none⟩ = some (.int .u32 ((wd ys i).toNat : Int)) ∧ W.cell? ⟨Wb, i, none⟩ = some (.int .u32 ((wd xs i).toNat : Int))) := fun W kk => by
        have k2 := hk.trans kk fun _ _ e => e
        have hB := HX.out.2.2.2.1.kept (H7.out.1.trans k2 fun _ _ e => e) fun e => e
        exact ⟨hB.cell rfl, hB.cell rfl, hB.cell rfl, hB.cell rfl, hB.cell rfl, (H7.out.2.2.kept k2 fun e => e).cell (wvs_wd (by have := HX.out.2.2.2.2.2.1; omega)), (H7.out.2.1.kept k2 fun e => e).cell (wvs_wd (by have := HX.out.2.2.2.2.1; omega))⟩
      have HK0 : Hid (Keeps (fun _ => False) w7 wr) := hk
      have hkx := Keeps.refl (fun _ => False) wr
      obtain ⟨d0, dp, dn, d4, d6, d1, d2⟩ := HFx.out wr hkx
      obtain ⟨M2, hM2⟩ : ∃ M, M = mM2 n := ⟨_, rfl⟩
      have eM2 : IntKind.i64.wrap (2 + n) = M2 := hM2.symm
      obtain ⟨M3, hM3⟩ : ∃ M, M = mM3 n := ⟨_, rfl⟩
      have eM3 : IntKind.i64.wrap (3 + n) = M3 := hM3.symm
      have HAm : Hid (∀ f m W, Calls Try.prog 20 #[.int .i64 (i : Int), .int .i64 f, .int .i64 m] W fun e w' => e = .returned (.bool (amB i f m)) ∧ w' = W) := fun f m W => among_any i f m W
      obtain ⟨mb, hmb⟩ : ∃ mb, mb = amB i p M2 := ⟨_, rfl⟩
      have hmbe : Hid (mineB ⟨0, p, n, ma, mc, ms, pa, pc, ps, x, nl⟩ i = mb) := by show mineB _ i = mb; rw [HMi.out, hmb, hM2]
      have HA1 := HAm.out p M2 wr
      rw [← hmb] at HA1
      have HA1 : Hid (Calls _ _ _ _ _) := HA1
      have HK : Hid (Keeps (fun _ => False) w7 wr) := hk
      clear hi hk hkx hM2 hM3 hmb
      go_wp2_with fail
      refine HA1.out.mono ?_
      rintro e w8 ⟨rfl, hw8⟩
      obtain rfl := hw8.symm
      clear hw8 HA1
      by_cases hch : wd ys i = wd xs i
      · rw [hch] at d1
        obtain ⟨v1, hv1⟩ : ∃ v : Nat, v = (wd xs i).toNat := ⟨_, rfl⟩
        rw [← hv1] at d1 d2
        clear hch hv1
        go_wp2
        refine wp_region_held_drew (S := (fun w' => w'.cell? ⟨Nb, i, none⟩ = some (.int .u32 (v1 : Int)) ∧ w'.cell? ⟨Wb, i, none⟩ = some (.int .u32 (v1 : Int)))) Try.mixd ⟨d1, d2⟩ (fun hHeld => ?_)
        simp only [List.size_toArray, List.length_cons, List.length_nil, Nat.reduceAdd, Array.replicate_succ, Array.replicate_zero, List.push_toArray, List.append_toArray, List.nil_append, List.cons_append]
        refine wpAnyH_take (i := 0) (oi := { dst := some 96, op := Op.move (Operand.tmp 10), type := 22, pos := "law.go:170", after := #[], guard := none }) (v := .slice (some ⟨Nb, 0, none⟩) 80 80) rfl (by kernel_rfl) (by kernel_rfl) (by kernel_rfl) (fun _ _ _ h => h) (Or.inl ⟨by kernel_rfl, by (intro w hSw; (try dsimp only at hSw); go_simp)⟩) hHeld ?_
        simp only [Act.put, List.setIfInBounds_toArray, List.set_cons_zero, List.set_cons_succ]
        refine wpAnyH_take (i := 1) (oi := { dst := some 97, op := Op.move (Operand.tmp 11), type := 3, pos := "law.go:170", after := #[], guard := none }) (v := .int .i64 (i : Int)) rfl (by kernel_rfl) (by kernel_rfl) (by kernel_rfl) (fun _ _ _ h => h) (Or.inl ⟨by kernel_rfl, by (intro w hSw; (try dsimp only at hSw); go_simp)⟩) hHeld ?_
        simp only [Act.put, List.setIfInBounds_toArray, List.set_cons_zero, List.set_cons_succ]
        refine wpAnyH_take (i := 2) (oi := { dst := some 98, op := Op.indexAddr 22 (Operand.tmp 96) (Operand.tmp 97), type := 0, pos := "law.go:170", after := #[{ on := 0, ground := Ground.data }, { on := 1, ground := Ground.data }], guard := none }) (v := .pointer (some ⟨Nb, i, none⟩)) rfl (by kernel_rfl) (by kernel_rfl) (by kernel_rfl) (fun _ _ _ h => h) (Or.inl ⟨by kernel_rfl, by (intro w hSw; (try dsimp only at hSw); go_simp)⟩) hHeld ?_
        simp only [Act.put, List.setIfInBounds_toArray, List.set_cons_zero, List.set_cons_succ]
        refine wpAnyH_take (i := 3) (oi := { dst := some 99, op := Op.load 34 (Operand.tmp 98), type := 34, pos := "law.go:170", after := #[{ on := 2, ground := Ground.data }], guard := none }) (v := .int .u32 (v1 : Int)) rfl (by kernel_rfl) (by kernel_rfl) (by kernel_rfl) (fun _ _ _ h => h) (Or.inl ⟨by kernel_rfl, by (intro w hSw; (try dsimp only at hSw); go_simp)⟩) hHeld ?_
        simp only [Act.put, List.setIfInBounds_toArray, List.set_cons_zero, List.set_cons_succ]
        refine wpAnyH_take (i := 4) (oi := { dst := some 100, op := Op.move (Operand.tmp 7), type := 22, pos := "law.go:170", after := #[], guard := none }) (v := .slice (some ⟨Wb, 0, none⟩) 80 80) rfl (by kernel_rfl) (by kernel_rfl) (by kernel_rfl) (fun _ _ _ h => h) (Or.inl ⟨by kernel_rfl, by (intro w hSw; (try dsimp only at hSw); go_simp)⟩) hHeld ?_
        simp only [Act.put, List.setIfInBounds_toArray, List.set_cons_zero, List.set_cons_succ]
        refine wpAnyH_take (i := 5) (oi := { dst := some 101, op := Op.move (Operand.tmp 11), type := 3, pos := "law.go:170", after := #[], guard := none }) (v := .int .i64 (i : Int)) rfl (by kernel_rfl) (by kernel_rfl) (by kernel_rfl) (fun _ _ _ h => h) (Or.inl ⟨by kernel_rfl, by (intro w hSw; (try dsimp only at hSw); go_simp)⟩) hHeld ?_
        simp only [Act.put, List.setIfInBounds_toArray, List.set_cons_zero, List.set_cons_succ]
        refine wpAnyH_take (i := 6) (oi := { dst := some 102, op := Op.indexAddr 22 (Operand.tmp 100) (Operand.tmp 101), type := 0, pos := "law.go:170", after := #[{ on := 4, ground := Ground.data }, { on := 5, ground := Ground.data }], guard := none }) (v := .pointer (some ⟨Wb, i, none⟩)) rfl (by kernel_rfl) (by kernel_rfl) (by kernel_rfl) (fun _ _ _ h => h) (Or.inl ⟨by kernel_rfl, by (intro w hSw; (try dsimp only at hSw); go_simp)⟩) hHeld ?_
        simp only [Act.put, List.setIfInBounds_toArray, List.set_cons_zero, List.set_cons_succ]
        refine wpAnyH_take (i := 7) (oi := { dst := some 103, op := Op.load 34 (Operand.tmp 102), type := 34, pos := "law.go:170", after := #[{ on := 6, ground := Ground.data }], guard := none }) (v := .int .u32 (v1 : Int)) rfl (by kernel_rfl) (by kernel_rfl) (by kernel_rfl) (fun _ _ _ h => h) (Or.inl ⟨by kernel_rfl, by (intro w hSw; (try dsimp only at hSw); go_simp)⟩) hHeld ?_
        simp only [Act.put, List.setIfInBounds_toArray, List.set_cons_zero, List.set_cons_succ]
        refine wpAnyH_take (i := 8) (oi := { dst := some 104, op := Op.binOp BinOp.neq 34 (Operand.tmp 99) (Operand.tmp 103) 34, type := 4, pos := "law.go:170", after := #[{ on := 3, ground := Ground.data }, { on := 7, ground := Ground.data }], guard := none }) (v := .bool false) rfl (by kernel_rfl) (by kernel_rfl) (by kernel_rfl) (fun _ _ _ h => h) (Or.inl ⟨by kernel_rfl, by (intro w hSw; (try dsimp only at hSw); go_simp)⟩) hHeld ?_
        simp only [Act.put, List.setIfInBounds_toArray, List.set_cons_zero, List.set_cons_succ]
        refine wpAnyH_take (i := 9) (oi := { dst := some 105, op := Op.move (Operand.tmp 104), type := 4, pos := "law.go:170", after := #[{ on := 8, ground := Ground.data }], guard := none }) (v := .bool false) rfl (by kernel_rfl) (by kernel_rfl) (by kernel_rfl) (fun _ _ _ h => h) (Or.inl ⟨by kernel_rfl, by (intro w hSw; (try dsimp only at hSw); go_simp)⟩) hHeld ?_
        simp only [Act.put, List.setIfInBounds_toArray, List.set_cons_zero, List.set_cons_succ]
        refine wpAnyH_take (i := 10) (oi := { dst := some 106, op := Op.move (Operand.tmp 12), type := 4, pos := "law.go:170", after := #[{ on := 9, ground := Ground.guard }], guard := some (9, true) }) (v := undef) rfl (by kernel_rfl) (by kernel_rfl) (by kernel_rfl) (fun _ _ _ h => h) (Or.inr ⟨by kernel_rfl, rfl⟩) hHeld ?_
        simp only [Act.put, List.setIfInBounds_toArray, List.set_cons_zero, List.set_cons_succ]
        refine wpAnyH_take (i := 11) (oi := { dst := some 107, op := Op.unOp UnOp.not 4 (Operand.tmp 106), type := 4, pos := "law.go:170", after := #[{ on := 10, ground := Ground.data }, { on := 9, ground := Ground.guard }], guard := some (9, true) }) (v := undef) rfl (by kernel_rfl) (by kernel_rfl) (by kernel_rfl) (fun _ _ _ h => h) (Or.inr ⟨by kernel_rfl, rfl⟩) hHeld ?_
        simp only [Act.put, List.setIfInBounds_toArray, List.set_cons_zero, List.set_cons_succ]
        refine wpAnyH_take (i := 12) (oi := { dst := some 108, op := Op.move (Operand.tmp 107), type := 4, pos := "law.go:170", after := #[{ on := 11, ground := Ground.data }, { on := 9, ground := Ground.chain }, { on := 9, ground := Ground.guard }], guard := some (9, true) }) (v := undef) rfl (by kernel_rfl) (by kernel_rfl) (by kernel_rfl) (fun _ _ _ h => h) (Or.inr ⟨by kernel_rfl, rfl⟩) hHeld ?_
        simp only [Act.put, List.setIfInBounds_toArray, List.set_cons_zero, List.set_cons_succ]
        refine wpAnyH_take (i := 13) (oi := { dst := some 109, op := Op.fieldAddr 36 (Operand.tmp 3) 6, type := 0, pos := "law.go:170", after := #[{ on := 12, ground := Ground.guard }], guard := some (12, false) }) (v := undef) rfl (by kernel_rfl) (by kernel_rfl) (by kernel_rfl) (fun _ _ _ h => h) (Or.inr ⟨by kernel_rfl, rfl⟩) hHeld ?_
        simp only [Act.put, List.setIfInBounds_toArray, List.set_cons_zero, List.set_cons_succ]
        refine wpAnyH_take (i := 14) (oi := { dst := some 110, op := Op.load 4 (Operand.tmp 109), type := 4, pos := "law.go:170", after := #[{ on := 13, ground := Ground.data }, { on := 12, ground := Ground.guard }], guard := some (12, false) }) (v := undef) rfl (by kernel_rfl) (by kernel_rfl) (by kernel_rfl) (fun _ _ _ h => h) (Or.inr ⟨by kernel_rfl, rfl⟩) hHeld ?_
        simp only [Act.put, List.setIfInBounds_toArray, List.set_cons_zero, List.set_cons_succ]
        refine wpAnyH_take (i := 15) (oi := { dst := some 111, op := Op.pick (Operand.tmp 108) (Operand.const (Value.bool true)) (Operand.tmp 110), type := 4, pos := "law.go:170", after := #[{ on := 12, ground := Ground.data }, { on := 14, ground := Ground.data }, { on := 9, ground := Ground.guard }], guard := some (9, true) }) (v := undef) rfl (by kernel_rfl) (by kernel_rfl) (by kernel_rfl) (fun _ _ _ h => h) (Or.inr ⟨by kernel_rfl, rfl⟩) hHeld ?_
        simp only [Act.put, List.setIfInBounds_toArray, List.set_cons_zero, List.set_cons_succ]
        refine wpAnyH_take (i := 16) (oi := { dst := some 112, op := Op.pick (Operand.tmp 105) (Operand.tmp 111) (Operand.const (Value.bool false)), type := 4, pos := "law.go:170", after := #[{ on := 9, ground := Ground.data }, { on := 15, ground := Ground.data }], guard := none }) (v := .bool false) rfl (by kernel_rfl) (by kernel_rfl) (by kernel_rfl) (fun _ _ _ h => h) (Or.inl ⟨by kernel_rfl, by (intro w hSw; (try dsimp only at hSw); go_simp)⟩) hHeld ?_
        simp only [Act.put, List.setIfInBounds_toArray, List.set_cons_zero, List.set_cons_succ]
        refine wpAnyH_done (by kernel_rfl) ?_ _
        clear hHeld
        go_wp2
        go_roundw
        case rel => exact ⟨i + 1, by omega, by go_num, HK.out.drew⟩
        case measure => simp [intOf]; omega
      · obtain ⟨hnl, hmine⟩ := HWl.out i hi80 hch
        rw [hmbe.out] at hmine
        subst hnl
        rw [hmine]
        have hxy : (((wd ys i).toNat : Int) != ((wd xs i).toNat : Int)) = true := bne_iff_ne.2 (fun e => hch (UInt32.toNat_inj.1 (by omega)))
        obtain ⟨v1, hv1⟩ : ∃ v : Nat, v = (wd ys i).toNat := ⟨_, rfl⟩
        obtain ⟨v2, hv2⟩ : ∃ v : Nat, v = (wd xs i).toNat := ⟨_, rfl⟩
        rw [← hv1] at d1 hxy
        rw [← hv2] at d2 hxy
        clear hch hv1 hv2 hmine
        go_wp2
        refine wp_region_held_drew (S := (fun w' => w'.cell? ⟨Nb, i, none⟩ = some (.int .u32 (v1 : Int)) ∧ w'.cell? ⟨Wb, i, none⟩ = some (.int .u32 (v2 : Int)) ∧ w'.cell? ⟨O, 6, none⟩ = some (.bool false))) Try.mixd ⟨d1, d2, d6⟩ (fun hHeld => ?_)
        simp only [List.size_toArray, List.length_cons, List.length_nil, Nat.reduceAdd, Array.replicate_succ, Array.replicate_zero, List.push_toArray, List.append_toArray, List.nil_append, List.cons_append]
        refine wpAnyH_take (i := 0) (oi := { dst := some 96, op := Op.move (Operand.tmp 10), type := 22, pos := "law.go:170", after := #[], guard := none }) (v := .slice (some ⟨Nb, 0, none⟩) 80 80) rfl (by kernel_rfl) (by kernel_rfl) (by kernel_rfl) (fun _ _ _ h => h) (Or.inl ⟨by kernel_rfl, by (intro w hSw; (try dsimp only at hSw); go_simp)⟩) hHeld ?_
        simp only [Act.put, List.setIfInBounds_toArray, List.set_cons_zero, List.set_cons_succ]
        refine wpAnyH_take (i := 1) (oi := { dst := some 97, op := Op.move (Operand.tmp 11), type := 3, pos := "law.go:170", after := #[], guard := none }) (v := .int .i64 (i : Int)) rfl (by kernel_rfl) (by kernel_rfl) (by kernel_rfl) (fun _ _ _ h => h) (Or.inl ⟨by kernel_rfl, by (intro w hSw; (try dsimp only at hSw); go_simp)⟩) hHeld ?_
        simp only [Act.put, List.setIfInBounds_toArray, List.set_cons_zero, List.set_cons_succ]
        refine wpAnyH_take (i := 2) (oi := { dst := some 98, op := Op.indexAddr 22 (Operand.tmp 96) (Operand.tmp 97), type := 0, pos := "law.go:170", after := #[{ on := 0, ground := Ground.data }, { on := 1, ground := Ground.data }], guard := none }) (v := .pointer (some ⟨Nb, i, none⟩)) rfl (by kernel_rfl) (by kernel_rfl) (by kernel_rfl) (fun _ _ _ h => h) (Or.inl ⟨by kernel_rfl, by (intro w hSw; (try dsimp only at hSw); go_simp)⟩) hHeld ?_
        simp only [Act.put, List.setIfInBounds_toArray, List.set_cons_zero, List.set_cons_succ]
        refine wpAnyH_take (i := 3) (oi := { dst := some 99, op := Op.load 34 (Operand.tmp 98), type := 34, pos := "law.go:170", after := #[{ on := 2, ground := Ground.data }], guard := none }) (v := .int .u32 (v1 : Int)) rfl (by kernel_rfl) (by kernel_rfl) (by kernel_rfl) (fun _ _ _ h => h) (Or.inl ⟨by kernel_rfl, by (intro w hSw; (try dsimp only at hSw); go_simp)⟩) hHeld ?_
        simp only [Act.put, List.setIfInBounds_toArray, List.set_cons_zero, List.set_cons_succ]
        refine wpAnyH_take (i := 4) (oi := { dst := some 100, op := Op.move (Operand.tmp 7), type := 22, pos := "law.go:170", after := #[], guard := none }) (v := .slice (some ⟨Wb, 0, none⟩) 80 80) rfl (by kernel_rfl) (by kernel_rfl) (by kernel_rfl) (fun _ _ _ h => h) (Or.inl ⟨by kernel_rfl, by (intro w hSw; (try dsimp only at hSw); go_simp)⟩) hHeld ?_
        simp only [Act.put, List.setIfInBounds_toArray, List.set_cons_zero, List.set_cons_succ]
        refine wpAnyH_take (i := 5) (oi := { dst := some 101, op := Op.move (Operand.tmp 11), type := 3, pos := "law.go:170", after := #[], guard := none }) (v := .int .i64 (i : Int)) rfl (by kernel_rfl) (by kernel_rfl) (by kernel_rfl) (fun _ _ _ h => h) (Or.inl ⟨by kernel_rfl, by (intro w hSw; (try dsimp only at hSw); go_simp)⟩) hHeld ?_
        simp only [Act.put, List.setIfInBounds_toArray, List.set_cons_zero, List.set_cons_succ]
        refine wpAnyH_take (i := 6) (oi := { dst := some 102, op := Op.indexAddr 22 (Operand.tmp 100) (Operand.tmp 101), type := 0, pos := "law.go:170", after := #[{ on := 4, ground := Ground.data }, { on := 5, ground := Ground.data }], guard := none }) (v := .pointer (some ⟨Wb, i, none⟩)) rfl (by kernel_rfl) (by kernel_rfl) (by kernel_rfl) (fun _ _ _ h => h) (Or.inl ⟨by kernel_rfl, by (intro w hSw; (try dsimp only at hSw); go_simp)⟩) hHeld ?_
        simp only [Act.put, List.setIfInBounds_toArray, List.set_cons_zero, List.set_cons_succ]
        refine wpAnyH_take (i := 7) (oi := { dst := some 103, op := Op.load 34 (Operand.tmp 102), type := 34, pos := "law.go:170", after := #[{ on := 6, ground := Ground.data }], guard := none }) (v := .int .u32 (v2 : Int)) rfl (by kernel_rfl) (by kernel_rfl) (by kernel_rfl) (fun _ _ _ h => h) (Or.inl ⟨by kernel_rfl, by (intro w hSw; (try dsimp only at hSw); go_simp)⟩) hHeld ?_
        simp only [Act.put, List.setIfInBounds_toArray, List.set_cons_zero, List.set_cons_succ]
        refine wpAnyH_take (i := 8) (oi := { dst := some 104, op := Op.binOp BinOp.neq 34 (Operand.tmp 99) (Operand.tmp 103) 34, type := 4, pos := "law.go:170", after := #[{ on := 3, ground := Ground.data }, { on := 7, ground := Ground.data }], guard := none }) (v := .bool true) rfl (by kernel_rfl) (by kernel_rfl) (by kernel_rfl) (fun _ _ _ h => h) (Or.inl ⟨by kernel_rfl, by (intro w hSw; (try dsimp only at hSw); go_simp)⟩) hHeld ?_
        simp only [Act.put, List.setIfInBounds_toArray, List.set_cons_zero, List.set_cons_succ]
        refine wpAnyH_take (i := 9) (oi := { dst := some 105, op := Op.move (Operand.tmp 104), type := 4, pos := "law.go:170", after := #[{ on := 8, ground := Ground.data }], guard := none }) (v := .bool true) rfl (by kernel_rfl) (by kernel_rfl) (by kernel_rfl) (fun _ _ _ h => h) (Or.inl ⟨by kernel_rfl, by (intro w hSw; (try dsimp only at hSw); go_simp)⟩) hHeld ?_
        simp only [Act.put, List.setIfInBounds_toArray, List.set_cons_zero, List.set_cons_succ]
        refine wpAnyH_take (i := 10) (oi := { dst := some 106, op := Op.move (Operand.tmp 12), type := 4, pos := "law.go:170", after := #[{ on := 9, ground := Ground.guard }], guard := some (9, true) }) (v := .bool true) rfl (by kernel_rfl) (by kernel_rfl) (by kernel_rfl) (fun _ _ _ h => h) (Or.inl ⟨by kernel_rfl, by (intro w hSw; (try dsimp only at hSw); go_simp)⟩) hHeld ?_
        simp only [Act.put, List.setIfInBounds_toArray, List.set_cons_zero, List.set_cons_succ]
        refine wpAnyH_take (i := 11) (oi := { dst := some 107, op := Op.unOp UnOp.not 4 (Operand.tmp 106), type := 4, pos := "law.go:170", after := #[{ on := 10, ground := Ground.data }, { on := 9, ground := Ground.guard }], guard := some (9, true) }) (v := .bool false) rfl (by kernel_rfl) (by kernel_rfl) (by kernel_rfl) (fun _ _ _ h => h) (Or.inl ⟨by kernel_rfl, by (intro w hSw; (try dsimp only at hSw); go_simp)⟩) hHeld ?_
        simp only [Act.put, List.setIfInBounds_toArray, List.set_cons_zero, List.set_cons_succ]
        refine wpAnyH_take (i := 12) (oi := { dst := some 108, op := Op.move (Operand.tmp 107), type := 4, pos := "law.go:170", after := #[{ on := 11, ground := Ground.data }, { on := 9, ground := Ground.chain }, { on := 9, ground := Ground.guard }], guard := some (9, true) }) (v := .bool false) rfl (by kernel_rfl) (by kernel_rfl) (by kernel_rfl) (fun _ _ _ h => h) (Or.inl ⟨by kernel_rfl, by (intro w hSw; (try dsimp only at hSw); go_simp)⟩) hHeld ?_
        simp only [Act.put, List.setIfInBounds_toArray, List.set_cons_zero, List.set_cons_succ]
        refine wpAnyH_take (i := 13) (oi := { dst := some 109, op := Op.fieldAddr 36 (Operand.tmp 3) 6, type := 0, pos := "law.go:170", after := #[{ on := 12, ground := Ground.guard }], guard := some (12, false) }) (v := .pointer (some ⟨O, 6, none⟩)) rfl (by kernel_rfl) (by kernel_rfl) (by kernel_rfl) (fun _ _ _ h => h) (Or.inl ⟨by kernel_rfl, by (intro w hSw; (try dsimp only at hSw); go_simp)⟩) hHeld ?_
        simp only [Act.put, List.setIfInBounds_toArray, List.set_cons_zero, List.set_cons_succ]
        refine wpAnyH_take (i := 14) (oi := { dst := some 110, op := Op.load 4 (Operand.tmp 109), type := 4, pos := "law.go:170", after := #[{ on := 13, ground := Ground.data }, { on := 12, ground := Ground.guard }], guard := some (12, false) }) (v := .bool false) rfl (by kernel_rfl) (by kernel_rfl) (by kernel_rfl) (fun _ _ _ h => h) (Or.inl ⟨by kernel_rfl, by (intro w hSw; (try dsimp only at hSw); go_simp)⟩) hHeld ?_
        simp only [Act.put, List.setIfInBounds_toArray, List.set_cons_zero, List.set_cons_succ]
        refine wpAnyH_take (i := 15) (oi := { dst := some 111, op := Op.pick (Operand.tmp 108) (Operand.const (Value.bool true)) (Operand.tmp 110), type := 4, pos := "law.go:170", after := #[{ on := 12, ground := Ground.data }, { on := 14, ground := Ground.data }, { on := 9, ground := Ground.guard }], guard := some (9, true) }) (v := .bool false) rfl (by kernel_rfl) (by kernel_rfl) (by kernel_rfl) (fun _ _ _ h => h) (Or.inl ⟨by kernel_rfl, by (intro w hSw; (try dsimp only at hSw); go_simp)⟩) hHeld ?_
        simp only [Act.put, List.setIfInBounds_toArray, List.set_cons_zero, List.set_cons_succ]
        refine wpAnyH_take (i := 16) (oi := { dst := some 112, op := Op.pick (Operand.tmp 105) (Operand.tmp 111) (Operand.const (Value.bool false)), type := 4, pos := "law.go:170", after := #[{ on := 9, ground := Ground.data }, { on := 15, ground := Ground.data }], guard := none }) (v := .bool false) rfl (by kernel_rfl) (by kernel_rfl) (by kernel_rfl) (fun _ _ _ h => h) (Or.inl ⟨by kernel_rfl, by (intro w hSw; (try dsimp only at hSw); go_simp)⟩) hHeld ?_
        simp only [Act.put, List.setIfInBounds_toArray, List.set_cons_zero, List.set_cons_succ]
        refine wpAnyH_done (by kernel_rfl) ?_ _
        clear hHeld
        go_wp2
        go_roundw
        case rel => exact ⟨i + 1, by omega, by go_num, HK.out.drew⟩
        case measure => simp [intOf]; omega
    · obtain rfl : i = 80 := by omega
      have HF : Hid (Keeps (fun _ => False) w wr) := (HX.out.2.2.1.trans H7.out.1 fun _ _ e => e).trans hk fun _ _ e => e
      clear hi hk hi80
      go_wp2
      go_ret
      exact ⟨rfl, HF.out⟩

set_option maxRecDepth 20000 in
set_option maxHeartbeats 4000000 in
theorem walls_r (a : Option Addr) (cap : Nat) (ws : List UInt32) (o : Opn) (w : World) (hx : SegW w a ws) (hl : ws.length ≤ cap ∧ cap ≤ maxLen) (hok : o.Ok w) (hK0 : o.k ≠ 0) (hK2 : o.k ≠ 2) (hK4 : o.k ≠ 4) :
    Calls Try.prog 5 #[.slice a ws.length cap, o.v] w fun e w' => e = .returned (.bool true) ∧ Keeps (fun _ => False) w w' := by
  obtain ⟨xs, hxs⟩ : ∃ xs, xs = bgL ws := ⟨_, rfl⟩
  have hxl : xs.length = 80 := by rw [hxs]; exact bgL_length ws
  obtain ⟨ys, hys⟩ : ∃ ys, ys = oneX o xs := ⟨_, rfl⟩
  have hyl : ys.length = 80 := by rw [hys, oneX_length]; exact hxl
  have hwl : ∀ i, i < 80 → ¬ wd ys i = wd xs i → o.nil = false ∧ mineB o i = true := fun i hi hne => by
    have h9 := walls_pure (o := o) (xs := xs) (i := i) hK4 (by omega) (by omega) (by
      rw [← hys, wd_get? (by omega), wd_get? (by omega)]
      intro e; exact hne (Option.some.inj e))
    exact h9
  have hmi : ∀ i : Nat, mineB o i = false := fun i => by unfold mineB; rw [if_neg hK0, if_neg hK2]
  have hone : ∀ w0 w b g rb rg, Duo w b g rb rg xs → Keeps (fun _ => False) w0 w → o.Ok w0 → w0.heap.size ≤ g → w0.heap.size ≤ rg → Calls Try.prog 11 #[.pointer (some ⟨b, 0, none⟩), .pointer (some ⟨rb, 0, none⟩), o.v] w (OneP w0 w b g rb rg ys) := fun w0 w b g rb rg q1 q2 q3 q4 q5 => by rw [hys]; exact one_any w0 b g rb rg xs o w q1 q2 q3 q4 q5
  obtain ⟨k, p, n, ma, mc, ms, pa, pc, ps, x, nl⟩ := o
  simp only at *
  skip
  obtain ⟨Lm, hLm⟩ : ∃ L, L = ms.length := ⟨_, rfl⟩
  obtain ⟨Lp, hLp⟩ : ∃ L, L = ps.length := ⟨_, rfl⟩
  obtain ⟨X, hX⟩ : ∃ X : Nat, X = x.toNat := ⟨_, rfl⟩
  unfold Opn.v
  simp only
  rw [← hLm, ← hLp, ← hX]
  obtain ⟨W0, hW0⟩ : ∃ W0, W0 = w.alloc (.cells #[.int .i64 k, .int .i64 p, .int .i64 n, .slice ma Lm mc, .slice pa Lp pc, .int .u32 (X : Int), .bool nl] 36) := ⟨_, rfl⟩
  have hB0 : Blk W0 w.heap.size [.int .i64 k, .int .i64 p, .int .i64 n, .slice ma Lm mc, .slice pa Lp pc, .int .u32 (X : Int), .bool nl] 36 := by rw [hW0]; exact Blk.new w _ 36
  have hk0 : Keeps (fun _ => False) w W0 := by rw [hW0]; exact (Keeps.refl _ w).alloc _
  obtain ⟨O, hO⟩ : ∃ O, O = w.heap.size := ⟨_, rfl⟩
  rw [← hO] at hB0
  have hok0 := hok.grown hk0
  have HBg : Hid (∀ W, Keeps (fun _ => False) W0 W → Calls Try.prog 9 #[.slice a ws.length cap] W fun e w' => ∃ G, W.heap.size ≤ G ∧ e = .returned (.slice (some ⟨G, 0, none⟩) 80 80) ∧ Blk w' G (wvs xs) 34 ∧ Keeps (fun _ => False) W w') := fun W kk => by rw [hxs]; exact begun_any a cap ws W ((hx.kept hk0 (fun _ _ e => e)).kept kk (fun _ _ e => e)) hl
  have HO : Hid (∀ W G, Blk W G (wvs xs) 34 → Calls Try.prog 8 #[.slice (some ⟨G, 0, none⟩) 80 80] W fun e w' => ∃ b', W.heap.size < b' ∧ e = .returned (.tuple #[.pointer (some ⟨b', 0, none⟩), .int .i64 0]) ∧ Mm w' b' W.heap.size xs ∧ Keeps (fun _ => False) W w') := fun W G hG => by
    have := of_in (some ⟨G, 0, none⟩) 80 5 xs W (segW_of_blk hG) (by rw [hxl]) (by omega) (by omega)
    rw [hxl] at this
    exact this
  obtain ⟨L, hL⟩ : ∃ L, L = ws.length := ⟨_, rfl⟩
  rw [← hL] at HBg ⊢
  have HR : Hid (∀ W G, Blk W G (wvs xs) 34 → Calls Try.prog 10 #[.slice (some ⟨G, 0, none⟩) 80 80] W fun e w' => e = .returned (.tuple #[.pointer (some ⟨W.heap.size, 0, none⟩), .int .i64 0]) ∧ Rm w' W.heap.size (W.heap.size + 1) xs ∧ Keeps (fun _ => False) W w') := fun W G hG => by
    have := rof_in (some ⟨G, 0, none⟩) 80 5 xs W (segW_of_blk hG) (by rw [hxl]) (by omega) (by omega)
    rw [hxl] at this
    exact this
  have HWs : Hid (∀ W b g zs, Mm W b g zs → zs.length = 80 → Calls Try.prog 12 #[.pointer (some ⟨b, 0, none⟩)] W fun e w' => e = .returned (.slice (some ⟨W.heap.size, 0, none⟩) 80 80) ∧ Blk w' W.heap.size (wvs zs) 34 ∧ Keeps (fun _ => False) W w') := fun W b g zs hM h8 => by
    have := words_any b g zs W hM
    rw [h8] at this
    exact this
  unfold Opn.v at hone
  simp only at hone
  rw [← hLm, ← hLp, ← hX] at hone
  have HOne : Hid (∀ w b g rb rg, Duo w b g rb rg xs → Keeps (fun _ => False) W0 w → W0.heap.size ≤ g → W0.heap.size ≤ rg → Calls Try.prog 11 #[.pointer (some ⟨b, 0, none⟩), .pointer (some ⟨rb, 0, none⟩), .agg #[.int .i64 k, .int .i64 p, .int .i64 n, .slice ma Lm mc, .slice pa Lp pc, .int .u32 (X : Int), .bool nl]] w (OneP W0 w b g rb rg ys)) := fun w b g rb rg q1 q2 q4 q5 => hone W0 w b g rb rg q1 q2 hok0 q4 q5
  have HX : Hid (W0 = w.alloc (.cells #[.int .i64 k, .int .i64 p, .int .i64 n, .slice ma Lm mc, .slice pa Lp pc, .int .u32 (X : Int), .bool nl] 36) ∧ O = w.heap.size ∧ Keeps (fun _ => False) w W0 ∧ Blk W0 O [.int .i64 k, .int .i64 p, .int .i64 n, .slice ma Lm mc, .slice pa Lp pc, .int .u32 (X : Int), .bool nl] 36 ∧ xs.length = 80 ∧ ys.length = 80 ∧ SegI W0 pa ps ∧ Lp = ps.length ∧ (Lp ≤ pc ∧ pc ≤ maxLen)) := ⟨hW0, hO, hk0, hB0, hxl, hyl, hok0.ps, hLp, by rw [hLp]; exact hok0.pl⟩
  have HWl : Hid (∀ i, i < 80 → ¬ wd ys i = wd xs i → nl = false ∧ mineB ⟨k, p, n, ma, mc, ms, pa, pc, ps, x, nl⟩ i = true) := hwl
  have HMi : Hid (∀ i : Nat, mineB ⟨k, p, n, ma, mc, ms, pa, pc, ps, x, nl⟩ i = false) := hmi
  have q0 : (k == 0) = false := beq_eq_false_iff_ne.2 hK0
  have q2 : (k == 2) = false := beq_eq_false_iff_ne.2 hK2
  have q4 : (k == 4) = false := beq_eq_false_iff_ne.2 hK4
  have b9 : (Lp : Int) ≤ 9223372036854775807 := by have h9 : ps.length ≤ pc ∧ pc ≤ maxLen := hok0.pl; unfold maxLen at h9; omega
  clear hx hl hok hxs hxl hLm hLp hX hW0 hB0 hk0 hO hok0 hL hone hys hyl hwl hmi hK0 hK2 hK4
  go_enter Try.func5, Try.ntmps5
  go_wp2_with fail
  rw [← HX.out.1, ← HX.out.2.1]
  refine (HBg.out W0 (Keeps.refl _ _)).mono ?_
  rintro e w1 ⟨G1, hG1, rfl, hB1, hk1⟩
  have HO1 : Hid (Calls _ _ _ _ _) := HO.out w1 G1 hB1
  have H1 : Hid (Keeps (fun _ => False) W0 w1) := hk1
  clear hG1 hB1 hk1 HO
  go_wp2_with fail
  refine HO1.out.mono ?_
  rintro e w2 ⟨b, hb, rfl, hM, hk2⟩
  obtain ⟨g, hg⟩ : ∃ g, g = w1.heap.size := ⟨_, rfl⟩
  rw [← hg] at hM hb
  have hkx : Keeps (fun _ => False) W0 w2 := H1.out.trans hk2 fun _ _ e => e
  have d0 := (HX.out.2.2.2.1.kept hkx fun e => e).cell (i := 0) rfl
  have H2 : Hid (Mm w2 b g xs ∧ Keeps (fun _ => False) W0 w2 ∧ W0.heap.size ≤ g) := ⟨hM, hkx, by have := H1.out.size; omega⟩
  have HW2 : Hid (Calls _ _ _ _ _) := HWs.out w2 b g xs hM HX.out.2.2.2.2.1
  clear hM hk2 hb hg hkx HO1 H1
  go_wp2_with fail
  refine HW2.out.mono ?_
  rintro e w3 ⟨rfl, hB3, hk3⟩
  obtain ⟨Wb, hWb⟩ : ∃ g, g = w2.heap.size := ⟨_, rfl⟩
  rw [← hWb] at hB3 ⊢
  have hkx : Keeps (fun _ => False) W0 w3 := H2.out.2.1.trans hk3 fun _ _ e => e
  have H3 : Hid (Mm w3 b g xs ∧ Keeps (fun _ => False) W0 w3 ∧ Blk w3 Wb (wvs xs) 34 ∧ Wb ≠ g) := ⟨H2.out.1.kept hk3 (fun e => e) (fun e => e), hkx, hB3, by have := H2.out.1.row.lt; omega⟩
  have HB3 : Hid (Calls _ _ _ _ _) := HBg.out w3 hkx
  clear hB3 hk3 hkx hWb HW2 d0 HBg
  go_wp2_with fail
  refine HB3.out.mono ?_
  rintro e w4 ⟨G4, hG4, rfl, hB4, hk4⟩
  have HR4 : Hid (Calls _ _ _ _ _) := HR.out w4 G4 hB4
  have H4 : Hid (Mm w4 b g xs ∧ Keeps (fun _ => False) W0 w4 ∧ Blk w4 Wb (wvs xs) 34) := ⟨H3.out.1.kept hk4 (fun e => e) (fun e => e), H3.out.2.1.trans hk4 (fun _ _ e => e), H3.out.2.2.1.kept hk4 fun e => e⟩
  clear hG4 hB4 hk4 HB3 HR
  go_wp2_with fail
  refine HR4.out.mono ?_
  rintro e w5 ⟨rfl, hR5, hk5⟩
  obtain ⟨rb, hrb⟩ : ∃ rb, rb = w4.heap.size := ⟨_, rfl⟩
  rw [← hrb] at hR5 ⊢
  obtain ⟨rg, hrg⟩ : ∃ rg, rg = rb + 1 := ⟨_, rfl⟩
  rw [← hrg] at hR5
  have hkx : Keeps (fun _ => False) W0 w5 := H4.out.2.1.trans hk5 fun _ _ e => e
  have q1 := H4.out.1.blk.lt
  have q2' := H4.out.1.row.lt
  have q3 := H4.out.2.1.size
  have q5 := H4.out.2.2.lt
  have HOn : Hid (Calls _ _ _ _ _) := HOne.out w5 b g rb rg ⟨H4.out.1.kept hk5 (fun e => e) (fun e => e), hR5, by omega, by omega, by omega⟩ hkx H2.out.2.2 (by omega)
  have hOb := HX.out.2.2.2.1.kept hkx fun e => e
  have c0 := hOb.cell (i := 0) rfl
  have c1 := hOb.cell (i := 1) rfl
  have c2 := hOb.cell (i := 2) rfl
  have c3 := hOb.cell (i := 3) rfl
  have c4 := hOb.cell (i := 4) rfl
  have c5 := hOb.cell (i := 5) rfl
  have c6 := hOb.cell (i := 6) rfl
  have H5 : Hid (Blk w5 Wb (wvs xs) 34 ∧ Wb ≠ g ∧ Wb ≠ rg) := ⟨H4.out.2.2.kept hk5 (fun e => e), H3.out.2.2.2, by omega⟩
  clear hR5 hk5 hrb hrg hkx q1 q2' q3 q5 hOb HR4 HOne
  go_wp2_with fail
  refine HOn.out.mono ?_
  rintro e w6 ⟨rfl, hD6, hk6, hkg⟩
  have HW6 : Hid (Calls _ _ _ _ _) := HWs.out w6 b g ys hD6.mm HX.out.2.2.2.2.2.1
  have H6 : Hid (Keeps (fun _ => False) W0 w6 ∧ Blk w6 Wb (wvs xs) 34) := ⟨hk6, H5.out.1.kept hkg fun e => by rcases e with e | e; exact H5.out.2.1 e; exact H5.out.2.2 e⟩
  clear hD6 hk6 hkg HOn c0 c1 c2 c3 c4 c5 c6
  go_wp2_with fail
  refine HW6.out.mono ?_
  rintro e w7 ⟨rfl, hB7, hk7⟩
  obtain ⟨Nb, hNb⟩ : ∃ g, g = w6.heap.size := ⟨_, rfl⟩
  rw [← hNb] at hB7 ⊢
  have H7 : Hid (Keeps (fun _ => False) W0 w7 ∧ Blk w7 Wb (wvs xs) 34 ∧ Blk w7 Nb (wvs ys) 34) := ⟨H6.out.1.trans hk7 (fun _ _ e => e), H6.out.2.kept hk7 (fun e => e), hB7⟩
  clear hB7 hk7 hNb HW6 H6 HWs H5 H4 H3 H2
  go_wp2
  go_loopw [51] (fun v wr => ∃ i : Nat, i ≤ 80 ∧ v = .int .i64 (i : Int) ∧ Keeps (fun _ => False) w7 wr) (fun v _ => 80 - (intOf v).toNat)
  case atStart => exact ⟨0, by omega, rfl, Keeps.refl _ _⟩
  case round =>
    obtain ⟨i, hi, rfl, hk⟩ := hrel
    by_cases hi80 : i < 80
    · have hi80' : (i : Int) < 80 := by omega
      have HFx : Hid (∀ W, Keeps (fun _ => False) wr W → W.cell? ⟨O, 0, none⟩ = some (.int .i64 k) ∧ W.cell? ⟨O, 1, none⟩ = some (.int .i64 p) ∧ W.cell? ⟨O, 2, none⟩ = some (.int .i64 n) ∧ W.cell? ⟨O, 4, none⟩ = some (.slice pa Lp pc) ∧ W.cell? ⟨O, 6, none⟩ = some (.bool nl) ∧ W.cell? ⟨Nb, i, none⟩ = some (.int .u32 ((wd ys i).toNat : Int)) ∧ W.cell? ⟨Wb, i, none⟩ = some (.int .u32 ((wd xs i).toNat : Int))) := fun W kk => by
        have k2 := hk.trans kk fun _ _ e => e
        have hB := HX.out.2.2.2.1.kept (H7.out.1.trans k2 fun _ _ e => e) fun e => e
        exact ⟨hB.cell rfl, hB.cell rfl, hB.cell rfl, hB.cell rfl, hB.cell rfl, (H7.out.2.2.kept k2 fun e => e).cell (wvs_wd (by have := HX.out.2.2.2.2.2.1; omega)), (H7.out.2.1.kept k2 fun e => e).cell (wvs_wd (by have := HX.out.2.2.2.2.1; omega))⟩
      have HK0 : Hid (Keeps (fun _ => False) w7 wr) := hk
      have hkx := Keeps.refl (fun _ => False) wr
      obtain ⟨d0, dp, dn, d4, d6, d1, d2⟩ := HFx.out wr hkx
      obtain ⟨M2, hM2⟩ : ∃ M, M = mM2 n := ⟨_, rfl⟩
      have eM2 : IntKind.i64.wrap (2 + n) = M2 := hM2.symm
      obtain ⟨M3, hM3⟩ : ∃ M, M = mM3 n := ⟨_, rfl⟩
      have eM3 : IntKind.i64.wrap (3 + n) = M3 := hM3.symm
      have HAm : Hid (∀ f m W, Calls Try.prog 20 #[.int .i64 (i : Int), .int .i64 f, .int .i64 m] W fun e w' => e = .returned (.bool (amB i f m)) ∧ w' = W) := fun f m W => among_any i f m W
      obtain ⟨mb, hmb⟩ : ∃ mb, mb = false := ⟨_, rfl⟩
      have hmbe : Hid (mineB ⟨k, p, n, ma, mc, ms, pa, pc, ps, x, nl⟩ i = false) := HMi.out i
      have HK : Hid (Keeps (fun _ => False) w7 wr) := hk
      clear hi hk hkx hM2 hM3 hmb
      by_cases hch : wd ys i = wd xs i
      · rw [hch] at d1
        obtain ⟨v1, hv1⟩ : ∃ v : Nat, v = (wd xs i).toNat := ⟨_, rfl⟩
        rw [← hv1] at d1 d2
        clear hch hv1
        go_wp2
        refine wp_region_held_drew (S := (fun w' => w'.cell? ⟨Nb, i, none⟩ = some (.int .u32 (v1 : Int)) ∧ w'.cell? ⟨Wb, i, none⟩ = some (.int .u32 (v1 : Int)))) Try.mixd ⟨d1, d2⟩ (fun hHeld => ?_)
        simp only [List.size_toArray, List.length_cons, List.length_nil, Nat.reduceAdd, Array.replicate_succ, Array.replicate_zero, List.push_toArray, List.append_toArray, List.nil_append, List.cons_append]
        refine wpAnyH_take (i := 0) (oi := { dst := some 96, op := Op.move (Operand.tmp 10), type := 22, pos := "law.go:170", after := #[], guard := none }) (v := .slice (some ⟨Nb, 0, none⟩) 80 80) rfl (by kernel_rfl) (by kernel_rfl) (by kernel_rfl) (fun _ _ _ h => h) (Or.inl ⟨by kernel_rfl, by (intro w hSw; (try dsimp only at hSw); go_simp)⟩) hHeld ?_
        simp only [Act.put, List.setIfInBounds_toArray, List.set_cons_zero, List.set_cons_succ]
        refine wpAnyH_take (i := 1) (oi := { dst := some 97, op := Op.move (Operand.tmp 11), type := 3, pos := "law.go:170", after := #[], guard := none }) (v := .int .i64 (i : Int)) rfl (by kernel_rfl) (by kernel_rfl) (by kernel_rfl) (fun _ _ _ h => h) (Or.inl ⟨by kernel_rfl, by (intro w hSw; (try dsimp only at hSw); go_simp)⟩) hHeld ?_
        simp only [Act.put, List.setIfInBounds_toArray, List.set_cons_zero, List.set_cons_succ]
        refine wpAnyH_take (i := 2) (oi := { dst := some 98, op := Op.indexAddr 22 (Operand.tmp 96) (Operand.tmp 97), type := 0, pos := "law.go:170", after := #[{ on := 0, ground := Ground.data }, { on := 1, ground := Ground.data }], guard := none }) (v := .pointer (some ⟨Nb, i, none⟩)) rfl (by kernel_rfl) (by kernel_rfl) (by kernel_rfl) (fun _ _ _ h => h) (Or.inl ⟨by kernel_rfl, by (intro w hSw; (try dsimp only at hSw); go_simp)⟩) hHeld ?_
        simp only [Act.put, List.setIfInBounds_toArray, List.set_cons_zero, List.set_cons_succ]
        refine wpAnyH_take (i := 3) (oi := { dst := some 99, op := Op.load 34 (Operand.tmp 98), type := 34, pos := "law.go:170", after := #[{ on := 2, ground := Ground.data }], guard := none }) (v := .int .u32 (v1 : Int)) rfl (by kernel_rfl) (by kernel_rfl) (by kernel_rfl) (fun _ _ _ h => h) (Or.inl ⟨by kernel_rfl, by (intro w hSw; (try dsimp only at hSw); go_simp)⟩) hHeld ?_
        simp only [Act.put, List.setIfInBounds_toArray, List.set_cons_zero, List.set_cons_succ]
        refine wpAnyH_take (i := 4) (oi := { dst := some 100, op := Op.move (Operand.tmp 7), type := 22, pos := "law.go:170", after := #[], guard := none }) (v := .slice (some ⟨Wb, 0, none⟩) 80 80) rfl (by kernel_rfl) (by kernel_rfl) (by kernel_rfl) (fun _ _ _ h => h) (Or.inl ⟨by kernel_rfl, by (intro w hSw; (try dsimp only at hSw); go_simp)⟩) hHeld ?_
        simp only [Act.put, List.setIfInBounds_toArray, List.set_cons_zero, List.set_cons_succ]
        refine wpAnyH_take (i := 5) (oi := { dst := some 101, op := Op.move (Operand.tmp 11), type := 3, pos := "law.go:170", after := #[], guard := none }) (v := .int .i64 (i : Int)) rfl (by kernel_rfl) (by kernel_rfl) (by kernel_rfl) (fun _ _ _ h => h) (Or.inl ⟨by kernel_rfl, by (intro w hSw; (try dsimp only at hSw); go_simp)⟩) hHeld ?_
        simp only [Act.put, List.setIfInBounds_toArray, List.set_cons_zero, List.set_cons_succ]
        refine wpAnyH_take (i := 6) (oi := { dst := some 102, op := Op.indexAddr 22 (Operand.tmp 100) (Operand.tmp 101), type := 0, pos := "law.go:170", after := #[{ on := 4, ground := Ground.data }, { on := 5, ground := Ground.data }], guard := none }) (v := .pointer (some ⟨Wb, i, none⟩)) rfl (by kernel_rfl) (by kernel_rfl) (by kernel_rfl) (fun _ _ _ h => h) (Or.inl ⟨by kernel_rfl, by (intro w hSw; (try dsimp only at hSw); go_simp)⟩) hHeld ?_
        simp only [Act.put, List.setIfInBounds_toArray, List.set_cons_zero, List.set_cons_succ]
        refine wpAnyH_take (i := 7) (oi := { dst := some 103, op := Op.load 34 (Operand.tmp 102), type := 34, pos := "law.go:170", after := #[{ on := 6, ground := Ground.data }], guard := none }) (v := .int .u32 (v1 : Int)) rfl (by kernel_rfl) (by kernel_rfl) (by kernel_rfl) (fun _ _ _ h => h) (Or.inl ⟨by kernel_rfl, by (intro w hSw; (try dsimp only at hSw); go_simp)⟩) hHeld ?_
        simp only [Act.put, List.setIfInBounds_toArray, List.set_cons_zero, List.set_cons_succ]
        refine wpAnyH_take (i := 8) (oi := { dst := some 104, op := Op.binOp BinOp.neq 34 (Operand.tmp 99) (Operand.tmp 103) 34, type := 4, pos := "law.go:170", after := #[{ on := 3, ground := Ground.data }, { on := 7, ground := Ground.data }], guard := none }) (v := .bool false) rfl (by kernel_rfl) (by kernel_rfl) (by kernel_rfl) (fun _ _ _ h => h) (Or.inl ⟨by kernel_rfl, by (intro w hSw; (try dsimp only at hSw); go_simp)⟩) hHeld ?_
        simp only [Act.put, List.setIfInBounds_toArray, List.set_cons_zero, List.set_cons_succ]
        refine wpAnyH_take (i := 9) (oi := { dst := some 105, op := Op.move (Operand.tmp 104), type := 4, pos := "law.go:170", after := #[{ on := 8, ground := Ground.data }], guard := none }) (v := .bool false) rfl (by kernel_rfl) (by kernel_rfl) (by kernel_rfl) (fun _ _ _ h => h) (Or.inl ⟨by kernel_rfl, by (intro w hSw; (try dsimp only at hSw); go_simp)⟩) hHeld ?_
        simp only [Act.put, List.setIfInBounds_toArray, List.set_cons_zero, List.set_cons_succ]
        refine wpAnyH_take (i := 10) (oi := { dst := some 106, op := Op.move (Operand.tmp 12), type := 4, pos := "law.go:170", after := #[{ on := 9, ground := Ground.guard }], guard := some (9, true) }) (v := undef) rfl (by kernel_rfl) (by kernel_rfl) (by kernel_rfl) (fun _ _ _ h => h) (Or.inr ⟨by kernel_rfl, rfl⟩) hHeld ?_
        simp only [Act.put, List.setIfInBounds_toArray, List.set_cons_zero, List.set_cons_succ]
        refine wpAnyH_take (i := 11) (oi := { dst := some 107, op := Op.unOp UnOp.not 4 (Operand.tmp 106), type := 4, pos := "law.go:170", after := #[{ on := 10, ground := Ground.data }, { on := 9, ground := Ground.guard }], guard := some (9, true) }) (v := undef) rfl (by kernel_rfl) (by kernel_rfl) (by kernel_rfl) (fun _ _ _ h => h) (Or.inr ⟨by kernel_rfl, rfl⟩) hHeld ?_
        simp only [Act.put, List.setIfInBounds_toArray, List.set_cons_zero, List.set_cons_succ]
        refine wpAnyH_take (i := 12) (oi := { dst := some 108, op := Op.move (Operand.tmp 107), type := 4, pos := "law.go:170", after := #[{ on := 11, ground := Ground.data }, { on := 9, ground := Ground.chain }, { on := 9, ground := Ground.guard }], guard := some (9, true) }) (v := undef) rfl (by kernel_rfl) (by kernel_rfl) (by kernel_rfl) (fun _ _ _ h => h) (Or.inr ⟨by kernel_rfl, rfl⟩) hHeld ?_
        simp only [Act.put, List.setIfInBounds_toArray, List.set_cons_zero, List.set_cons_succ]
        refine wpAnyH_take (i := 13) (oi := { dst := some 109, op := Op.fieldAddr 36 (Operand.tmp 3) 6, type := 0, pos := "law.go:170", after := #[{ on := 12, ground := Ground.guard }], guard := some (12, false) }) (v := undef) rfl (by kernel_rfl) (by kernel_rfl) (by kernel_rfl) (fun _ _ _ h => h) (Or.inr ⟨by kernel_rfl, rfl⟩) hHeld ?_
        simp only [Act.put, List.setIfInBounds_toArray, List.set_cons_zero, List.set_cons_succ]
        refine wpAnyH_take (i := 14) (oi := { dst := some 110, op := Op.load 4 (Operand.tmp 109), type := 4, pos := "law.go:170", after := #[{ on := 13, ground := Ground.data }, { on := 12, ground := Ground.guard }], guard := some (12, false) }) (v := undef) rfl (by kernel_rfl) (by kernel_rfl) (by kernel_rfl) (fun _ _ _ h => h) (Or.inr ⟨by kernel_rfl, rfl⟩) hHeld ?_
        simp only [Act.put, List.setIfInBounds_toArray, List.set_cons_zero, List.set_cons_succ]
        refine wpAnyH_take (i := 15) (oi := { dst := some 111, op := Op.pick (Operand.tmp 108) (Operand.const (Value.bool true)) (Operand.tmp 110), type := 4, pos := "law.go:170", after := #[{ on := 12, ground := Ground.data }, { on := 14, ground := Ground.data }, { on := 9, ground := Ground.guard }], guard := some (9, true) }) (v := undef) rfl (by kernel_rfl) (by kernel_rfl) (by kernel_rfl) (fun _ _ _ h => h) (Or.inr ⟨by kernel_rfl, rfl⟩) hHeld ?_
        simp only [Act.put, List.setIfInBounds_toArray, List.set_cons_zero, List.set_cons_succ]
        refine wpAnyH_take (i := 16) (oi := { dst := some 112, op := Op.pick (Operand.tmp 105) (Operand.tmp 111) (Operand.const (Value.bool false)), type := 4, pos := "law.go:170", after := #[{ on := 9, ground := Ground.data }, { on := 15, ground := Ground.data }], guard := none }) (v := .bool false) rfl (by kernel_rfl) (by kernel_rfl) (by kernel_rfl) (fun _ _ _ h => h) (Or.inl ⟨by kernel_rfl, by (intro w hSw; (try dsimp only at hSw); go_simp)⟩) hHeld ?_
        simp only [Act.put, List.setIfInBounds_toArray, List.set_cons_zero, List.set_cons_succ]
        refine wpAnyH_done (by kernel_rfl) ?_ _
        clear hHeld
        go_wp2
        go_roundw
        case rel => exact ⟨i + 1, by omega, by go_num, HK.out.drew⟩
        case measure => simp [intOf]; omega
      · obtain ⟨hnl, hmine⟩ := HWl.out i hi80 hch
        rw [hmbe.out] at hmine
        cases hmine
    · obtain rfl : i = 80 := by omega
      have HF : Hid (Keeps (fun _ => False) w wr) := (HX.out.2.2.1.trans H7.out.1 fun _ _ e => e).trans hk fun _ _ e => e
      clear hi hk hi80
      go_wp2
      go_ret
      exact ⟨rfl, HF.out⟩

set_option maxRecDepth 20000 in
set_option maxHeartbeats 4000000 in
theorem walls_2 (a : Option Addr) (cap : Nat) (ws : List UInt32) (o : Opn) (w : World) (hx : SegW w a ws) (hl : ws.length ≤ cap ∧ cap ≤ maxLen) (hok : o.Ok w) (hK : o.k = 2) :
    Calls Try.prog 5 #[.slice a ws.length cap, o.v] w fun e w' => e = .returned (.bool true) ∧ Keeps (fun _ => False) w w' := by
  obtain ⟨xs, hxs⟩ : ∃ xs, xs = bgL ws := ⟨_, rfl⟩
  have hxl : xs.length = 80 := by rw [hxs]; exact bgL_length ws
  obtain ⟨ys, hys⟩ : ∃ ys, ys = oneX o xs := ⟨_, rfl⟩
  have hyl : ys.length = 80 := by rw [hys, oneX_length]; exact hxl
  have hwl : ∀ i, i < 80 → ¬ wd ys i = wd xs i → o.nil = false ∧ mineB o i = true := fun i hi hne => by
    have h9 := walls_pure (o := o) (xs := xs) (i := i) (by rw [hK]; omega) (by omega) (by omega) (by
      rw [← hys, wd_get? (by omega), wd_get? (by omega)]
      intro e; exact hne (Option.some.inj e))
    exact h9
  have hmi : ∀ i : Nat, mineB o i = (amB i o.p (mM2 o.n) || o.ps.any (fun q => amB i q (mM3 o.n))) := fun i => by unfold mineB; rw [if_neg (by rw [hK]; omega), if_pos hK]
  have hone : ∀ w0 w b g rb rg, Duo w b g rb rg xs → Keeps (fun _ => False) w0 w → o.Ok w0 → w0.heap.size ≤ g → w0.heap.size ≤ rg → Calls Try.prog 11 #[.pointer (some ⟨b, 0, none⟩), .pointer (some ⟨rb, 0, none⟩), o.v] w (OneP w0 w b g rb rg ys) := fun w0 w b g rb rg q1 q2 q3 q4 q5 => by rw [hys]; exact one_any w0 b g rb rg xs o w q1 q2 q3 q4 q5
  obtain ⟨k, p, n, ma, mc, ms, pa, pc, ps, x, nl⟩ := o
  simp only at *
  subst hK
  obtain ⟨Lm, hLm⟩ : ∃ L, L = ms.length := ⟨_, rfl⟩
  obtain ⟨Lp, hLp⟩ : ∃ L, L = ps.length := ⟨_, rfl⟩
  obtain ⟨X, hX⟩ : ∃ X : Nat, X = x.toNat := ⟨_, rfl⟩
  unfold Opn.v
  simp only
  rw [← hLm, ← hLp, ← hX]
  obtain ⟨W0, hW0⟩ : ∃ W0, W0 = w.alloc (.cells #[.int .i64 2, .int .i64 p, .int .i64 n, .slice ma Lm mc, .slice pa Lp pc, .int .u32 (X : Int), .bool nl] 36) := ⟨_, rfl⟩
  have hB0 : Blk W0 w.heap.size [.int .i64 2, .int .i64 p, .int .i64 n, .slice ma Lm mc, .slice pa Lp pc, .int .u32 (X : Int), .bool nl] 36 := by rw [hW0]; exact Blk.new w _ 36
  have hk0 : Keeps (fun _ => False) w W0 := by rw [hW0]; exact (Keeps.refl _ w).alloc _
  obtain ⟨O, hO⟩ : ∃ O, O = w.heap.size := ⟨_, rfl⟩
  rw [← hO] at hB0
  have hok0 := hok.grown hk0
  have HBg : Hid (∀ W, Keeps (fun _ => False) W0 W → Calls Try.prog 9 #[.slice a ws.length cap] W fun e w' => ∃ G, W.heap.size ≤ G ∧ e = .returned (.slice (some ⟨G, 0, none⟩) 80 80) ∧ Blk w' G (wvs xs) 34 ∧ Keeps (fun _ => False) W w') := fun W kk => by rw [hxs]; exact begun_any a cap ws W ((hx.kept hk0 (fun _ _ e => e)).kept kk (fun _ _ e => e)) hl
  have HO : Hid (∀ W G, Blk W G (wvs xs) 34 → Calls Try.prog 8 #[.slice (some ⟨G, 0, none⟩) 80 80] W fun e w' => ∃ b', W.heap.size < b' ∧ e = .returned (.tuple #[.pointer (some ⟨b', 0, none⟩), .int .i64 0]) ∧ Mm w' b' W.heap.size xs ∧ Keeps (fun _ => False) W w') := fun W G hG => by
    have := of_in (some ⟨G, 0, none⟩) 80 5 xs W (segW_of_blk hG) (by rw [hxl]) (by omega) (by omega)
    rw [hxl] at this
    exact this
  obtain ⟨L, hL⟩ : ∃ L, L = ws.length := ⟨_, rfl⟩
  rw [← hL] at HBg ⊢
  have HR : Hid (∀ W G, Blk W G (wvs xs) 34 → Calls Try.prog 10 #[.slice (some ⟨G, 0, none⟩) 80 80] W fun e w' => e = .returned (.tuple #[.pointer (some ⟨W.heap.size, 0, none⟩), .int .i64 0]) ∧ Rm w' W.heap.size (W.heap.size + 1) xs ∧ Keeps (fun _ => False) W w') := fun W G hG => by
    have := rof_in (some ⟨G, 0, none⟩) 80 5 xs W (segW_of_blk hG) (by rw [hxl]) (by omega) (by omega)
    rw [hxl] at this
    exact this
  have HWs : Hid (∀ W b g zs, Mm W b g zs → zs.length = 80 → Calls Try.prog 12 #[.pointer (some ⟨b, 0, none⟩)] W fun e w' => e = .returned (.slice (some ⟨W.heap.size, 0, none⟩) 80 80) ∧ Blk w' W.heap.size (wvs zs) 34 ∧ Keeps (fun _ => False) W w') := fun W b g zs hM h8 => by
    have := words_any b g zs W hM
    rw [h8] at this
    exact this
  unfold Opn.v at hone
  simp only at hone
  rw [← hLm, ← hLp, ← hX] at hone
  have HOne : Hid (∀ w b g rb rg, Duo w b g rb rg xs → Keeps (fun _ => False) W0 w → W0.heap.size ≤ g → W0.heap.size ≤ rg → Calls Try.prog 11 #[.pointer (some ⟨b, 0, none⟩), .pointer (some ⟨rb, 0, none⟩), .agg #[.int .i64 2, .int .i64 p, .int .i64 n, .slice ma Lm mc, .slice pa Lp pc, .int .u32 (X : Int), .bool nl]] w (OneP W0 w b g rb rg ys)) := fun w b g rb rg q1 q2 q4 q5 => hone W0 w b g rb rg q1 q2 hok0 q4 q5
  have HX : Hid (W0 = w.alloc (.cells #[.int .i64 2, .int .i64 p, .int .i64 n, .slice ma Lm mc, .slice pa Lp pc, .int .u32 (X : Int), .bool nl] 36) ∧ O = w.heap.size ∧ Keeps (fun _ => False) w W0 ∧ Blk W0 O [.int .i64 2, .int .i64 p, .int .i64 n, .slice ma Lm mc, .slice pa Lp pc, .int .u32 (X : Int), .bool nl] 36 ∧ xs.length = 80 ∧ ys.length = 80 ∧ SegI W0 pa ps ∧ Lp = ps.length ∧ (Lp ≤ pc ∧ pc ≤ maxLen)) := ⟨hW0, hO, hk0, hB0, hxl, hyl, hok0.ps, hLp, by rw [hLp]; exact hok0.pl⟩
  have HWl : Hid (∀ i, i < 80 → ¬ wd ys i = wd xs i → nl = false ∧ mineB ⟨2, p, n, ma, mc, ms, pa, pc, ps, x, nl⟩ i = true) := hwl
  have HMi : Hid (∀ i : Nat, mineB ⟨2, p, n, ma, mc, ms, pa, pc, ps, x, nl⟩ i = (amB i p (mM2 n) || ps.any (fun q => amB i q (mM3 n)))) := hmi
  have b9 : (Lp : Int) ≤ 9223372036854775807 := by have h9 : ps.length ≤ pc ∧ pc ≤ maxLen := hok0.pl; unfold maxLen at h9; omega
  clear hx hl hok hxs hxl hLm hLp hX hW0 hB0 hk0 hO hok0 hL hone hys hyl hwl hmi
  go_enter Try.func5, Try.ntmps5
  go_wp2_with fail
  rw [← HX.out.1, ← HX.out.2.1]
  refine (HBg.out W0 (Keeps.refl _ _)).mono ?_
  rintro e w1 ⟨G1, hG1, rfl, hB1, hk1⟩
  have HO1 : Hid (Calls _ _ _ _ _) := HO.out w1 G1 hB1
  have H1 : Hid (Keeps (fun _ => False) W0 w1) := hk1
  clear hG1 hB1 hk1 HO
  go_wp2_with fail
  refine HO1.out.mono ?_
  rintro e w2 ⟨b, hb, rfl, hM, hk2⟩
  obtain ⟨g, hg⟩ : ∃ g, g = w1.heap.size := ⟨_, rfl⟩
  rw [← hg] at hM hb
  have hkx : Keeps (fun _ => False) W0 w2 := H1.out.trans hk2 fun _ _ e => e
  have d0 := (HX.out.2.2.2.1.kept hkx fun e => e).cell (i := 0) rfl
  have H2 : Hid (Mm w2 b g xs ∧ Keeps (fun _ => False) W0 w2 ∧ W0.heap.size ≤ g) := ⟨hM, hkx, by have := H1.out.size; omega⟩
  have HW2 : Hid (Calls _ _ _ _ _) := HWs.out w2 b g xs hM HX.out.2.2.2.2.1
  clear hM hk2 hb hg hkx HO1 H1
  go_wp2_with fail
  refine HW2.out.mono ?_
  rintro e w3 ⟨rfl, hB3, hk3⟩
  obtain ⟨Wb, hWb⟩ : ∃ g, g = w2.heap.size := ⟨_, rfl⟩
  rw [← hWb] at hB3 ⊢
  have hkx : Keeps (fun _ => False) W0 w3 := H2.out.2.1.trans hk3 fun _ _ e => e
  have H3 : Hid (Mm w3 b g xs ∧ Keeps (fun _ => False) W0 w3 ∧ Blk w3 Wb (wvs xs) 34 ∧ Wb ≠ g) := ⟨H2.out.1.kept hk3 (fun e => e) (fun e => e), hkx, hB3, by have := H2.out.1.row.lt; omega⟩
  have HB3 : Hid (Calls _ _ _ _ _) := HBg.out w3 hkx
  clear hB3 hk3 hkx hWb HW2 d0 HBg
  go_wp2_with fail
  refine HB3.out.mono ?_
  rintro e w4 ⟨G4, hG4, rfl, hB4, hk4⟩
  have HR4 : Hid (Calls _ _ _ _ _) := HR.out w4 G4 hB4
  have H4 : Hid (Mm w4 b g xs ∧ Keeps (fun _ => False) W0 w4 ∧ Blk w4 Wb (wvs xs) 34) := ⟨H3.out.1.kept hk4 (fun e => e) (fun e => e), H3.out.2.1.trans hk4 (fun _ _ e => e), H3.out.2.2.1.kept hk4 fun e => e⟩
  clear hG4 hB4 hk4 HB3 HR
  go_wp2_with fail
  refine HR4.out.mono ?_
  rintro e w5 ⟨rfl, hR5, hk5⟩
  obtain ⟨rb, hrb⟩ : ∃ rb, rb = w4.heap.size := ⟨_, rfl⟩
  rw [← hrb] at hR5 ⊢
  obtain ⟨rg, hrg⟩ : ∃ rg, rg = rb + 1 := ⟨_, rfl⟩
  rw [← hrg] at hR5
  have hkx : Keeps (fun _ => False) W0 w5 := H4.out.2.1.trans hk5 fun _ _ e => e
  have q1 := H4.out.1.blk.lt
  have q2' := H4.out.1.row.lt
  have q3 := H4.out.2.1.size
  have q5 := H4.out.2.2.lt
  have HOn : Hid (Calls _ _ _ _ _) := HOne.out w5 b g rb rg ⟨H4.out.1.kept hk5 (fun e => e) (fun e => e), hR5, by omega, by omega, by omega⟩ hkx H2.out.2.2 (by omega)
  have hOb := HX.out.2.2.2.1.kept hkx fun e => e
  have c0 := hOb.cell (i := 0) rfl
  have c1 := hOb.cell (i := 1) rfl
  have c2 := hOb.cell (i := 2) rfl
  have c3 := hOb.cell (i := 3) rfl
  have c4 := hOb.cell (i := 4) rfl
  have c5 := hOb.cell (i := 5) rfl
  have c6 := hOb.cell (i := 6) rfl
  have H5 : Hid (Blk w5 Wb (wvs xs) 34 ∧ Wb ≠ g ∧ Wb ≠ rg) := ⟨H4.out.2.2.kept hk5 (fun e => e), H3.out.2.2.2, by omega⟩
  clear hR5 hk5 hrb hrg hkx q1 q2' q3 q5 hOb HR4 HOne
  go_wp2_with fail
  refine HOn.out.mono ?_
  rintro e w6 ⟨rfl, hD6, hk6, hkg⟩
  have HW6 : Hid (Calls _ _ _ _ _) := HWs.out w6 b g ys hD6.mm HX.out.2.2.2.2.2.1
  have H6 : Hid (Keeps (fun _ => False) W0 w6 ∧ Blk w6 Wb (wvs xs) 34) := ⟨hk6, H5.out.1.kept hkg fun e => by rcases e with e | e; exact H5.out.2.1 e; exact H5.out.2.2 e⟩
  clear hD6 hk6 hkg HOn c0 c1 c2 c3 c4 c5 c6
  go_wp2_with fail
  refine HW6.out.mono ?_
  rintro e w7 ⟨rfl, hB7, hk7⟩
  obtain ⟨Nb, hNb⟩ : ∃ g, g = w6.heap.size := ⟨_, rfl⟩
  rw [← hNb] at hB7 ⊢
  have H7 : Hid (Keeps (fun _ => False) W0 w7 ∧ Blk w7 Wb (wvs xs) 34 ∧ Blk w7 Nb (wvs ys) 34) := ⟨H6.out.1.trans hk7 (fun _ _ e => e), H6.out.2.kept hk7 (fun e => e), hB7⟩
  clear hB7 hk7 hNb HW6 H6 HWs H5 H4 H3 H2
  go_wp2
  go_loopw [51] (fun v wr => ∃ i : Nat, i ≤ 80 ∧ v = .int .i64 (i : Int) ∧ Keeps (fun _ => False) w7 wr) (fun v _ => 80 - (intOf v).toNat)
  case atStart => exact ⟨0, by omega, rfl, Keeps.refl _ _⟩
  case round =>
    obtain ⟨i, hi, rfl, hk⟩ := hrel
    by_cases hi80 : i < 80
    · have hi80' : (i : Int) < 80 := by omega
      have HFx : Hid (∀ W, Keeps (fun _ => False) wr W → W.cell? ⟨O, 0, none⟩ = some (.int .i64 2) ∧ W.cell? ⟨O, 1, none⟩ = some (.int .i64 p) ∧ W.cell? ⟨O, 2, none⟩ = some (.int .i64 n) ∧ W.cell? ⟨O, 4, none⟩ = some (.slice pa Lp pc) ∧ W.cell? ⟨O, 6, none⟩ = some (.bool nl) ∧ W.cell? ⟨Nb, i, none⟩ = some (.int .u32 ((wd ys i).toNat : Int)) ∧ W.cell? ⟨Wb, i, none⟩ = some (.int .u32 ((wd xs i).toNat : Int))) := fun W kk => by
        have k2 := hk.trans kk fun _ _ e => e
        have hB := HX.out.2.2.2.1.kept (H7.out.1.trans k2 fun _ _ e => e) fun e => e
        exact ⟨hB.cell rfl, hB.cell rfl, hB.cell rfl, hB.cell rfl, hB.cell rfl, (H7.out.2.2.kept k2 fun e => e).cell (wvs_wd (by have := HX.out.2.2.2.2.2.1; omega)), (H7.out.2.1.kept k2 fun e => e).cell (wvs_wd (by have := HX.out.2.2.2.2.1; omega))⟩
      have HK0 : Hid (Keeps (fun _ => False) w7 wr) := hk
      have hkx := Keeps.refl (fun _ => False) wr
      obtain ⟨d0, dp, dn, d4, d6, d1, d2⟩ := HFx.out wr hkx
      obtain ⟨M2, hM2⟩ : ∃ M, M = mM2 n := ⟨_, rfl⟩
      have eM2 : IntKind.i64.wrap (2 + n) = M2 := hM2.symm
      obtain ⟨M3, hM3⟩ : ∃ M, M = mM3 n := ⟨_, rfl⟩
      have eM3 : IntKind.i64.wrap (3 + n) = M3 := hM3.symm
      have HAm : Hid (∀ f m W, Calls Try.prog 20 #[.int .i64 (i : Int), .int .i64 f, .int .i64 m] W fun e w' => e = .returned (.bool (amB i f m)) ∧ w' = W) := fun f m W => among_any i f m W
      have HA1 := HAm.out p M2 wr
      obtain ⟨ma0, hma0⟩ : ∃ mb, mb = amB i p M2 := ⟨_, rfl⟩
      rw [← hma0] at HA1
      have HA1 : Hid (Calls _ _ _ _ _) := HA1
      have HEq : Hid (ma0 = amB i p M2 ∧ M2 = mM2 n ∧ M3 = mM3 n) := ⟨hma0, hM2, hM3⟩
      clear hi hk hkx hM2 hM3 hma0
      obtain ⟨wo, hwo⟩ : ∃ wo, wo = wr := ⟨_, rfl⟩
      subst hwo
      go_wp2_with fail
      refine HA1.out.mono ?_
      rintro e w8 ⟨rfl, hw8⟩
      obtain rfl := hw8.symm
      clear hw8 HA1
      go_wp2
      go_loopw [12, 79] (fun mv v wx => ∃ j : Nat, j ≤ Lp ∧ v = .int .i64 (j : Int) ∧ mv = .bool (ma0 || (ps.take j).any (fun q => amB i q M3)) ∧ Keeps (fun _ => False) wo wx) (fun _ v _ => Lp - (intOf v).toNat)
      case atStart => exact ⟨0, by omega, rfl, by simp, Keeps.refl _ _⟩
      case round =>
        obtain ⟨j, hj, rfl, rfl, hkx⟩ := hrel
        clear d0 dp dn d4 d6 d1 d2
        obtain ⟨d0, dp, dn, d4, d6, d1, d2⟩ := HFx.out wr hkx
        by_cases hjl : j < Lp
        · have hjl' : (j : Int) < Lp := by omega
          have hjp : j < ps.length := by have := HX.out.2.2.2.2.2.2.2.1; omega
          have hkW : Keeps (fun _ => False) W0 wr := (H7.out.1.trans HK0.out fun _ _ e => e).trans hkx fun _ _ e => e
          rcases HX.out.2.2.2.2.2.2.1.kept hkW (fun _ _ e => e) with h0 | ⟨gp, op, rfl, hcp⟩
          · rw [h0] at hjp; simp at hjp
          have cq := hcp j hjp
          obtain ⟨q, hqq⟩ : ∃ q, q = ps[j]'hjp := ⟨_, rfl⟩
          rw [← hqq] at cq
          have hgj : ps[j]? = some q := by rw [hqq]; exact List.getElem?_eq_getElem hjp
          have hsn : (ma0 || (ps.take (j + 1)).any (fun q => amB i q M3)) = ((ma0 || (ps.take j).any (fun q => amB i q M3)) || amB i q M3) := by
            rw [List.take_add_one, hgj, List.any_append, Bool.or_assoc]
            simp
          obtain ⟨mb, hmb⟩ : ∃ mb, mb = (ma0 || (ps.take j).any (fun q => amB i q M3)) := ⟨_, rfl⟩
          rw [← hmb] at hsn ⊢
          have HSn : Hid ((ma0 || (ps.take (j + 1)).any (fun q => amB i q M3)) = (mb || amB i q M3)) := hsn
          have HKx : Hid (Keeps (fun _ => False) wo wr) := hkx
          have hSx : wr.cell? ⟨O, 4, none⟩ = some (.slice (some ⟨gp, op, none⟩) Lp pc) ∧ wr.cell? ⟨O, 2, none⟩ = some (.int .i64 n) ∧ wr.cell? ⟨gp, op + j, none⟩ = some (.int .i64 q) := ⟨d4, dn, cq⟩
          clear hj hkx hjp hkW hcp hqq hgj hsn hmb
          cases mb
          · have HA2 : Hid (∀ W, Calls Try.prog 20 #[.int .i64 (i : Int), .int .i64 q, .int .i64 M3] W fun e w' => e = .returned (.bool (amB i q M3)) ∧ w' = W) := fun W => HAm.out q M3 W
            obtain ⟨m9, hm9⟩ : ∃ m, m = amB i q M3 := ⟨_, rfl⟩
            rw [← hm9] at HA2 HSn
            clear hm9
            go_wp2
            go_region_held3 (fun w' => w'.cell? ⟨O, 4, none⟩ = some (.slice (some ⟨gp, op, none⟩) Lp pc) ∧ w'.cell? ⟨O, 2, none⟩ = some (.int .i64 n) ∧ w'.cell? ⟨gp, op + j, none⟩ = some (.int .i64 q)) (first | exact hSx | go_keep)
              (first | (go_at_call 20; refine (HA2.out _).mono ?_; rintro e w9 ⟨rfl, hw9⟩; obtain rfl := hw9.symm; clear hw9))
            go_wp2
            go_roundw
            case rel => exact ⟨j + 1, by omega, by go_num, by rw [HSn.out]; simp, HKx.out.drewN _⟩
            case measure => simp [intOf]; omega
          · go_wp2
            refine wp_region_held_drew (S := (fun w' => True)) Try.mixd trivial (fun hHeld => ?_)
            simp only [List.size_toArray, List.length_cons, List.length_nil, Nat.reduceAdd, Array.replicate_succ, Array.replicate_zero, List.push_toArray, List.append_toArray, List.nil_append, List.cons_append]
            refine wpAnyH_take (i := 0) (oi := { dst := some 82, op := Op.move (Operand.tmp 12), type := 4, pos := "law.go:167", after := #[], guard := none }) (v := .bool true) rfl (by kernel_rfl) (by kernel_rfl) (by kernel_rfl) (fun _ _ _ h => h) (Or.inl ⟨by kernel_rfl, by (intro w hSw; (try dsimp only at hSw); go_simp)⟩) hHeld ?_
            simp only [Act.put, List.setIfInBounds_toArray, List.set_cons_zero, List.set_cons_succ]
            refine wpAnyH_take (i := 1) (oi := { dst := some 83, op := Op.move (Operand.tmp 82), type := 4, pos := "law.go:167", after := #[{ on := 0, ground := Ground.data }], guard := none }) (v := .bool true) rfl (by kernel_rfl) (by kernel_rfl) (by kernel_rfl) (fun _ _ _ h => h) (Or.inl ⟨by kernel_rfl, by (intro w hSw; (try dsimp only at hSw); go_simp)⟩) hHeld ?_
            simp only [Act.put, List.setIfInBounds_toArray, List.set_cons_zero, List.set_cons_succ]
            refine wpAnyH_take (i := 2) (oi := { dst := some 84, op := Op.move (Operand.tmp 11), type := 3, pos := "law.go:167", after := #[{ on := 1, ground := Ground.guard }], guard := some (1, false) }) (v := undef) rfl (by kernel_rfl) (by kernel_rfl) (by kernel_rfl) (fun _ _ _ h => h) (Or.inr ⟨by kernel_rfl, rfl⟩) hHeld ?_
            simp only [Act.put, List.setIfInBounds_toArray, List.set_cons_zero, List.set_cons_succ]
            refine wpAnyH_take (i := 3) (oi := { dst := some 85, op := Op.fieldAddr 36 (Operand.tmp 3) 4, type := 0, pos := "law.go:167", after := #[{ on := 1, ground := Ground.guard }], guard := some (1, false) }) (v := undef) rfl (by kernel_rfl) (by kernel_rfl) (by kernel_rfl) (fun _ _ _ h => h) (Or.inr ⟨by kernel_rfl, rfl⟩) hHeld ?_
            simp only [Act.put, List.setIfInBounds_toArray, List.set_cons_zero, List.set_cons_succ]
            refine wpAnyH_take (i := 4) (oi := { dst := some 86, op := Op.load 33 (Operand.tmp 85), type := 33, pos := "law.go:167", after := #[{ on := 3, ground := Ground.data }, { on := 1, ground := Ground.guard }], guard := some (1, false) }) (v := undef) rfl (by kernel_rfl) (by kernel_rfl) (by kernel_rfl) (fun _ _ _ h => h) (Or.inr ⟨by kernel_rfl, rfl⟩) hHeld ?_
            simp only [Act.put, List.setIfInBounds_toArray, List.set_cons_zero, List.set_cons_succ]
            refine wpAnyH_take (i := 5) (oi := { dst := some 87, op := Op.move (Operand.tmp 13), type := 3, pos := "law.go:167", after := #[{ on := 1, ground := Ground.guard }], guard := some (1, false) }) (v := undef) rfl (by kernel_rfl) (by kernel_rfl) (by kernel_rfl) (fun _ _ _ h => h) (Or.inr ⟨by kernel_rfl, rfl⟩) hHeld ?_
            simp only [Act.put, List.setIfInBounds_toArray, List.set_cons_zero, List.set_cons_succ]
            refine wpAnyH_take (i := 6) (oi := { dst := some 88, op := Op.indexAddr 33 (Operand.tmp 86) (Operand.tmp 87), type := 0, pos := "law.go:167", after := #[{ on := 4, ground := Ground.data }, { on := 5, ground := Ground.data }, { on := 1, ground := Ground.guard }], guard := some (1, false) }) (v := undef) rfl (by kernel_rfl) (by kernel_rfl) (by kernel_rfl) (fun _ _ _ h => h) (Or.inr ⟨by kernel_rfl, rfl⟩) hHeld ?_
            simp only [Act.put, List.setIfInBounds_toArray, List.set_cons_zero, List.set_cons_succ]
            refine wpAnyH_take (i := 7) (oi := { dst := some 89, op := Op.load 3 (Operand.tmp 88), type := 3, pos := "law.go:167", after := #[{ on := 6, ground := Ground.data }, { on := 1, ground := Ground.guard }], guard := some (1, false) }) (v := undef) rfl (by kernel_rfl) (by kernel_rfl) (by kernel_rfl) (fun _ _ _ h => h) (Or.inr ⟨by kernel_rfl, rfl⟩) hHeld ?_
            simp only [Act.put, List.setIfInBounds_toArray, List.set_cons_zero, List.set_cons_succ]
            refine wpAnyH_take (i := 8) (oi := { dst := some 90, op := Op.fieldAddr 36 (Operand.tmp 3) 2, type := 0, pos := "law.go:167", after := #[{ on := 1, ground := Ground.guard }], guard := some (1, false) }) (v := undef) rfl (by kernel_rfl) (by kernel_rfl) (by kernel_rfl) (fun _ _ _ h => h) (Or.inr ⟨by kernel_rfl, rfl⟩) hHeld ?_
            simp only [Act.put, List.setIfInBounds_toArray, List.set_cons_zero, List.set_cons_succ]
            refine wpAnyH_take (i := 9) (oi := { dst := some 91, op := Op.load 3 (Operand.tmp 90), type := 3, pos := "law.go:167", after := #[{ on := 8, ground := Ground.data }, { on := 1, ground := Ground.guard }], guard := some (1, false) }) (v := undef) rfl (by kernel_rfl) (by kernel_rfl) (by kernel_rfl) (fun _ _ _ h => h) (Or.inr ⟨by kernel_rfl, rfl⟩) hHeld ?_
            simp only [Act.put, List.setIfInBounds_toArray, List.set_cons_zero, List.set_cons_succ]
            refine wpAnyH_take (i := 10) (oi := { dst := some 92, op := Op.binOp BinOp.add 3 (Operand.const (Value.int IntKind.i64 3)) (Operand.tmp 91) 3, type := 3, pos := "law.go:167", after := #[{ on := 9, ground := Ground.data }, { on := 1, ground := Ground.guard }], guard := some (1, false) }) (v := undef) rfl (by kernel_rfl) (by kernel_rfl) (by kernel_rfl) (fun _ _ _ h => h) (Or.inr ⟨by kernel_rfl, rfl⟩) hHeld ?_
            simp only [Act.put, List.setIfInBounds_toArray, List.set_cons_zero, List.set_cons_succ]
            refine wpAnyH_take (i := 11) (oi := { dst := some 93, op := Op.call { callee := Callee.value (Operand.func 20), args := #[Operand.tmp 84, Operand.tmp 89, Operand.tmp 92], argTypes := #[3, 3, 3] }, type := 4, pos := "law.go:167", after := #[{ on := 2, ground := Ground.data }, { on := 7, ground := Ground.data }, { on := 10, ground := Ground.data }, { on := 1, ground := Ground.chain }, { on := 1, ground := Ground.guard }], guard := some (1, false) }) (v := undef) rfl (by kernel_rfl) (by kernel_rfl) (by kernel_rfl) (fun _ _ _ h => h) (Or.inr ⟨by kernel_rfl, rfl⟩) hHeld ?_
            simp only [Act.put, List.setIfInBounds_toArray, List.set_cons_zero, List.set_cons_succ]
            refine wpAnyH_take (i := 12) (oi := { dst := some 94, op := Op.pick (Operand.tmp 83) (Operand.const (Value.bool true)) (Operand.tmp 93), type := 4, pos := "law.go:167", after := #[{ on := 1, ground := Ground.data }, { on := 11, ground := Ground.data }], guard := none }) (v := .bool true) rfl (by kernel_rfl) (by kernel_rfl) (by kernel_rfl) (fun _ _ _ h => h) (Or.inl ⟨by kernel_rfl, by (intro w hSw; (try dsimp only at hSw); go_simp)⟩) hHeld ?_
            simp only [Act.put, List.setIfInBounds_toArray, List.set_cons_zero, List.set_cons_succ]
            refine wpAnyH_take (i := 13) (oi := { dst := some 12, op := Op.assign (Operand.tmp 94), type := 4, pos := "law.go:167", after := #[{ on := 12, ground := Ground.data }, { on := 11, ground := Ground.chain }, { on := 0, ground := Ground.phase }, { on := 1, ground := Ground.phase }, { on := 2, ground := Ground.phase }, { on := 3, ground := Ground.phase }, { on := 4, ground := Ground.phase }, { on := 5, ground := Ground.phase }, { on := 6, ground := Ground.phase }, { on := 7, ground := Ground.phase }, { on := 8, ground := Ground.phase }, { on := 9, ground := Ground.phase }, { on := 10, ground := Ground.phase }, { on := 11, ground := Ground.phase }, { on := 12, ground := Ground.phase }], guard := none }) (v := .bool true) rfl (by kernel_rfl) (by kernel_rfl) (by kernel_rfl) (fun _ _ _ h => h) (Or.inl ⟨by kernel_rfl, by (intro w hSw; (try dsimp only at hSw); go_simp)⟩) hHeld ?_
            simp only [Act.put, List.setIfInBounds_toArray, List.set_cons_zero, List.set_cons_succ]
            refine wpAnyH_done (by kernel_rfl) ?_ _
            clear hHeld
            go_wp2
            go_roundw
            case rel => exact ⟨j + 1, by omega, by go_num, by rw [HSn.out]; simp, HKx.out.drew⟩
            case measure => simp [intOf]; omega
        · obtain rfl : j = Lp := by omega
          have etk : ps.take j = ps := List.take_of_length_le (by have := HX.out.2.2.2.2.2.2.2.1; omega)
          rw [etk]
          obtain ⟨mb, hmb⟩ : ∃ mb, mb = (ma0 || ps.any (fun q => amB i q M3)) := ⟨_, rfl⟩
          have hmbe : Hid (mineB ⟨2, p, n, ma, mc, ms, pa, pc, ps, x, nl⟩ i = mb) := by show mineB _ i = mb; rw [HMi.out, hmb, HEq.out.1, HEq.out.2.1, HEq.out.2.2]
          rw [← hmb]
          have HK : Hid (Keeps (fun _ => False) w7 wr) := HK0.out.trans hkx fun _ _ e => e
          clear hj hkx hjl etk hmb
          by_cases hch : wd ys i = wd xs i
          · rw [hch] at d1
            obtain ⟨v1, hv1⟩ : ∃ v : Nat, v = (wd xs i).toNat := ⟨_, rfl⟩
            rw [← hv1] at d1 d2
            clear hch hv1
            go_wp2
            refine wp_region_held_drew (S := (fun w' => w'.cell? ⟨Nb, i, none⟩ = some (.int .u32 (v1 : Int)) ∧ w'.cell? ⟨Wb, i, none⟩ = some (.int .u32 (v1 : Int)))) Try.mixd ⟨d1, d2⟩ (fun hHeld => ?_)
            simp only [List.size_toArray, List.length_cons, List.length_nil, Nat.reduceAdd, Array.replicate_succ, Array.replicate_zero, List.push_toArray, List.append_toArray, List.nil_append, List.cons_append]
            refine wpAnyH_take (i := 0) (oi := { dst := some 96, op := Op.move (Operand.tmp 10), type := 22, pos := "law.go:170", after := #[], guard := none }) (v := .slice (some ⟨Nb, 0, none⟩) 80 80) rfl (by kernel_rfl) (by kernel_rfl) (by kernel_rfl) (fun _ _ _ h => h) (Or.inl ⟨by kernel_rfl, by (intro w hSw; (try dsimp only at hSw); go_simp)⟩) hHeld ?_
            simp only [Act.put, List.setIfInBounds_toArray, List.set_cons_zero, List.set_cons_succ]
            refine wpAnyH_take (i := 1) (oi := { dst := some 97, op := Op.move (Operand.tmp 11), type := 3, pos := "law.go:170", after := #[], guard := none }) (v := .int .i64 (i : Int)) rfl (by kernel_rfl) (by kernel_rfl) (by kernel_rfl) (fun _ _ _ h => h) (Or.inl ⟨by kernel_rfl, by (intro w hSw; (try dsimp only at hSw); go_simp)⟩) hHeld ?_
            simp only [Act.put, List.setIfInBounds_toArray, List.set_cons_zero, List.set_cons_succ]
            refine wpAnyH_take (i := 2) (oi := { dst := some 98, op := Op.indexAddr 22 (Operand.tmp 96) (Operand.tmp 97), type := 0, pos := "law.go:170", after := #[{ on := 0, ground := Ground.data }, { on := 1, ground := Ground.data }], guard := none }) (v := .pointer (some ⟨Nb, i, none⟩)) rfl (by kernel_rfl) (by kernel_rfl) (by kernel_rfl) (fun _ _ _ h => h) (Or.inl ⟨by kernel_rfl, by (intro w hSw; (try dsimp only at hSw); go_simp)⟩) hHeld ?_
            simp only [Act.put, List.setIfInBounds_toArray, List.set_cons_zero, List.set_cons_succ]
            refine wpAnyH_take (i := 3) (oi := { dst := some 99, op := Op.load 34 (Operand.tmp 98), type := 34, pos := "law.go:170", after := #[{ on := 2, ground := Ground.data }], guard := none }) (v := .int .u32 (v1 : Int)) rfl (by kernel_rfl) (by kernel_rfl) (by kernel_rfl) (fun _ _ _ h => h) (Or.inl ⟨by kernel_rfl, by (intro w hSw; (try dsimp only at hSw); go_simp)⟩) hHeld ?_
            simp only [Act.put, List.setIfInBounds_toArray, List.set_cons_zero, List.set_cons_succ]
            refine wpAnyH_take (i := 4) (oi := { dst := some 100, op := Op.move (Operand.tmp 7), type := 22, pos := "law.go:170", after := #[], guard := none }) (v := .slice (some ⟨Wb, 0, none⟩) 80 80) rfl (by kernel_rfl) (by kernel_rfl) (by kernel_rfl) (fun _ _ _ h => h) (Or.inl ⟨by kernel_rfl, by (intro w hSw; (try dsimp only at hSw); go_simp)⟩) hHeld ?_
            simp only [Act.put, List.setIfInBounds_toArray, List.set_cons_zero, List.set_cons_succ]
            refine wpAnyH_take (i := 5) (oi := { dst := some 101, op := Op.move (Operand.tmp 11), type := 3, pos := "law.go:170", after := #[], guard := none }) (v := .int .i64 (i : Int)) rfl (by kernel_rfl) (by kernel_rfl) (by kernel_rfl) (fun _ _ _ h => h) (Or.inl ⟨by kernel_rfl, by (intro w hSw; (try dsimp only at hSw); go_simp)⟩) hHeld ?_
            simp only [Act.put, List.setIfInBounds_toArray, List.set_cons_zero, List.set_cons_succ]
            refine wpAnyH_take (i := 6) (oi := { dst := some 102, op := Op.indexAddr 22 (Operand.tmp 100) (Operand.tmp 101), type := 0, pos := "law.go:170", after := #[{ on := 4, ground := Ground.data }, { on := 5, ground := Ground.data }], guard := none }) (v := .pointer (some ⟨Wb, i, none⟩)) rfl (by kernel_rfl) (by kernel_rfl) (by kernel_rfl) (fun _ _ _ h => h) (Or.inl ⟨by kernel_rfl, by (intro w hSw; (try dsimp only at hSw); go_simp)⟩) hHeld ?_
            simp only [Act.put, List.setIfInBounds_toArray, List.set_cons_zero, List.set_cons_succ]
            refine wpAnyH_take (i := 7) (oi := { dst := some 103, op := Op.load 34 (Operand.tmp 102), type := 34, pos := "law.go:170", after := #[{ on := 6, ground := Ground.data }], guard := none }) (v := .int .u32 (v1 : Int)) rfl (by kernel_rfl) (by kernel_rfl) (by kernel_rfl) (fun _ _ _ h => h) (Or.inl ⟨by kernel_rfl, by (intro w hSw; (try dsimp only at hSw); go_simp)⟩) hHeld ?_
            simp only [Act.put, List.setIfInBounds_toArray, List.set_cons_zero, List.set_cons_succ]
            refine wpAnyH_take (i := 8) (oi := { dst := some 104, op := Op.binOp BinOp.neq 34 (Operand.tmp 99) (Operand.tmp 103) 34, type := 4, pos := "law.go:170", after := #[{ on := 3, ground := Ground.data }, { on := 7, ground := Ground.data }], guard := none }) (v := .bool false) rfl (by kernel_rfl) (by kernel_rfl) (by kernel_rfl) (fun _ _ _ h => h) (Or.inl ⟨by kernel_rfl, by (intro w hSw; (try dsimp only at hSw); go_simp)⟩) hHeld ?_
            simp only [Act.put, List.setIfInBounds_toArray, List.set_cons_zero, List.set_cons_succ]
            refine wpAnyH_take (i := 9) (oi := { dst := some 105, op := Op.move (Operand.tmp 104), type := 4, pos := "law.go:170", after := #[{ on := 8, ground := Ground.data }], guard := none }) (v := .bool false) rfl (by kernel_rfl) (by kernel_rfl) (by kernel_rfl) (fun _ _ _ h => h) (Or.inl ⟨by kernel_rfl, by (intro w hSw; (try dsimp only at hSw); go_simp)⟩) hHeld ?_
            simp only [Act.put, List.setIfInBounds_toArray, List.set_cons_zero, List.set_cons_succ]
            refine wpAnyH_take (i := 10) (oi := { dst := some 106, op := Op.move (Operand.tmp 12), type := 4, pos := "law.go:170", after := #[{ on := 9, ground := Ground.guard }], guard := some (9, true) }) (v := undef) rfl (by kernel_rfl) (by kernel_rfl) (by kernel_rfl) (fun _ _ _ h => h) (Or.inr ⟨by kernel_rfl, rfl⟩) hHeld ?_
            simp only [Act.put, List.setIfInBounds_toArray, List.set_cons_zero, List.set_cons_succ]
            refine wpAnyH_take (i := 11) (oi := { dst := some 107, op := Op.unOp UnOp.not 4 (Operand.tmp 106), type := 4, pos := "law.go:170", after := #[{ on := 10, ground := Ground.data }, { on := 9, ground := Ground.guard }], guard := some (9, true) }) (v := undef) rfl (by kernel_rfl) (by kernel_rfl) (by kernel_rfl) (fun _ _ _ h => h) (Or.inr ⟨by kernel_rfl, rfl⟩) hHeld ?_
            simp only [Act.put, List.setIfInBounds_toArray, List.set_cons_zero, List.set_cons_succ]
            refine wpAnyH_take (i := 12) (oi := { dst := some 108, op := Op.move (Operand.tmp 107), type := 4, pos := "law.go:170", after := #[{ on := 11, ground := Ground.data }, { on := 9, ground := Ground.chain }, { on := 9, ground := Ground.guard }], guard := some (9, true) }) (v := undef) rfl (by kernel_rfl) (by kernel_rfl) (by kernel_rfl) (fun _ _ _ h => h) (Or.inr ⟨by kernel_rfl, rfl⟩) hHeld ?_
            simp only [Act.put, List.setIfInBounds_toArray, List.set_cons_zero, List.set_cons_succ]
            refine wpAnyH_take (i := 13) (oi := { dst := some 109, op := Op.fieldAddr 36 (Operand.tmp 3) 6, type := 0, pos := "law.go:170", after := #[{ on := 12, ground := Ground.guard }], guard := some (12, false) }) (v := undef) rfl (by kernel_rfl) (by kernel_rfl) (by kernel_rfl) (fun _ _ _ h => h) (Or.inr ⟨by kernel_rfl, rfl⟩) hHeld ?_
            simp only [Act.put, List.setIfInBounds_toArray, List.set_cons_zero, List.set_cons_succ]
            refine wpAnyH_take (i := 14) (oi := { dst := some 110, op := Op.load 4 (Operand.tmp 109), type := 4, pos := "law.go:170", after := #[{ on := 13, ground := Ground.data }, { on := 12, ground := Ground.guard }], guard := some (12, false) }) (v := undef) rfl (by kernel_rfl) (by kernel_rfl) (by kernel_rfl) (fun _ _ _ h => h) (Or.inr ⟨by kernel_rfl, rfl⟩) hHeld ?_
            simp only [Act.put, List.setIfInBounds_toArray, List.set_cons_zero, List.set_cons_succ]
            refine wpAnyH_take (i := 15) (oi := { dst := some 111, op := Op.pick (Operand.tmp 108) (Operand.const (Value.bool true)) (Operand.tmp 110), type := 4, pos := "law.go:170", after := #[{ on := 12, ground := Ground.data }, { on := 14, ground := Ground.data }, { on := 9, ground := Ground.guard }], guard := some (9, true) }) (v := undef) rfl (by kernel_rfl) (by kernel_rfl) (by kernel_rfl) (fun _ _ _ h => h) (Or.inr ⟨by kernel_rfl, rfl⟩) hHeld ?_
            simp only [Act.put, List.setIfInBounds_toArray, List.set_cons_zero, List.set_cons_succ]
            refine wpAnyH_take (i := 16) (oi := { dst := some 112, op := Op.pick (Operand.tmp 105) (Operand.tmp 111) (Operand.const (Value.bool false)), type := 4, pos := "law.go:170", after := #[{ on := 9, ground := Ground.data }, { on := 15, ground := Ground.data }], guard := none }) (v := .bool false) rfl (by kernel_rfl) (by kernel_rfl) (by kernel_rfl) (fun _ _ _ h => h) (Or.inl ⟨by kernel_rfl, by (intro w hSw; (try dsimp only at hSw); go_simp)⟩) hHeld ?_
            simp only [Act.put, List.setIfInBounds_toArray, List.set_cons_zero, List.set_cons_succ]
            refine wpAnyH_done (by kernel_rfl) ?_ _
            clear hHeld
            go_wp2
            go_roundw
            case rel => exact ⟨i + 1, by omega, by go_num, HK.out.drew⟩
            case measure => simp [intOf]; omega
          · obtain ⟨hnl, hmine⟩ := HWl.out i hi80 hch
            rw [hmbe.out] at hmine
            subst hnl
            rw [hmine]
            have hxy : (((wd ys i).toNat : Int) != ((wd xs i).toNat : Int)) = true := bne_iff_ne.2 (fun e => hch (UInt32.toNat_inj.1 (by omega)))
            obtain ⟨v1, hv1⟩ : ∃ v : Nat, v = (wd ys i).toNat := ⟨_, rfl⟩
            obtain ⟨v2, hv2⟩ : ∃ v : Nat, v = (wd xs i).toNat := ⟨_, rfl⟩
            rw [← hv1] at d1 hxy
            rw [← hv2] at d2 hxy
            clear hch hv1 hv2 hmine
            go_wp2
            refine wp_region_held_drew (S := (fun w' => w'.cell? ⟨Nb, i, none⟩ = some (.int .u32 (v1 : Int)) ∧ w'.cell? ⟨Wb, i, none⟩ = some (.int .u32 (v2 : Int)) ∧ w'.cell? ⟨O, 6, none⟩ = some (.bool false))) Try.mixd ⟨d1, d2, d6⟩ (fun hHeld => ?_)
            simp only [List.size_toArray, List.length_cons, List.length_nil, Nat.reduceAdd, Array.replicate_succ, Array.replicate_zero, List.push_toArray, List.append_toArray, List.nil_append, List.cons_append]
            refine wpAnyH_take (i := 0) (oi := { dst := some 96, op := Op.move (Operand.tmp 10), type := 22, pos := "law.go:170", after := #[], guard := none }) (v := .slice (some ⟨Nb, 0, none⟩) 80 80) rfl (by kernel_rfl) (by kernel_rfl) (by kernel_rfl) (fun _ _ _ h => h) (Or.inl ⟨by kernel_rfl, by (intro w hSw; (try dsimp only at hSw); go_simp)⟩) hHeld ?_
            simp only [Act.put, List.setIfInBounds_toArray, List.set_cons_zero, List.set_cons_succ]
            refine wpAnyH_take (i := 1) (oi := { dst := some 97, op := Op.move (Operand.tmp 11), type := 3, pos := "law.go:170", after := #[], guard := none }) (v := .int .i64 (i : Int)) rfl (by kernel_rfl) (by kernel_rfl) (by kernel_rfl) (fun _ _ _ h => h) (Or.inl ⟨by kernel_rfl, by (intro w hSw; (try dsimp only at hSw); go_simp)⟩) hHeld ?_
            simp only [Act.put, List.setIfInBounds_toArray, List.set_cons_zero, List.set_cons_succ]
            refine wpAnyH_take (i := 2) (oi := { dst := some 98, op := Op.indexAddr 22 (Operand.tmp 96) (Operand.tmp 97), type := 0, pos := "law.go:170", after := #[{ on := 0, ground := Ground.data }, { on := 1, ground := Ground.data }], guard := none }) (v := .pointer (some ⟨Nb, i, none⟩)) rfl (by kernel_rfl) (by kernel_rfl) (by kernel_rfl) (fun _ _ _ h => h) (Or.inl ⟨by kernel_rfl, by (intro w hSw; (try dsimp only at hSw); go_simp)⟩) hHeld ?_
            simp only [Act.put, List.setIfInBounds_toArray, List.set_cons_zero, List.set_cons_succ]
            refine wpAnyH_take (i := 3) (oi := { dst := some 99, op := Op.load 34 (Operand.tmp 98), type := 34, pos := "law.go:170", after := #[{ on := 2, ground := Ground.data }], guard := none }) (v := .int .u32 (v1 : Int)) rfl (by kernel_rfl) (by kernel_rfl) (by kernel_rfl) (fun _ _ _ h => h) (Or.inl ⟨by kernel_rfl, by (intro w hSw; (try dsimp only at hSw); go_simp)⟩) hHeld ?_
            simp only [Act.put, List.setIfInBounds_toArray, List.set_cons_zero, List.set_cons_succ]
            refine wpAnyH_take (i := 4) (oi := { dst := some 100, op := Op.move (Operand.tmp 7), type := 22, pos := "law.go:170", after := #[], guard := none }) (v := .slice (some ⟨Wb, 0, none⟩) 80 80) rfl (by kernel_rfl) (by kernel_rfl) (by kernel_rfl) (fun _ _ _ h => h) (Or.inl ⟨by kernel_rfl, by (intro w hSw; (try dsimp only at hSw); go_simp)⟩) hHeld ?_
            simp only [Act.put, List.setIfInBounds_toArray, List.set_cons_zero, List.set_cons_succ]
            refine wpAnyH_take (i := 5) (oi := { dst := some 101, op := Op.move (Operand.tmp 11), type := 3, pos := "law.go:170", after := #[], guard := none }) (v := .int .i64 (i : Int)) rfl (by kernel_rfl) (by kernel_rfl) (by kernel_rfl) (fun _ _ _ h => h) (Or.inl ⟨by kernel_rfl, by (intro w hSw; (try dsimp only at hSw); go_simp)⟩) hHeld ?_
            simp only [Act.put, List.setIfInBounds_toArray, List.set_cons_zero, List.set_cons_succ]
            refine wpAnyH_take (i := 6) (oi := { dst := some 102, op := Op.indexAddr 22 (Operand.tmp 100) (Operand.tmp 101), type := 0, pos := "law.go:170", after := #[{ on := 4, ground := Ground.data }, { on := 5, ground := Ground.data }], guard := none }) (v := .pointer (some ⟨Wb, i, none⟩)) rfl (by kernel_rfl) (by kernel_rfl) (by kernel_rfl) (fun _ _ _ h => h) (Or.inl ⟨by kernel_rfl, by (intro w hSw; (try dsimp only at hSw); go_simp)⟩) hHeld ?_
            simp only [Act.put, List.setIfInBounds_toArray, List.set_cons_zero, List.set_cons_succ]
            refine wpAnyH_take (i := 7) (oi := { dst := some 103, op := Op.load 34 (Operand.tmp 102), type := 34, pos := "law.go:170", after := #[{ on := 6, ground := Ground.data }], guard := none }) (v := .int .u32 (v2 : Int)) rfl (by kernel_rfl) (by kernel_rfl) (by kernel_rfl) (fun _ _ _ h => h) (Or.inl ⟨by kernel_rfl, by (intro w hSw; (try dsimp only at hSw); go_simp)⟩) hHeld ?_
            simp only [Act.put, List.setIfInBounds_toArray, List.set_cons_zero, List.set_cons_succ]
            refine wpAnyH_take (i := 8) (oi := { dst := some 104, op := Op.binOp BinOp.neq 34 (Operand.tmp 99) (Operand.tmp 103) 34, type := 4, pos := "law.go:170", after := #[{ on := 3, ground := Ground.data }, { on := 7, ground := Ground.data }], guard := none }) (v := .bool true) rfl (by kernel_rfl) (by kernel_rfl) (by kernel_rfl) (fun _ _ _ h => h) (Or.inl ⟨by kernel_rfl, by (intro w hSw; (try dsimp only at hSw); go_simp)⟩) hHeld ?_
            simp only [Act.put, List.setIfInBounds_toArray, List.set_cons_zero, List.set_cons_succ]
            refine wpAnyH_take (i := 9) (oi := { dst := some 105, op := Op.move (Operand.tmp 104), type := 4, pos := "law.go:170", after := #[{ on := 8, ground := Ground.data }], guard := none }) (v := .bool true) rfl (by kernel_rfl) (by kernel_rfl) (by kernel_rfl) (fun _ _ _ h => h) (Or.inl ⟨by kernel_rfl, by (intro w hSw; (try dsimp only at hSw); go_simp)⟩) hHeld ?_
            simp only [Act.put, List.setIfInBounds_toArray, List.set_cons_zero, List.set_cons_succ]
            refine wpAnyH_take (i := 10) (oi := { dst := some 106, op := Op.move (Operand.tmp 12), type := 4, pos := "law.go:170", after := #[{ on := 9, ground := Ground.guard }], guard := some (9, true) }) (v := .bool true) rfl (by kernel_rfl) (by kernel_rfl) (by kernel_rfl) (fun _ _ _ h => h) (Or.inl ⟨by kernel_rfl, by (intro w hSw; (try dsimp only at hSw); go_simp)⟩) hHeld ?_
            simp only [Act.put, List.setIfInBounds_toArray, List.set_cons_zero, List.set_cons_succ]
            refine wpAnyH_take (i := 11) (oi := { dst := some 107, op := Op.unOp UnOp.not 4 (Operand.tmp 106), type := 4, pos := "law.go:170", after := #[{ on := 10, ground := Ground.data }, { on := 9, ground := Ground.guard }], guard := some (9, true) }) (v := .bool false) rfl (by kernel_rfl) (by kernel_rfl) (by kernel_rfl) (fun _ _ _ h => h) (Or.inl ⟨by kernel_rfl, by (intro w hSw; (try dsimp only at hSw); go_simp)⟩) hHeld ?_
            simp only [Act.put, List.setIfInBounds_toArray, List.set_cons_zero, List.set_cons_succ]
            refine wpAnyH_take (i := 12) (oi := { dst := some 108, op := Op.move (Operand.tmp 107), type := 4, pos := "law.go:170", after := #[{ on := 11, ground := Ground.data }, { on := 9, ground := Ground.chain }, { on := 9, ground := Ground.guard }], guard := some (9, true) }) (v := .bool false) rfl (by kernel_rfl) (by kernel_rfl) (by kernel_rfl) (fun _ _ _ h => h) (Or.inl ⟨by kernel_rfl, by (intro w hSw; (try dsimp only at hSw); go_simp)⟩) hHeld ?_
            simp only [Act.put, List.setIfInBounds_toArray, List.set_cons_zero, List.set_cons_succ]
            refine wpAnyH_take (i := 13) (oi := { dst := some 109, op := Op.fieldAddr 36 (Operand.tmp 3) 6, type := 0, pos := "law.go:170", after := #[{ on := 12, ground := Ground.guard }], guard := some (12, false) }) (v := .pointer (some ⟨O, 6, none⟩)) rfl (by kernel_rfl) (by kernel_rfl) (by kernel_rfl) (fun _ _ _ h => h) (Or.inl ⟨by kernel_rfl, by (intro w hSw; (try dsimp only at hSw); go_simp)⟩) hHeld ?_
            simp only [Act.put, List.setIfInBounds_toArray, List.set_cons_zero, List.set_cons_succ]
            refine wpAnyH_take (i := 14) (oi := { dst := some 110, op := Op.load 4 (Operand.tmp 109), type := 4, pos := "law.go:170", after := #[{ on := 13, ground := Ground.data }, { on := 12, ground := Ground.guard }], guard := some (12, false) }) (v := .bool false) rfl (by kernel_rfl) (by kernel_rfl) (by kernel_rfl) (fun _ _ _ h => h) (Or.inl ⟨by kernel_rfl, by (intro w hSw; (try dsimp only at hSw); go_simp)⟩) hHeld ?_
            simp only [Act.put, List.setIfInBounds_toArray, List.set_cons_zero, List.set_cons_succ]
            refine wpAnyH_take (i := 15) (oi := { dst := some 111, op := Op.pick (Operand.tmp 108) (Operand.const (Value.bool true)) (Operand.tmp 110), type := 4, pos := "law.go:170", after := #[{ on := 12, ground := Ground.data }, { on := 14, ground := Ground.data }, { on := 9, ground := Ground.guard }], guard := some (9, true) }) (v := .bool false) rfl (by kernel_rfl) (by kernel_rfl) (by kernel_rfl) (fun _ _ _ h => h) (Or.inl ⟨by kernel_rfl, by (intro w hSw; (try dsimp only at hSw); go_simp)⟩) hHeld ?_
            simp only [Act.put, List.setIfInBounds_toArray, List.set_cons_zero, List.set_cons_succ]
            refine wpAnyH_take (i := 16) (oi := { dst := some 112, op := Op.pick (Operand.tmp 105) (Operand.tmp 111) (Operand.const (Value.bool false)), type := 4, pos := "law.go:170", after := #[{ on := 9, ground := Ground.data }, { on := 15, ground := Ground.data }], guard := none }) (v := .bool false) rfl (by kernel_rfl) (by kernel_rfl) (by kernel_rfl) (fun _ _ _ h => h) (Or.inl ⟨by kernel_rfl, by (intro w hSw; (try dsimp only at hSw); go_simp)⟩) hHeld ?_
            simp only [Act.put, List.setIfInBounds_toArray, List.set_cons_zero, List.set_cons_succ]
            refine wpAnyH_done (by kernel_rfl) ?_ _
            clear hHeld
            go_wp2
            go_roundw
            case rel => exact ⟨i + 1, by omega, by go_num, HK.out.drew⟩
            case measure => simp [intOf]; omega
    · obtain rfl : i = 80 := by omega
      have HF : Hid (Keeps (fun _ => False) w wr) := (HX.out.2.2.1.trans H7.out.1 fun _ _ e => e).trans hk fun _ _ e => e
      clear hi hk hi80
      go_wp2
      go_ret
      exact ⟨rfl, HF.out⟩

theorem sampleWalls_any (a : Option Addr) (cap : Nat) (ws : List UInt32) (o : Opn) (w : World) (hx : SegW w a ws) (hl : ws.length ≤ cap ∧ cap ≤ maxLen) (hok : o.Ok w) :
    Calls Try.prog 5 #[.slice a ws.length cap, o.v] w fun e w' => e = .returned (.bool true) ∧ Keeps (fun _ => False) w w' := by
  by_cases h4 : o.k = 4
  · exact walls_4 a cap ws o w hx hl hok h4
  · by_cases h0 : o.k = 0
    · exact walls_0 a cap ws o w hx hl hok h0
    · by_cases h2 : o.k = 2
      · exact walls_2 a cap ws o w hx hl hok h2
      · exact walls_r a cap ws o w hx hl hok h0 h2 h4

end Go.Proofs.Ytfcgpjojjehkiaa
