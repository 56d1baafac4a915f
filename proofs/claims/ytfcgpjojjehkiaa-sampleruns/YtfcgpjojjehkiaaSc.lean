import Derived.Test.YtfcgpjojjehkiaaSb
namespace Go.Proofs.Ytfcgpjojjehkiaa
open Go.RowKit
set_option linter.unusedVariables false
set_option linter.unusedSimpArgs false

theorem putX_length (nil : Bool) (xs : List UInt32) (p n : Int) (ms : List UInt32) : (putX nil xs p n ms).length = xs.length := by
  unfold putX
  split
  · rename_i h
    unfold putE at h
    by_cases h1 : tkE nil xs.length p 2 n = 0
    · obtain ⟨-, t1, t2, t3, t4⟩ := tkE_ok h1
      rw [if_neg (by simpa using h1)] at h
      by_cases h2 : ms.length < 1 ∨ n < ms.length
      · rw [if_pos h2] at h; omega
      · exact lay_length _ _ _ (by rw [fillW_length 2 n.toNat ms (by omega) (by omega)]; omega)
    · rw [if_pos h1] at h; exact absurd h h1
  · rfl

set_option maxRecDepth 20000 in
set_option maxHeartbeats 2000000 in
theorem sampleRuns_any (a : Option Addr) (cap : Nat) (ws : List UInt32) (sa : Option Addr) (scap : Nat) (os : List Opn) (w : World) (hx : SegW w a ws) (hl : ws.length ≤ cap ∧ cap ≤ maxLen) (hs : SegOpn w sa os) (hsl : os.length ≤ scap ∧ scap ≤ maxLen) (hF : ∀ o ∈ os, o.Ok w) :
    Calls Try.prog 3 #[.slice a ws.length cap, .slice sa os.length scap] w fun e w' => e = .returned (.bool true) ∧ Keeps (fun _ => False) w w' := by
  have HBg : Hid (∀ W, Keeps (fun _ => False) w W → Calls Try.prog 9 #[.slice a ws.length cap] W fun e w' => ∃ G, W.heap.size ≤ G ∧ e = .returned (.slice (some ⟨G, 0, none⟩) 80 80) ∧ Blk w' G (wvs (bgL ws)) 34 ∧ Keeps (fun _ => False) W w') := fun W kk => begun_any a cap ws W (hx.kept kk (fun _ _ e => e)) hl
  have HO : Hid (∀ W G, Blk W G (wvs (bgL ws)) 34 → Calls Try.prog 8 #[.slice (some ⟨G, 0, none⟩) 80 80] W fun e w' => ∃ b', W.heap.size < b' ∧ e = .returned (.tuple #[.pointer (some ⟨b', 0, none⟩), .int .i64 0]) ∧ Mm w' b' W.heap.size (bgL ws) ∧ Keeps (fun _ => False) W w') := fun W G hG => by
    have := of_in (some ⟨G, 0, none⟩) 80 5 (bgL ws) W (segW_of_blk hG) (by rw [bgL_length]) (by omega) (by omega)
    rw [bgL_length] at this
    exact this
  have HR : Hid (∀ W G, Blk W G (wvs (bgL ws)) 34 → Calls Try.prog 10 #[.slice (some ⟨G, 0, none⟩) 80 80] W fun e w' => e = .returned (.tuple #[.pointer (some ⟨W.heap.size, 0, none⟩), .int .i64 0]) ∧ Rm w' W.heap.size (W.heap.size + 1) (bgL ws) ∧ Keeps (fun _ => False) W w') := fun W G hG => by
    have := rof_in (some ⟨G, 0, none⟩) 80 5 (bgL ws) W (segW_of_blk hG) (by rw [bgL_length]) (by omega) (by omega)
    rw [bgL_length] at this
    exact this
  have HS : Hid (SegOpn w sa os ∧ ∀ o ∈ os, o.Ok w) := ⟨hs, hF⟩
  obtain ⟨L, hL⟩ : ∃ L, L = ws.length := ⟨_, rfl⟩
  obtain ⟨N, hN⟩ : ∃ N, N = os.length := ⟨_, rfl⟩
  have HN : Hid (N = os.length) := hN
  rw [← hL] at HBg
  rw [← hL, ← hN]
  have hN2 : (N : Int) ≤ 9223372036854775807 := by have := hsl.1; have := hsl.2; unfold maxLen at this; omega
  clear hx hl hs hsl hF hL hN
  go_enter Try.func3, Try.ntmps3
  go_wp2_with fail
  refine (HBg.out w (Keeps.refl _ _)).mono ?_
  rintro e w1 ⟨G1, hG1, rfl, hB1, hk1⟩
  have HO1 : Hid (Calls _ _ _ _ _) := HO.out w1 G1 hB1
  have H1 : Hid (Keeps (fun _ => False) w w1) := hk1
  clear hG1 hB1 hk1 HO
  go_wp2_with fail
  refine HO1.out.mono ?_
  rintro e w2 ⟨b, hb, rfl, hM, hk2⟩
  obtain ⟨g, hg⟩ : ∃ g, g = w1.heap.size := ⟨_, rfl⟩
  rw [← hg] at hM hb
  have hkw2 : Keeps (fun _ => False) w w2 := H1.out.trans hk2 fun _ _ e => e
  have H2 : Hid (Mm w2 b g (bgL ws) ∧ Keeps (fun _ => False) w w2 ∧ w.heap.size ≤ g) := ⟨hM, hkw2, by have := H1.out.size; omega⟩
  have HBg2 : Hid (Calls _ _ _ _ _) := HBg.out w2 hkw2
  clear hM hk2 hb hg HO1 H1 hkw2 HBg
  go_wp2_with fail
  refine HBg2.out.mono ?_
  rintro e w3 ⟨G3, hG3, rfl, hB3, hk3⟩
  have HR3 : Hid (Calls _ _ _ _ _) := HR.out w3 G3 hB3
  have H3 : Hid (Mm w3 b g (bgL ws) ∧ Keeps (fun _ => False) w w3) := ⟨H2.out.1.kept hk3 (fun e => e) (fun e => e), H2.out.2.1.trans hk3 fun _ _ e => e⟩
  clear hG3 hB3 hk3 HBg2 HR
  go_wp2_with fail
  refine HR3.out.mono ?_
  rintro e w4 ⟨rfl, hR4, hk4⟩
  obtain ⟨rb, hrb⟩ : ∃ rb, rb = w3.heap.size := ⟨_, rfl⟩
  rw [← hrb] at hR4 ⊢
  obtain ⟨rg, hrg⟩ : ∃ rg, rg = rb + 1 := ⟨_, rfl⟩
  rw [← hrg] at hR4
  have H4 : Hid (Duo w4 b g rb rg (bgL ws) ∧ Keeps (fun _ => False) w w4 ∧ w.heap.size ≤ g ∧ w.heap.size ≤ rg) := by
    have q1 := H3.out.1.blk.lt
    have q2 := H3.out.1.row.lt
    have q3 := H3.out.2.size
    exact ⟨⟨H3.out.1.kept hk4 (fun e => e) (fun e => e), hR4, by omega, by omega, by omega⟩, H3.out.2.trans hk4 (fun _ _ e => e), H2.out.2.2, by omega⟩
  clear hR4 hk4 hrb hrg HR3 H3 H2
  go_wp2
  go_loopw [27] (fun i wr => ∃ (j : Nat) (ys : List UInt32), j ≤ N ∧ i = .int .i64 (j : Int) ∧ Duo wr b g rb rg ys ∧ Keeps (fun _ => False) w wr) (fun i _ => N - (intOf i).toNat)
  case atStart => exact ⟨0, _, by omega, rfl, H4.out.1, H4.out.2.1⟩
  case round =>
    obtain ⟨j, ys, hj, rfl, hD, hk⟩ := hrel
    by_cases hlt : j < N
    · have hlt' : (j : Int) < N := by omega
      obtain ⟨o, ho⟩ : ∃ o, os[j]? = some o := ⟨_, List.getElem?_eq_getElem (by have := HN.out; omega)⟩
      rcases HS.out.1.grown hk with h0 | ⟨gs, og, rfl, hc⟩
      · rw [h0] at ho; simp at ho
      have hca := hc j o ho
      have HO1 := one_any w b g rb rg ys o wr hD hk (HS.out.2 o (List.mem_of_getElem? ho)) H4.out.2.2.1 H4.out.2.2.2
      obtain ⟨zs, hzs⟩ : ∃ zs, zs = oneX o ys := ⟨_, rfl⟩
      rw [← hzs] at HO1
      obtain ⟨k, p, n, ma, mc, ms, pa, pc, ps, x, nl⟩ := o
      have c0 := hca 0 _ rfl
      have c1 := hca 1 _ rfl
      have c2 := hca 2 _ rfl
      have c3 := hca 3 _ rfl
      have c4 := hca 4 _ rfl
      have c5 := hca 5 _ rfl
      have c6 := hca 6 _ rfl
      rw [Nat.add_zero] at c0
      unfold Opn.v at HO1
      simp only at c0 c1 c2 c3 c4 c5 c6 HO1
      obtain ⟨Lm, hLm⟩ : ∃ L, L = ms.length := ⟨_, rfl⟩
      obtain ⟨Lp, hLp⟩ : ∃ L, L = ps.length := ⟨_, rfl⟩
      obtain ⟨X, hX⟩ : ∃ X : Nat, X = x.toNat := ⟨_, rfl⟩
      rw [← hLm, ← hLp, ← hX] at HO1
      rw [← hLm] at c3
      rw [← hLp] at c4
      rw [← hX] at c5
      have HO1 : Hid (Calls _ _ _ _ _) := HO1
      clear hD hk hca hc ho hzs hLm hLp hX hj
      go_wp2_with fail
      refine HO1.out.mono ?_
      rintro e w5 ⟨rfl, hD5, hk5, -⟩
      have HW5 := words_any b g zs w5 hD5.mm
      have H5 : Hid (Duo w5 b g rb rg zs ∧ Keeps (fun _ => False) w w5) := ⟨hD5, hk5⟩
      obtain ⟨Lz, hLz⟩ : ∃ L, L = zs.length := ⟨_, rfl⟩
      rw [← hLz] at HW5
      have HLz : Hid (Lz = zs.length) := hLz
      have HW5 : Hid (Calls _ _ _ _ _) := HW5
      clear hD5 hk5 HO1 c0 c1 c2 c3 c4 c5 c6 hLz
      go_wp2_with fail
      refine HW5.out.mono ?_
      rintro e w6 ⟨rfl, hB6, hk6⟩
      have hD6 := H5.out.1.grown hk6
      obtain ⟨c9, hc9, hb9⟩ := hD6.rm.blk
      obtain ⟨r9, hr9⟩ := hD6.rm.row
      have cb := hb9.cell (i := 0) rfl
      rw [← HLz.out] at cb
      have hsr : SegW w6 (some ⟨rg, 0, none⟩) zs := .inr ⟨rg, 0, rfl, fun i hi => by
        have := hD6.rm.cell i hi
        rw [Nat.zero_add]; exact this⟩
      have HSm := same_any (some ⟨w5.heap.size, 0, none⟩) (some ⟨rg, 0, none⟩) Lz c9 zs w6 (segW_of_blk hB6) hsr (by have := hD6.mm.small; omega)
      rw [← HLz.out] at HSm
      have HSm : Hid (Calls _ _ _ _ _) := HSm
      have H6 : Hid (Duo w6 b g rb rg zs ∧ Keeps (fun _ => False) w w6) := ⟨hD6, H5.out.2.trans hk6 fun _ _ e => e⟩
      clear hB6 hk6 hD6 hc9 hb9 hr9 hsr HW5 H5
      go_wp2_with fail
      refine HSm.out.mono ?_
      rintro e w7 ⟨rfl, hk7⟩
      have H7 : Hid (Duo w7 b g rb rg zs ∧ Keeps (fun _ => False) w w7) := ⟨H6.out.1.grown hk7, H6.out.2.trans hk7 fun _ _ e => e⟩
      clear hk7 HSm H6 cb
      go_wp2
      go_roundw
      case rel => exact ⟨j + 1, zs, by omega, by go_num, H7.out⟩
      case measure => simp [intOf]; omega
    · obtain rfl : j = N := by omega
      have HK : Hid (Keeps (fun _ => False) w wr) := hk
      clear hD hk hj hlt
      go_wp2
      go_ret
      exact ⟨rfl, HK.out⟩

end Go.Proofs.Ytfcgpjojjehkiaa
