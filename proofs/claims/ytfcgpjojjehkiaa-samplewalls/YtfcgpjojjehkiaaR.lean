import Derived.Test.YtfcgpjojjehkiaaQ
namespace Go.Proofs.Ytfcgpjojjehkiaa
open Go.RowKit
set_option linter.unusedVariables false
set_option linter.unusedSimpArgs false

theorem SegB.tail {w : World} {ga : Nat} {s : Bx} {ps : List Bx} (h : SegB w (some ⟨ga, 0, none⟩) (s :: ps)) : SegB w (some ⟨ga, 3, none⟩) ps := by
  rcases h with h | ⟨g, o, ha, hc⟩
  · cases h
  · simp at ha
    obtain ⟨rfl, rfl⟩ := ha
    refine .inr ⟨_, 3, rfl, fun j b hb => ?_⟩
    have := hc (j + 1) b (by simpa using hb)
    rw [show 0 + (j + 1) * 3 = 3 + j * 3 by omega] at this
    exact this

/-- While the message is brought. -/
structure Brg (w wr : World) (b g ga : Nat) (am : Option Addr) (xs : List UInt32) (n : Nat) (ms : List UInt32) (s : Bx) (ps : List Bx) (j : Nat) : Prop where
  mm : Mm wr b g (briX xs n ms (ps.take j))
  len : (briX xs n ms (ps.take j)).length = xs.length
  sg : SegB wr (some ⟨ga, 0, none⟩) (s :: ps)
  sm : SegW wr am ms
  k : Keeps (· = g) w wr

set_option maxRecDepth 20000 in
set_option maxHeartbeats 2000000 in
theorem bring_any (b g : Nat) (xs : List UInt32) (am : Option Addr) (cm : Nat) (ms : List UInt32) (ga c : Nat) (s : Bx) (ps : List Bx) (n : Nat) (w : World) (hm : Mm w b g xs) (hsm : SegW w am ms) (hs : SegB w (some ⟨ga, 0, none⟩) (s :: ps)) (hne : ga ≠ g) (hnm : ∀ x, am = some x → x.block ≠ g) (hN0 : 1 ≤ ps.length) (hN : ps.length ≤ 4) (hc : ps.length + 1 ≤ c ∧ c ≤ maxLen)
    (h1 : 1 ≤ ms.length) (h2 : ms.length ≤ n) (h3 : n ≤ 16) (hsv : s.h = 2 ∧ s.n = n ∧ 0 ≤ s.p ∧ s.p + (2 + n) ≤ xs.length) (hp : ∀ y ∈ ps, y.h = 3 ∧ y.n = n ∧ 0 ≤ y.p ∧ y.p + (3 + n) ≤ xs.length) :
    Calls Try.prog 38 #[.pointer (some ⟨b, 0, none⟩), .slice am ms.length cm, .slice (some ⟨ga, 0, none⟩) (ps.length + 1) c] w fun e w' => e = .returned (.int .i64 0) ∧ Mm w' b g (lay (briX xs n ms ps) s.p.toNat (List.replicate (2 + n) 0)) ∧ Keeps (· = g) w w' := by
  obtain ⟨N, hNN⟩ : ∃ N, N = ps.length := ⟨_, rfl⟩
  obtain ⟨k, hkk⟩ : ∃ k, k = ms.length := ⟨_, rfl⟩
  have HB0 : Hid (Brg w w b g ga am xs n ms s ps 0) := ⟨hm, rfl, hs, hsm, Keeps.refl _ _⟩
  have hfl : (fillW 3 n ms).length = 3 + n := fillW_length _ _ _ (by omega) h2
  have HP : Hid (N = ps.length ∧ k = ms.length ∧ ga ≠ g ∧ (∀ x, am = some x → x.block ≠ g) ∧ (1 ≤ ms.length ∧ ms.length ≤ n ∧ n ≤ 16) ∧ (fillW 3 n ms).length = 3 + n ∧ (s.h = 2 ∧ s.n = n ∧ 0 ≤ s.p ∧ s.p + (2 + n) ≤ xs.length) ∧ ∀ y ∈ ps, y.h = 3 ∧ y.n = n ∧ 0 ≤ y.p ∧ y.p + (3 + n) ≤ xs.length) := ⟨hNN, hkk, hne, hnm, ⟨h1, h2, h3⟩, hfl, hsv, hp⟩
  rw [← hNN, ← hkk]
  have n0 : 1 ≤ (N : Int) := by omega
  have n1 : (N : Int) ≤ 4 := by omega
  have n2 : (N : Int) + 1 ≤ c := by omega
  have n4 : (c : Int) ≤ 9223372036854775807 := by have := hc.2; unfold maxLen at this; omega
  have n5 : ¬ c = 1 := by omega
  have HSm : Hid (xs.length ≤ 16384) := hm.small
  clear hm hsm hs hne hnm hN0 hN hc h1 h2 h3 hsv hp hNN hkk hfl
  go_enter Try.func38, Try.ntmps38
  go_wp2
  go_loopw [13] (fun i wr => ∃ j : Nat, j ≤ N ∧ i = .int .i64 j ∧ Brg w wr b g ga am xs n ms s ps j) (fun i _ => N - (intOf i).toNat)
  case atStart => exact ⟨0, by omega, rfl, HB0.out⟩
  case round =>
    clear HB0
    obtain ⟨j, hj, rfl, hB⟩ := hrel
    by_cases hlt : j < N
    · have hlt' : (j : Int) < N := by omega
      obtain ⟨y, hy⟩ : ∃ y, ps[j]? = some y := ⟨_, List.getElem?_eq_getElem (by have := HP.out.1; omega)⟩
      obtain ⟨g', o', ha, hg⟩ := hB.sg.tail.at hy
      simp at ha
      obtain ⟨rfl, rfl⟩ := ha
      obtain ⟨y0, y1, y2⟩ := hg
      obtain ⟨f1, f2, f3, f4⟩ := HP.out.2.2.2.2.2.2.2 y (List.mem_of_getElem? hy)
      obtain ⟨bp, bh, bn⟩ := y
      simp only at *
      subst f1
      subst f2
      obtain ⟨W2, hW2, hK2, hB2⟩ := box_new wr bp 3 n
      have e3 : ((3 : Nat) : Int) = 3 := rfl
      rw [e3] at y1
      have hsm2 := hB.sm.kept hK2 (fun _ _ e => e)
      have HF : ∀ W, Keeps (fun _ => False) W2 W → Calls Try.prog 43 #[bxv bp 3 n, .slice am k cm] W fun e w' => ∃ G, W.heap.size ≤ G ∧ e = .returned (.slice (some ⟨G, 0, none⟩) (3 + n) (3 + n)) ∧ Blk w' G (wvs (fillW 3 n ms)) 34 ∧ Keeps (fun _ => False) W2 w' := by
        intro W kk
        have := filled_any bp 3 n am cm ms W (hsm2.kept kk (fun _ _ e => e)) (by omega) HP.out.2.2.2.2.1.1 HP.out.2.2.2.2.1.2.1 HP.out.2.2.2.2.1.2.2
        rw [← HP.out.2.1] at this
        exact this.mono fun e w' ⟨G, q1, q2, q3, q4⟩ => ⟨G, q1, q2, q3, kk.trans q4 fun _ _ e => e⟩
      have HLy : ∀ W G, Keeps (fun _ => False) W2 W → Blk W G (wvs (fillW 3 n ms)) 34 → Calls Try.prog 42 #[.pointer (some ⟨b, 0, none⟩), .int .i64 bp, .slice (some ⟨G, 0, none⟩) (3 + n) (3 + n)] W fun e w' => e = .returned (.int .i64 0) ∧ Mm w' b g (briX xs n ms (ps.take (j + 1))) ∧ Keeps (· = g) W2 w' := by
        intro W G kk hG
        have := lay_in b g (briX xs n ms (ps.take j)) bp.toNat (some ⟨G, 0, none⟩) (3 + n) (fillW 3 n ms) W ((hB.mm.kept hK2 (fun e => e) (fun e => e)).kept kk (fun e => e) (fun e => e)) (segW_of_blk hG) (by rw [HP.out.2.2.2.2.2.1, hB.len]; omega)
        rw [HP.out.2.2.2.2.2.1, show ((bp.toNat : Nat) : Int) = bp by omega] at this
        rw [briX_snoc hy]
        exact this.mono fun e w' ⟨q1, q2, q3⟩ => ⟨q1, q2, (kk.mono (T := (· = g)) fun _ _ e => e.elim).trans q3 fun _ _ e => e⟩
      have hlen2 : (briX xs n ms (ps.take (j + 1))).length = xs.length := by
        rw [briX_snoc hy, lay_length _ _ _ (by rw [HP.out.2.2.2.2.2.1, hB.len]; show bp.toNat + _ ≤ _; omega)]; exact hB.len
      obtain ⟨F, hF⟩ : ∃ F, F = fillW 3 n ms := ⟨_, rfl⟩
      obtain ⟨M, hM⟩ : ∃ M, M = 3 + n := ⟨_, rfl⟩
      rw [← hF, ← hM] at HF HLy
      have HF' : Hid (∀ W, Keeps (fun _ => False) W2 W → Calls Try.prog 43 #[bxv bp 3 n, .slice am k cm] W fun e w' => ∃ G, W.heap.size ≤ G ∧ e = .returned (.slice (some ⟨G, 0, none⟩) M M) ∧ Blk w' G (wvs F) 34 ∧ Keeps (fun _ => False) W2 w') := HF
      have HL' : Hid (∀ W G, Keeps (fun _ => False) W2 W → Blk W G (wvs F) 34 → Calls Try.prog 42 #[.pointer (some ⟨b, 0, none⟩), .int .i64 bp, .slice (some ⟨G, 0, none⟩) M M] W fun e w' => e = .returned (.int .i64 0) ∧ Mm w' b g (briX xs n ms (ps.take (j + 1))) ∧ Keeps (· = g) W2 w') := HLy
      obtain ⟨O2, hO2⟩ : ∃ O2, O2 = wr.heap.size := ⟨_, rfl⟩
      rw [← hO2] at hB2
      have hOg : ¬ O2 = g := by have := hB.mm.row.lt; omega
      have hS : W2.cell? ⟨O2, 0, none⟩ = some (.int .i64 bp) ∧ W2.cell? ⟨O2, 1, none⟩ = some (.int .i64 3) ∧ W2.cell? ⟨O2, 2, none⟩ = some (.int .i64 n) := ⟨hB2.cell rfl, hB2.cell rfl, hB2.cell rfl⟩
      have HBx : Hid (∀ W', Keeps (· = g) W2 W' → W'.cell? ⟨O2, 0, none⟩ = some (.int .i64 bp) ∧ W'.cell? ⟨O2, 1, none⟩ = some (.int .i64 3) ∧ W'.cell? ⟨O2, 2, none⟩ = some (.int .i64 n)) := fun W' kk => ⟨(hB2.kept kk hOg).cell rfl, (hB2.kept kk hOg).cell rfl, (hB2.kept kk hOg).cell rfl⟩
      have HX : Hid (W2 = _ ∧ O2 = wr.heap.size ∧ Keeps (fun _ => False) wr W2 ∧ Brg w wr b g ga am xs n ms s ps j ∧ (briX xs n ms (ps.take (j + 1))).length = xs.length) := ⟨hW2, hO2, hK2, hB, hlen2⟩
      clear e3 hj hB hy f3 f4 hW2 hK2 hB2 hsm2 HF HLy hlen2 hF hM hO2 hOg
      go_wp2
      rw [← HX.out.1, ← HX.out.2.1]
      go_region_held3 (fun w' => w'.cell? ⟨O2, 0, none⟩ = some (.int .i64 bp) ∧ w'.cell? ⟨O2, 1, none⟩ = some (.int .i64 3) ∧ w'.cell? ⟨O2, 2, none⟩ = some (.int .i64 n)) (first | exact hS2 | exact hS1 | exact hS | go_keep)
        (first | (go_at_call 43; refine (HF'.out _ ((Keeps.refl _ W2).drewN _)).mono ?_; rintro e w4 ⟨G, hGs, rfl, hGB, hk4⟩; have hS1 := HBx.out w4 (hk4.mono fun _ _ e => e.elim)) | (go_at_call 42; refine (HL'.out w4 G hk4 hGB).mono ?_; rintro e w5 ⟨rfl, hM5, hk6⟩; have hS2 := HBx.out w5 hk6))
      have HY : Hid (Brg w w5 b g ga am xs n ms s ps (j + 1)) := by
        have q := (HX.out.2.2.1.mono (T := (· = g)) fun _ _ e => e.elim).trans hk6 fun _ _ e => e
        exact ⟨hM5, HX.out.2.2.2.2, HX.out.2.2.2.1.sg.kept q (fun x e => by cases e; exact HP.out.2.2.1), HX.out.2.2.2.1.sm.kept q HP.out.2.2.2.1, HX.out.2.2.2.1.k.trans q fun _ _ e => e⟩
      clear hM5 hk6 hk4 hGB hGs hS hS1 hS2 HF' HL' HBx y0 y1 y2
      go_wp2
      go_roundw
      case rel => exact ⟨j + 1, by omega, by go_num, HY.out⟩
      case measure => simp [intOf]; omega
    · obtain rfl : j = N := by omega
      have hM := hB.mm
      have hlen := hB.len
      rw [List.take_of_length_le (by have := HP.out.1; omega)] at hM hlen
      obtain ⟨sp, sh, sn⟩ := s
      obtain ⟨f1, f2, f3, f4⟩ := HP.out.2.2.2.2.2.2.1
      simp only at f1 f2 f3 f4
      subst f1
      subst f2
      have h0 : BxAt wr ga 0 ⟨sp, 2, n⟩ := by
        rcases hB.sg with h | ⟨g', o', ha, hc⟩
        · cases h
        · simp at ha
          obtain ⟨rfl, rfl⟩ := ha
          exact hc 0 _ rfl
      have hSz : ∀ W, Keeps (fun _ => False) wr W → Calls Try.prog 57 #[bxv sp 2 n] W fun e w' => e = .returned (.int .i64 (2 + n)) ∧ Keeps (fun _ => False) wr w' := fun W kk =>
        (size_any sp 2 n W ⟨by omega, by omega⟩ ⟨by omega, by have := HP.out.2.2.2.2.1.2.2; omega⟩).mono fun e w' ⟨q1, q2⟩ => ⟨q1, kk.trans q2 fun _ _ e => e⟩
      have hFl : ∀ W, Keeps (fun _ => False) wr W → Calls Try.prog 56 #[.pointer (some ⟨b, 0, none⟩), .int .i64 sp, .int .i64 (2 + n), .int .u32 0] W fun e w' => e = .returned (.int .i64 0) ∧ Mm w' b g (lay (briX xs n ms ps) sp.toNat (List.replicate (2 + n) 0)) ∧ Keeps (· = g) wr w' := by
        intro W kk
        have := fill_zero b g (briX xs n ms ps) sp.toNat (2 + n) W (hM.kept kk (fun e => e) (fun e => e)) (by rw [hlen]; omega)
        rw [show ((sp.toNat : Nat) : Int) = sp by omega, show ((2 + n : Nat) : Int) = 2 + (n : Int) by omega] at this
        exact this.mono fun e w' ⟨q1, q2, q3⟩ => ⟨q1, q2, (kk.mono (T := (· = g)) fun _ _ e => e.elim).trans q3 fun _ _ e => e⟩
      obtain ⟨M, hM2⟩ : ∃ M : Int, M = 2 + (n : Int) := ⟨_, rfl⟩
      rw [← hM2] at hSz hFl
      have HSz : Hid (∀ W, Keeps (fun _ => False) wr W → Calls Try.prog 57 #[bxv sp 2 n] W fun e w' => e = .returned (.int .i64 M) ∧ Keeps (fun _ => False) wr w') := hSz
      have HFl : Hid (∀ W, Keeps (fun _ => False) wr W → Calls Try.prog 56 #[.pointer (some ⟨b, 0, none⟩), .int .i64 sp, .int .i64 M, .int .u32 0] W fun e w' => e = .returned (.int .i64 0) ∧ Mm w' b g (lay (briX xs n ms ps) sp.toNat (List.replicate (2 + n) 0)) ∧ Keeps (· = g) wr w') := hFl
      have hS : wr.cell? ⟨ga, 0, none⟩ = some (.int .i64 sp) ∧ wr.cell? ⟨ga, 1, none⟩ = some (.int .i64 2) ∧ wr.cell? ⟨ga, 2, none⟩ = some (.int .i64 n) := h0
      have HBx : Hid (∀ W', Keeps (· = g) wr W' → W'.cell? ⟨ga, 0, none⟩ = some (.int .i64 sp) ∧ W'.cell? ⟨ga, 1, none⟩ = some (.int .i64 2) ∧ W'.cell? ⟨ga, 2, none⟩ = some (.int .i64 n)) := fun W' kk => h0.kept kk HP.out.2.2.1
      have HZ : Hid (Keeps (· = g) w wr) := hB.k
      clear hM hlen hB f3 f4 h0 hSz hFl hM2 hj hlt
      go_wp2
      go_region_held3 (fun w' => w'.cell? ⟨ga, 0, none⟩ = some (.int .i64 sp) ∧ w'.cell? ⟨ga, 1, none⟩ = some (.int .i64 2) ∧ w'.cell? ⟨ga, 2, none⟩ = some (.int .i64 n)) (first | exact hS2 | exact hS1 | exact hS | go_keep)
        (first | (go_at_call 57; refine (HSz.out _ ((Keeps.refl _ wr).drewN _)).mono ?_; rintro e w4 ⟨rfl, hk4⟩; have hS1 := HBx.out w4 (hk4.mono fun _ _ e => e.elim)) | (go_at_call 56; refine (HFl.out w4 hk4).mono ?_; rintro e w5 ⟨rfl, hM5, hk6⟩; have hS2 := HBx.out w5 hk6))
      go_wp2
      go_ret
      exact ⟨rfl, hM5, HZ.out.trans hk6 fun _ _ e => e⟩

end Go.Proofs.Ytfcgpjojjehkiaa
