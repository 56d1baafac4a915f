import Derived.Test.YtekijhhpldnmnaaTn
namespace Go.Proofs.Ytekijhhpldnmnaa
open Go.RowKit
set_option linter.unusedVariables false
set_option linter.unusedSimpArgs false

theorem lay_cons (l : List UInt32) (p : Nat) (y : UInt32) (ys : List UInt32) (h : p + 1 + ys.length ≤ l.length) : lay (l.set p y) (p + 1) ys = lay l p (y :: ys) := by
  apply List.ext_getElem?
  intro i
  rw [lay_get? (l.set p y) (p + 1) ys (by rw [List.length_set]; omega) i, lay_get? l p (y :: ys) (by simp; omega) i]
  by_cases h1 : p + 1 ≤ i ∧ i < p + 1 + ys.length
  · rw [if_pos h1, if_pos (by simp; omega), show i - p = (i - (p + 1)) + 1 by omega, List.getElem?_cons_succ]
  · rw [if_neg h1]
    by_cases e : i = p
    · subst e
      rw [List.getElem?_set_self (by omega), if_pos (by simp), Nat.sub_self]; rfl
    · rw [List.getElem?_set_ne (by omega), if_neg (by simp; omega)]
theorem MsS.keptG {G : Nat} {w wr : World} {v : Value} {ms : List (List UInt32)} {l : List Value} (h : MsS (· ≠ G) w v ms) (hG : Blk w G l 52) (k : Keeps (· = G) w wr) : MsS (· ≠ G) wr v ms := by
  obtain ⟨vals, h1, h3, h4⟩ := h
  refine ⟨vals, h1.kept k fun b hb e => ?_, h3, fun j m hj => ?_⟩
  · obtain ⟨lg, hlg⟩ := h1.blk hb
    exact hlg.ne hG (by decide) e
  · obtain ⟨B, q1, q2, q3⟩ := h4 j m hj
    exact ⟨B, q1, q2, q3.kept k q1⟩
theorem MsS.none (S : Nat → Prop) (w : World) : MsS S w (.slice none 0 0) [] := ⟨[], .inl ⟨rfl, rfl⟩, rfl, fun j m h => (by cases h)⟩

set_option maxRecDepth 20000 in
set_option maxHeartbeats 2000000 in
theorem layStage_any (G M c p n d : Nat) (F : Int) (X : Int) (xs : List UInt32) (v : Value) (r : Rw) (w : World) (hB : Blk w G (wvs xs) 52) (hM : M = xs.length) (hm : M ≤ 256) (hv : MsS (· ≠ G) w v r.ms) (hl : ∀ m ∈ r.ms, m.length ≤ n) (hd : 1 ≤ d ∧ d ≤ 8) (hn : n ≤ 16) (hq : p + rsz 1 n d ≤ M) (hms : r.ms.length ≤ d) (hr : r.f = 0) :
    Calls Try.prog 56 #[.slice (some ⟨G, 0, none⟩) M c, .int .i64 p, .int .i64 n, .int .i64 d, .agg #[.int .i64 F, v, .int .u32 X]] w fun e w' => e = .returned (.tuple #[]) ∧ Blk w' G (wvs (lay xs p (enc 1 n d r))) 52 ∧ Keeps (· = G) w w' := by
  obtain ⟨a, cv, rfl, hcv, hlv⟩ := hv.form
  rw [rsz_nat] at hq
  obtain ⟨L, hL⟩ : ∃ L, L = r.ms.length := ⟨_, rfl⟩
  rw [← hL] at hlv ⊢
  have x8 : (UInt32.ofNat L).toNat = L := ofNat_small (by omega)
  obtain ⟨W1, hW1⟩ : ∃ W1, W1 = w.alloc (.cells #[.int .i64 F, .slice a L cv, .int .u32 X] 92) := ⟨_, rfl⟩
  obtain ⟨O, hO⟩ : ∃ O, O = w.heap.size := ⟨_, rfl⟩
  have hk1 : Keeps (fun _ => False) w W1 := by rw [hW1]; exact (Keeps.refl _ w).alloc _
  have hO1 : Blk W1 O [.int .i64 F, .slice a L cv, .int .u32 X] 92 := by rw [hO, hW1]; exact Blk.new w _ 92
  have hG1 := hB.kept hk1 fun e => e
  have hGO : O ≠ G := hO1.ne hG1 (by decide)
  have ks : Keeps (· = G) W1 (W1.setCell ⟨G, p, none⟩ (.int .u32 L)) := (Keeps.refl _ W1).setCell _ _ fun _ => rfl
  have hO2 := hO1.kept ks hGO
  have hG2 := hG1.setCell p (.int .u32 L)
  have e2 : (wvs xs).set p (.int .u32 L) = wvs (xs.set p (UInt32.ofNat L)) := by rw [wvs_setm, x8]
  rw [e2] at hG2
  have kw : Keeps (· = G) w (W1.setCell ⟨G, p, none⟩ (.int .u32 L)) := hk1.none.trans ks fun _ _ e => e
  have hv2 := hv.keptG hB kw
  rw [← hL] at hv2
  have HC := rrlay_any G M c (p + 1) n d 0 (xs.set p (UInt32.ofNat L)) (.slice a L cv) r.ms _ hG2 (by rw [List.length_set]; exact hM) hm hv2 hl hd hn (by omega) (by omega) hms
  have e3 : lay (xs.set p (UInt32.ofNat L)) (p + 1) (flat (plsW n d 0 r.ms)) = lay xs p (enc 1 n d r) := by
    rw [lay_cons _ _ _ _ (by rw [flat_len hl]; omega), hL]
    unfold enc hdW
    rw [if_pos rfl, hr]; rfl
  rw [e3] at HC
  have HC : Hid (Calls Try.prog 68 #[.slice (some ⟨G, 0, none⟩) M c, .int .i64 ((p : Int) + 1), .int .i64 n, .int .i64 d, .int .i64 0, .slice a L cv] (W1.setCell ⟨G, p, none⟩ (.int .u32 L)) fun e w' => e = .returned (.tuple #[]) ∧ Blk w' G (wvs (lay xs p (enc 1 n d r))) 52 ∧ Keeps (· = G) (W1.setCell ⟨G, p, none⟩ (.int .u32 L)) w') := HC
  have HK : Hid (Keeps (· = G) w (W1.setCell ⟨G, p, none⟩ (.int .u32 L))) := kw
  obtain ⟨Z, hZ⟩ : ∃ Z, Z = wvs (lay xs p (enc 1 n d r)) := ⟨_, rfl⟩
  rw [← hZ] at HC ⊢
  have cu := hG1.cell (wvs_wd (l := xs) (i := p) (by omega))
  have fu := hG1.frozen p
  obtain ⟨u, hu⟩ : ∃ u : Nat, u = (wd xs p).toNat := ⟨_, rfl⟩
  rw [← hu] at cu
  have t1 := hO1.cell (i := 1) rfl
  have t2 := hO2.cell (i := 1) rfl
  have HW : Hid (W1 = w.alloc (.cells #[.int .i64 F, .slice a L cv, .int .u32 X] 92) ∧ O = w.heap.size) := ⟨hW1, hO⟩
  have y1 : (p : Int) < (M : Int) := by omega
  have y2 : (M : Int) ≤ 256 := by omega
  have y3 : (L : Int) ≤ 8 := by omega
  have hmod : (L : Int) % 4294967296 = (L : Int) := by omega
  rw [hW1] at cu fu t1 t2 HC HK
  rw [hO] at t1 t2
  clear hB hM hv hl hlv hL hms hr x8 hk1 hO1 hG1 hGO ks hO2 hG2 e2 kw hv2 e3 hZ hu HW hW1 hO
  go_enter Try.func56, Try.ntmps56
  go_wp2_with fail
  refine HC.out.mono ?_
  rintro e w2 ⟨rfl, hb, hk⟩
  have HF : Hid (Blk w2 G Z 52 ∧ Keeps (· = G) w w2) := ⟨hb, HK.out.trans hk fun _ _ e => e⟩
  clear hb hk HC HK
  go_wp2
  go_end0
  exact ⟨rfl, HF.out⟩

end Go.Proofs.Ytekijhhpldnmnaa
namespace Go.Proofs.Ytekijhhpldnmnaa
open Go.RowKit
set_option linter.unusedVariables false
set_option linter.unusedSimpArgs false

/-- The head of a port, then its places. -/
theorem port_words {G M c p n d F0 X : Nat} {xs : List UInt32} {a : Option Addr} {L cv O : Nat} {r : Rw} {w W1 : World} {l3 : List Value} (hX : X = r.lost.toNat) (hF : F0 = r.f) (hf : F0 < d) (hL : L = r.ms.length) (hB : Blk w G (wvs xs) 52) (hk1 : Keeps (fun _ => False) w W1) (hO1 : Blk W1 O l3 92) (hM : M = xs.length) (hm : M ≤ 256) (hv : MsS (· ≠ G) w (.slice a L cv) r.ms) (hl : ∀ m ∈ r.ms, m.length ≤ n) (hd : 1 ≤ d ∧ d ≤ 8) (hn : n ≤ 16) (hq : p + rsz 3 n d ≤ M) (hms : r.ms.length ≤ d) :
    ∃ W2 W3 W4, W2 = W1.setCell ⟨G, p, none⟩ (.int .u32 F0) ∧ W3 = W2.setCell ⟨G, p + 1, none⟩ (.int .u32 L) ∧ W4 = W3.setCell ⟨G, p + 2, none⟩ (.int .u32 X) ∧
      ((∃ u : Nat, W1.cell? ⟨G, p, none⟩ = some (.int .u32 u)) ∧ (∃ u : Nat, W2.cell? ⟨G, p + 1, none⟩ = some (.int .u32 u)) ∧ ∃ u : Nat, W3.cell? ⟨G, p + 2, none⟩ = some (.int .u32 u)) ∧
      (W1.frozen? ⟨G, p, none⟩ = false ∧ W2.frozen? ⟨G, p + 1, none⟩ = false ∧ W3.frozen? ⟨G, p + 2, none⟩ = false) ∧ Blk W2 O l3 92 ∧ Blk W3 O l3 92 ∧ Blk W4 O l3 92 ∧ Keeps (· = G) w W4 ∧
      Calls Try.prog 68 #[.slice (some ⟨G, 0, none⟩) M c, .int .i64 ((p : Int) + 3), .int .i64 n, .int .i64 d, .int .i64 F0, .slice a L cv] W4 fun e w' => e = .returned (.tuple #[]) ∧ Blk w' G (wvs (lay xs p (enc 3 n d r))) 52 ∧ Keeps (· = G) W4 w' := by
  rw [rsz_nat] at hq
  have x8 : (UInt32.ofNat L).toNat = L := ofNat_small (by omega)
  have x9 : (UInt32.ofNat F0).toNat = F0 := ofNat_small (by omega)
  have hG1 := hB.kept hk1 fun e => e
  have hGO : O ≠ G := hO1.ne hG1 (by decide)
  have s1 : Keeps (· = G) W1 (W1.setCell ⟨G, p, none⟩ (.int .u32 F0)) := (Keeps.refl _ W1).setCell _ _ fun _ => rfl
  have b1 := hG1.setCell p (.int .u32 F0)
  have e1 : (wvs xs).set p (.int .u32 F0) = wvs (xs.set p (UInt32.ofNat F0)) := by rw [wvs_setm, x9]
  rw [e1] at b1
  obtain ⟨W2, hW2⟩ : ∃ W2, W2 = W1.setCell ⟨G, p, none⟩ (.int .u32 F0) := ⟨_, rfl⟩
  rw [← hW2] at s1 b1
  have s2 : Keeps (· = G) W2 (W2.setCell ⟨G, p + 1, none⟩ (.int .u32 L)) := (Keeps.refl _ W2).setCell _ _ fun _ => rfl
  have b2 := b1.setCell (p + 1) (.int .u32 L)
  have e2 : (wvs (xs.set p (UInt32.ofNat F0))).set (p + 1) (.int .u32 L) = wvs ((xs.set p (UInt32.ofNat F0)).set (p + 1) (UInt32.ofNat L)) := by rw [wvs_setm _ _ (UInt32.ofNat L), x8]
  rw [e2] at b2
  obtain ⟨W3, hW3⟩ : ∃ W3, W3 = W2.setCell ⟨G, p + 1, none⟩ (.int .u32 L) := ⟨_, rfl⟩
  rw [← hW3] at s2 b2
  have s3 : Keeps (· = G) W3 (W3.setCell ⟨G, p + 2, none⟩ (.int .u32 X)) := (Keeps.refl _ W3).setCell _ _ fun _ => rfl
  have b3 := b2.setCell (p + 2) (.int .u32 X)
  have e3 : (wvs ((xs.set p (UInt32.ofNat F0)).set (p + 1) (UInt32.ofNat L))).set (p + 2) (.int .u32 X) = wvs (((xs.set p (UInt32.ofNat F0)).set (p + 1) (UInt32.ofNat L)).set (p + 2) r.lost) := by rw [wvs_setm _ _ r.lost, hX]
  rw [e3] at b3
  obtain ⟨W4, hW4⟩ : ∃ W4, W4 = W3.setCell ⟨G, p + 2, none⟩ (.int .u32 X) := ⟨_, rfl⟩
  rw [← hW4] at s3 b3
  have kw : Keeps (· = G) w W4 := ((hk1.none.trans s1 fun _ _ e => e).trans s2 fun _ _ e => e).trans s3 fun _ _ e => e
  have hv2 := hv.keptG hB kw
  have hlen : (((xs.set p (UInt32.ofNat F0)).set (p + 1) (UInt32.ofNat L)).set (p + 2) r.lost).length = xs.length := by simp
  have HC := rrlay_any G M c (p + 3) n d F0 (((xs.set p (UInt32.ofNat F0)).set (p + 1) (UInt32.ofNat L)).set (p + 2) r.lost) (.slice a L cv) r.ms _ b3 (by rw [hlen]; exact hM) hm hv2 hl hd hn hf (by omega) hms
  have hfl := flat_len (d := d) (f := F0) hl
  have e4 : lay (((xs.set p (UInt32.ofNat F0)).set (p + 1) (UInt32.ofNat L)).set (p + 2) r.lost) (p + 3) (flat (plsW n d F0 r.ms)) = lay xs p (enc 3 n d r) := by
    rw [lay_cons _ (p + 2) _ _ (by simp; omega), lay_cons _ (p + 1) _ _ (by simp; omega), lay_cons _ p _ _ (by simp; omega), hL, hF]
    unfold enc hdW
    rw [if_neg (by decide)]; rfl
  rw [e4] at HC
  have l1 : (xs.set p (UInt32.ofNat F0)).length = xs.length := by simp
  have l2 : ((xs.set p (UInt32.ofNat F0)).set (p + 1) (UInt32.ofNat L)).length = xs.length := by simp
  exact ⟨W2, W3, W4, hW2, hW3, hW4, ⟨⟨_, hG1.cell (wvs_wd (l := xs) (by omega))⟩, ⟨_, b1.cell (wvs_wd (by omega))⟩, _, b2.cell (wvs_wd (by omega))⟩, ⟨hG1.frozen _, b1.frozen _, b2.frozen _⟩, hO1.kept s1 hGO, (hO1.kept s1 hGO).kept s2 hGO, ((hO1.kept s1 hGO).kept s2 hGO).kept s3 hGO, kw, HC⟩

end Go.Proofs.Ytekijhhpldnmnaa
