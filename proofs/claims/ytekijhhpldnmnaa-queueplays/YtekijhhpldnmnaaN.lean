import Derived.Test.YtekijhhpldnmnaaM
namespace Go.Proofs.Ytekijhhpldnmnaa
open Go.RowKit
set_option linter.unusedVariables false
set_option linter.unusedSimpArgs false

abbrev zc5 : Array Value := #[.int .i64 0, .int .i64 0, .int .i64 0, .int .i64 0, .slice none 0 0]

/-- Behind a block of a row that was made first. -/
theorem zrow_new (w : World) : ∃ W, W = w.alloc (.cells zc5 75) ∧ Keeps (fun _ => False) w W ∧ Blk W w.heap.size zc5.toList 75 :=
  ⟨_, rfl, (Keeps.refl _ w).alloc _, Blk.new w _ 75⟩
theorem fit_rsz {nil : Bool} {n d : Int} {h : Nat} (hh : h ≤ 3) (he : fitE nil n d = 0) : (rsz h n d : Int) = (h : Int) + d * (1 + n) ∧ rsz h n d ≤ 139 ∧ h + 2 ≤ rsz h n d := by
  obtain ⟨_, h1, h2, h3, h4⟩ := fit_ok he
  obtain ⟨n', rfl⟩ : ∃ k : Nat, n = k := ⟨n.toNat, by omega⟩
  obtain ⟨d', rfl⟩ : ∃ k : Nat, d = k := ⟨d.toNat, by omega⟩
  have e1 := Nat.mul_le_mul (show d' ≤ 8 by omega) (show 1 + n' ≤ 17 by omega)
  have e2 := Nat.mul_le_mul (show 1 ≤ d' by omega) (show 2 ≤ 1 + n' by omega)
  unfold rsz
  simp only [Int.toNat_natCast]
  refine ⟨by simp, by omega, by omega⟩

theorem row_set5 {w : World} {O : Nat} (h : Blk w O zc5.toList 75) (v0 v1 v2 v3 v4 : Value) : ∃ W, W = ((((w.setCell ⟨O, 0, none⟩ v0).setCell ⟨O, 1, none⟩ v1).setCell ⟨O, 2, none⟩ v2).setCell ⟨O, 3, none⟩ v3).setCell ⟨O, 4, none⟩ v4 ∧ Blk W O [v0, v1, v2, v3, v4] 75 ∧ Keeps (· = O) w W := by
  have k0 := (Keeps.refl (· = O) w).setCell ⟨O, 0, none⟩ v0 fun _ => rfl
  have k1 := k0.setCell ⟨O, 1, none⟩ v1 fun _ => rfl
  have k2 := k1.setCell ⟨O, 2, none⟩ v2 fun _ => rfl
  have k3 := k2.setCell ⟨O, 3, none⟩ v3 fun _ => rfl
  have k4 := k3.setCell ⟨O, 4, none⟩ v4 fun _ => rfl
  exact ⟨_, rfl, ((((h.setCell 0 v0).setCell 1 v1).setCell 2 v2).setCell 3 v3).setCell 4 v4, k4⟩

set_option maxRecDepth 20000 in
set_option maxHeartbeats 1000000 in
theorem take_away (b g : Nat) (xs : List UInt32) (p : Int) (h n d : Nat) (w : World) (hm : Mm w b g xs) (hh : h ≤ 3) (he : fitE false n d = 0) (ho : ¬ (0 ≤ p ∧ p + (rsz h n d : Int) ≤ xs.length)) (hp : p ≤ 9223372036854775807) :
    Calls Try.prog 44 #[.pointer (some ⟨b, 0, none⟩), .int .i64 p, .int .i64 h, .int .i64 n, .int .i64 d] w fun e w' => e = .returned (.tuple #[rw0, .int .i64 51]) ∧ Keeps (fun _ => False) w w' := by
  obtain ⟨W, hW, hK, hB⟩ := zrow_new w
  have HC := fits_any false b n d W
  rw [he] at HC
  have HC : Hid (Calls Try.prog 38 #[.pointer (some ⟨b, 0, none⟩), .int .i64 n, .int .i64 d] W fun e w' => e = .returned (.int .i64 0) ∧ w' = W) := HC
  obtain ⟨r1, r2, r3⟩ := fit_rsz hh he
  obtain ⟨_, f1, f2, f3, f4⟩ := fit_ok he
  have HT : Hid (Calls _ _ _ _ _) := take_out b g xs p (rsz h n d) W (hm.kept hK (fun e => e) (fun e => e)) (by omega) hp
  obtain ⟨M, hM⟩ : ∃ M, M = rsz h n d := ⟨_, rfl⟩
  obtain ⟨P, hP⟩ : ∃ P, P = (d : Int) * (1 + (n : Int)) := ⟨_, rfl⟩
  rw [← hM] at HT r1 r2
  rw [← hP] at r1
  have x1 : (d : Int) * (1 + (n : Int)) = P := hP.symm
  have x2 : (h : Int) + P = (M : Int) := r1.symm
  have x3 : (M : Int) ≤ 139 := by omega
  have x4 : 0 ≤ P := by rw [hP]; exact Int.mul_nonneg (by omega) (by omega)
  have x5 : (h : Int) ≤ 3 := by omega
  have HW : Hid (W = _ ∧ Keeps (fun _ => False) w W) := ⟨hW, hK⟩
  clear hM hP r1 r2 r3 hK hB hm ho he hp hh hW
  go_enter Try.func44, Try.ntmps44
  go_wp2_with fail
  rw [← HW.out.1]
  refine HC.out.mono ?_
  rintro e w1 ⟨rfl, hw⟩
  obtain rfl := hw.symm
  clear hw HC
  go_wp2_with fail
  refine HT.out.mono ?_
  rintro e w1 ⟨rfl, hw⟩
  obtain rfl := hw.symm
  clear hw HT
  rw [HW.out.1]
  go_wp2
  go_returns
  exact ⟨rfl, HW.out.1 ▸ HW.out.2⟩

set_option maxRecDepth 20000 in
set_option maxHeartbeats 1000000 in
theorem take_ok (b g : Nat) (xs : List UInt32) (p : Nat) (h n d : Nat) (w : World) (hm : Mm w b g xs) (hh : h = 1 ∨ h = 3) (he : fitE false n d = 0) (ho : p + rsz h n d ≤ xs.length) :
    Calls Try.prog 44 #[.pointer (some ⟨b, 0, none⟩), .int .i64 p, .int .i64 h, .int .i64 n, .int .i64 d] w fun e w' => ∃ G, w.heap.size ≤ G ∧ e = .returned (.tuple #[rwv p h n d G (rsz h n d), .int .i64 0]) ∧ Rb w' G h n d (win xs p (rsz h n d)) ∧ Keeps (fun _ => False) w w' := by
  obtain ⟨W, hW, hK, hB⟩ := zrow_new w
  have HC := fits_any false b n d W
  rw [he] at HC
  have HC : Hid (Calls Try.prog 38 #[.pointer (some ⟨b, 0, none⟩), .int .i64 n, .int .i64 d] W fun e w' => e = .returned (.int .i64 0) ∧ w' = W) := HC
  obtain ⟨r1, r2, r3⟩ := fit_rsz (h := h) (by omega) he
  obtain ⟨_, f1, f2, f3, f4⟩ := fit_ok he
  have HT : Hid (Calls _ _ _ _ _) := take_in b g xs p (rsz h n d) W (hm.kept hK (fun e => e) (fun e => e)) ho
  have hrl : (win xs p (rsz h n d)).length = h + d * (1 + n) := by rw [win_length _ _ _ ho]; rfl
  have HR : Hid (∀ w', Blk w' W.heap.size (wvs (win xs p (rsz h n d))) 52 → Rb w' W.heap.size h n d (win xs p (rsz h n d))) := fun w' hb => ⟨hb, hrl, hh, by omega, by omega, by omega, by omega⟩
  obtain ⟨M, hM⟩ : ∃ M, M = rsz h n d := ⟨_, rfl⟩
  obtain ⟨P, hP⟩ : ∃ P, P = (d : Int) * (1 + (n : Int)) := ⟨_, rfl⟩
  rw [← hM] at HT r1 r2 HR ⊢
  rw [← hP] at r1
  have x1 : (d : Int) * (1 + (n : Int)) = P := hP.symm
  have x2 : (h : Int) + P = (M : Int) := r1.symm
  have x3 : (M : Int) ≤ 139 := by omega
  have x4 : 0 ≤ P := by rw [hP]; exact Int.mul_nonneg (by omega) (by omega)
  have x5 : (h : Int) ≤ 3 := by omega
  have hsz : W.heap.size = w.heap.size + 1 := by rw [hW]; simp
  obtain ⟨O, hO⟩ : ∃ O, O = w.heap.size := ⟨_, rfl⟩
  obtain ⟨G, hG⟩ : ∃ G, G = W.heap.size := ⟨_, rfl⟩
  have HS : Hid (∀ w2, Keeps (fun _ => False) W w2 → Blk w2 O zc5.toList 75) := fun w2 k => by rw [hO]; exact hB.kept k fun e => e
  rw [← hG] at HR HT
  have HW : Hid (W = _ ∧ Keeps (fun _ => False) w W ∧ O = w.heap.size ∧ G = w.heap.size + 1) := ⟨hW, hK, hO, by omega⟩
  clear hM hP r1 r2 r3 hK hB hm ho he hh hrl hsz hW hO hG
  go_enter Try.func44, Try.ntmps44
  go_wp2_with fail
  rw [← HW.out.1, ← HW.out.2.2.1]
  refine HC.out.mono ?_
  rintro e w1 ⟨rfl, hw⟩
  obtain rfl := hw.symm
  clear hw HC
  go_wp2_with fail
  refine HT.out.mono ?_
  rintro e w2 ⟨rfl, hB2, hk2⟩
  have q := HS.out w2 hk2
  have c0 : w2.cell? ⟨O, 0, none⟩ = some (.int .i64 0) := q.cell rfl
  have c1 : w2.cell? ⟨O, 1, none⟩ = some (.int .i64 0) := q.cell rfl
  have c2 : w2.cell? ⟨O, 2, none⟩ = some (.int .i64 0) := q.cell rfl
  have c3 : w2.cell? ⟨O, 3, none⟩ = some (.int .i64 0) := q.cell rfl
  have c4 : w2.cell? ⟨O, 4, none⟩ = some (.slice none 0 0) := q.cell rfl
  have HQ : Hid (Blk w2 O zc5.toList 75) := q
  have z0 := q.frozen 0
  have z1 := q.frozen 1
  have z2 := q.frozen 2
  have z3 := q.frozen 3
  have z4 := q.frozen 4
  have HB2 : Hid (Blk _ _ _ _ ∧ Keeps _ _ _) := ⟨hB2, hk2⟩
  clear hB2 hk2 q HT HS
  go_wp2
  obtain ⟨W6, hW6, hB6, hk6⟩ := row_set5 HQ.out (.int .i64 p) (.int .i64 h) (.int .i64 n) (.int .i64 d) (.slice (some ⟨G, 0, none⟩) M M)
  rw [← hW6]
  have d0 := hB6.cell (i := 0) rfl
  have d1 := hB6.cell (i := 1) rfl
  have d2 := hB6.cell (i := 2) rfl
  have d3 := hB6.cell (i := 3) rfl
  have d4 := hB6.cell (i := 4) rfl
  refine bodyPost_ret (by simp [results, Try.results44, go_sem, d0, d1, d2, d3, d4]; try rfl) rfl ?_
  have hOG : O ≠ G := by have := HW.out; omega
  refine ⟨G, by have := HW.out.2.2.2; omega, rfl, HR.out _ (HB2.out.1.kept hk6 fun e => hOG e.symm), ?_⟩
  exact (HW.out.2.1.trans HB2.out.2 fun _ _ e => e).trans hk6 fun b hb e => by have := HW.out.2.2.1; omega

/-- A row that is taken out of the memory, or why not. -/
theorem take_no (nil : Bool) (b g : Nat) (xs : List UInt32) (p : Int) (h : Nat) (n d : Int) (w : World) (hm : nil = false → Mm w b g xs) (hh : h ≤ 3) (hp : p ≤ 9223372036854775807) (he : tkE nil xs.length p h n d ≠ 0) :
    Calls Try.prog 44 #[mpv nil b, .int .i64 p, .int .i64 h, .int .i64 n, .int .i64 d] w fun e w' => e = .returned (.tuple #[rw0, .int .i64 (tkE nil xs.length p h n d)]) ∧ Keeps (fun _ => False) w w' := by
  unfold tkE at *
  by_cases hf : fitE nil n d ≠ 0
  · rw [if_pos hf]
    exact take_fit nil b p h n d w hf
  · have hf : fitE nil n d = 0 := Classical.byContradiction hf
    rw [if_neg (fun e => e hf)] at he ⊢
    obtain ⟨rfl, f1, f2, f3, f4⟩ := fit_ok hf
    obtain ⟨n', rfl⟩ : ∃ k : Nat, n = k := ⟨n.toNat, by omega⟩
    obtain ⟨d', rfl⟩ : ∃ k : Nat, d = k := ⟨d.toNat, by omega⟩
    by_cases h2 : 0 ≤ p ∧ p + (rsz h n' d' : Int) ≤ xs.length
    · rw [if_pos h2] at he; exact absurd rfl he
    · rw [if_neg h2]
      exact take_away b g xs p h n' d' w (hm rfl) hh hf h2 hp
theorem tkE_ok {nil : Bool} {N : Nat} {p : Int} {h : Nat} {n d : Int} (e : tkE nil N p h n d = 0) : fitE nil n d = 0 ∧ nil = false ∧ 1 ≤ n ∧ n ≤ 16 ∧ 1 ≤ d ∧ d ≤ 8 ∧ 0 ≤ p ∧ p + (rsz h n d : Int) ≤ N := by
  unfold tkE at e
  by_cases hf : fitE nil n d ≠ 0
  · rw [if_pos hf] at e; exact absurd e hf
  · have hf : fitE nil n d = 0 := Classical.byContradiction hf
    rw [if_neg (fun e => e hf)] at e
    obtain ⟨h0, f1, f2, f3, f4⟩ := fit_ok hf
    by_cases h2 : 0 ≤ p ∧ p + (rsz h n d : Int) ≤ N
    · exact ⟨hf, h0, f1, f2, f3, f4, h2.1, h2.2⟩
    · rw [if_neg h2] at e; omega

end Go.Proofs.Ytekijhhpldnmnaa
