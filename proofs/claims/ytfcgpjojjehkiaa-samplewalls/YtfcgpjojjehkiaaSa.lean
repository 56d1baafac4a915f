import Derived.Test.YtfcgpjojjehkiaaRn
import Derived.Test.YtfcgpjojjehkiaaIn
import Derived.Test.YtfcgpjojjehkiaaAd
namespace Go.Proofs.Ytfcgpjojjehkiaa
open Go.RowKit
set_option linter.unusedVariables false
set_option linter.unusedSimpArgs false

def wrE (nil : Bool) (xs : List UInt32) (p : Int) : Int := if nil then 3 else if 0 ≤ p ∧ p < xs.length then 0 else 51
def wrX (nil : Bool) (xs : List UInt32) (p : Int) (x : UInt32) : List UInt32 := if nil then xs else if 0 ≤ p ∧ p < xs.length then lay xs p.toNat [x] else xs

set_option maxHeartbeats 400000 in
theorem write_nil (p : Int) (v : Value) (w : World) : Calls Try.prog 27 #[.pointer none, .int .i64 p, v] w fun e w' => e = .returned (.int .i64 3) ∧ w' = w := by
  have HC : Hid (Calls _ _ _ _ _) := run_nil p 1 w
  go_enter Try.func27, Try.ntmps27
  go_wp2_with fail
  refine HC.out.mono ?_
  rintro e w1 ⟨rfl, hw⟩
  obtain rfl := hw.symm
  clear hw HC
  go_wp2
  go_ret
  exact ⟨rfl, rfl⟩
set_option maxHeartbeats 400000 in
theorem rwrite_nil (p : Int) (v : Value) (w : World) : Calls Try.prog 32 #[.pointer none, .int .i64 p, v] w fun e w' => e = .returned (.int .i64 3) ∧ w' = w := by
  go_enter Try.func32, Try.ntmps32
  go_wp2
  go_ret
  exact ⟨rfl, rfl⟩
theorem write_any (nil : Bool) (b g : Nat) (xs : List UInt32) (p : Int) (x : UInt32) (w : World) (h : Mm w b g xs) (hp : p ≤ 9223372036854775807) :
    Calls Try.prog 27 #[mpv nil b, .int .i64 p, .int .u32 (x.toNat : Int)] w (PutP w b g xs (wrE nil xs p) (wrX nil xs p x)) := by
  unfold wrE wrX
  cases nil
  · simp only [Bool.false_eq_true, if_false]
    by_cases hf : 0 ≤ p ∧ p < xs.length
    · rw [if_pos hf, if_pos hf]
      have h1 := write_in b g xs p.toNat x w h (by omega)
      have e : ((p.toNat : Nat) : Int) = p := by omega
      rw [e] at h1
      exact h1
    · rw [if_neg hf, if_neg hf]
      refine (write_out b g xs p x.toNat w h hf hp).mono ?_
      rintro e w' ⟨rfl, rfl⟩
      exact ⟨rfl, h, Keeps.refl _ _⟩
  · refine (write_nil p _ w).mono ?_
    rintro e w' ⟨rfl, rfl⟩
    exact ⟨rfl, h, Keeps.refl _ _⟩
theorem rwrite_any (nil : Bool) (b g : Nat) (xs : List UInt32) (p : Int) (x : UInt32) (w : World) (h : Rm w b g xs) (hp1 : -9223372036854775808 ≤ p) (hp2 : p ≤ 9223372036854775807) :
    Calls Try.prog 32 #[mpv nil b, .int .i64 p, .int .u32 (x.toNat : Int)] w (PutR w b g (wrE nil xs p) (wrX nil xs p x)) := by
  unfold wrE wrX
  cases nil
  · simp only [Bool.false_eq_true, if_false]
    by_cases hf : 0 ≤ p ∧ p < xs.length
    · rw [if_pos hf, if_pos hf]
      have h1 := rwrite_in b g xs p.toNat x w h (by omega)
      have e : ((p.toNat : Nat) : Int) = p := by omega
      rw [e] at h1
      exact h1
    · rw [if_neg hf, if_neg hf]
      refine (rwrite_out b g xs p x.toNat w h hp1 hp2 hf).mono ?_
      rintro e w' ⟨rfl, rfl⟩
      exact ⟨rfl, h, Keeps.refl _ _⟩
  · refine (rwrite_nil p _ w).mono ?_
    rintro e w' ⟨rfl, rfl⟩
    exact ⟨rfl, h, Keeps.refl _ _⟩

/-- Both memories, alike. -/
structure Duo (w : World) (b g rb rg : Nat) (xs : List UInt32) : Prop where
  mm : Mm w b g xs
  rm : Rm w rb rg xs
  s1 : g ≠ rb
  s2 : g ≠ rg
  s3 : rg ≠ b
theorem Duo.grown {w w' : World} {b g rb rg : Nat} {xs : List UInt32} (h : Duo w b g rb rg xs) (k : Keeps (fun _ => False) w w') : Duo w' b g rb rg xs :=
  ⟨h.mm.kept k (fun e => e) (fun e => e), h.rm.grown k, h.s1, h.s2, h.s3⟩
theorem Duo.both {w w1 w2 : World} {b g rb rg : Nat} {xs ys : List UInt32} (h : Duo w b g rb rg xs) (h1 : Mm w1 b g ys) (h2 : Rm w2 rb rg ys) (k2 : Keeps (· = rg) w1 w2) : Duo w2 b g rb rg ys :=
  ⟨h1.kept k2 (fun e => h.s3 e.symm) h.s2, h2, h.s1, h.s2, h.s3⟩
theorem Duo.rm1 {w w1 : World} {b g rb rg : Nat} {xs : List UInt32} (h : Duo w b g rb rg xs) (k1 : Keeps (· = g) w w1) : Rm w1 rb rg xs := h.rm.kept k1 (fun e => h.s1 e.symm) (fun e => h.s2 e.symm)

/-- What a call on both leaves. -/
def OneP (w0 w : World) (b g rb rg : Nat) (ys : List UInt32) (e : Ending) (w' : World) : Prop := e = .returned (.bool true) ∧ Duo w' b g rb rg ys ∧ Keeps (fun _ => False) w0 w' ∧ Keeps (fun k => k = g ∨ k = rg) w w'

theorem seg_lt {w : World} {a : Option Addr} {ks : List Int} (h : SegI w a ks) (h0 : ks ≠ []) : ∀ x, a = some x → x.block < w.heap.size := by
  rcases h with h | ⟨g, o, rfl, hc⟩
  · exact absurd h h0
  · intro x e
    cases e
    have : 0 < ks.length := by have : ks.length ≠ 0 := fun x => h0 (List.eq_nil_of_length_eq_zero x); omega
    exact World.block_lt_of_cell? w _ (hc 0 this)

set_option maxRecDepth 20000 in
set_option maxHeartbeats 2000000 in
theorem one_0f (w0 : World) (b g rb rg : Nat) (xs : List UInt32) (o : Opn) (w : World) (hD : Duo w b g rb rg xs) (hk : Keeps (fun _ => False) w0 w) (hok : o.Ok w0) (hg : w0.heap.size ≤ g) (hrg : w0.heap.size ≤ rg) (hl : o.ms.length ≤ 2147483647 ∧ o.ps.length ≤ 2147483647) (hK : o.k = 0) (hN : o.nil = false) :
    Calls Try.prog 11 #[.pointer (some ⟨b, 0, none⟩), .pointer (some ⟨rb, 0, none⟩), o.v] w (OneP w0 w b g rb rg (putX false xs o.p o.n o.ms)) := by
  obtain ⟨k, p, n, ma, mc, ms, pa, pc, ps, x, nl⟩ := o
  obtain ⟨⟨op1, op2⟩, ⟨on1, on2⟩, ⟨oml1, oml2⟩, oms, ⟨opl1, opl2⟩, ops, opt⟩ := hok
  simp only at *
  subst hN
  subst hK
  obtain ⟨W0, hW0⟩ : ∃ W0, W0 = w.alloc (.cells #[.int .i64 0, .int .i64 p, .int .i64 n, .slice ma ms.length mc, .slice pa ps.length pc, .int .u32 (x.toNat : Int), .bool false] 36) := ⟨_, rfl⟩
  have hB0 : Blk W0 w.heap.size [.int .i64 0, .int .i64 p, .int .i64 n, .slice ma ms.length mc, .slice pa ps.length pc, .int .u32 (x.toNat : Int), .bool false] 36 := by rw [hW0]; exact Blk.new w _ 36
  have hk0 : Keeps (fun _ => False) w W0 := by rw [hW0]; exact (Keeps.refl _ w).alloc _
  have hD0 := hD.grown hk0
  have hkw := hk.trans hk0 fun _ _ e => e
  obtain ⟨O, hO⟩ : ∃ O, O = w.heap.size := ⟨_, rfl⟩
  rw [← hO] at hB0
  have hOg : ¬ O = g := by have := hD.mm.row.lt; omega
  have hOr : ¬ O = rg := by have := hD.rm.ltg; omega
  have HW21 : Hid (∀ W, Keeps (fun _ => False) w0 W → Calls Try.prog 21 #[.slice ma ms.length mc] W fun e w' => e = .returned (.slice (some ⟨W.heap.size, 0, none⟩) ms.length (ms.length + 70)) ∧ Blk w' W.heap.size (fW (ms.length + 70) (spareW ms)) 34 ∧ Keeps (fun _ => False) W w') := fun W kk => handW_any ma ms.length mc ms W (oms.kept kk (fun _ _ e => e)) rfl hl.1
  have hhead : ∀ W B, Blk W B (fW (ms.length + 70) (spareW ms)) 34 → SegW W (some ⟨B, 0, none⟩) ms := fun W B hB => by
    refine .inr ⟨B, 0, rfl, fun i hi => ?_⟩
    have := hB.cell (fW_get (spareW ms) (i := i) (by omega))
    rw [Nat.zero_add, this]
    simp [spareW, hi]
  have HPt : Hid (∀ W B, Mm W b g xs → Blk W B (fW (ms.length + 70) (spareW ms)) 34 → Calls Try.prog 17 #[.pointer (some ⟨b, 0, none⟩), .int .i64 p, .int .i64 n, .slice (some ⟨B, 0, none⟩) ms.length (ms.length + 70)] W (PutP W b g xs (putE false xs p n ms.length) (putX false xs p n ms))) := fun W B hM hB => put_any false b g xs p n (some ⟨B, 0, none⟩) (ms.length + 70) ms W hM (hhead W B hB) op2
  have HKp : Hid (∀ W B, Keeps (fun _ => False) w0 W → Blk W B (fW (ms.length + 70) (spareW ms)) 34 → Calls Try.prog 22 #[.slice (some ⟨B, 0, none⟩) ms.length (ms.length + 70), .slice ma ms.length mc] W fun e w' => e = .returned (.bool true) ∧ w' = W) := fun W B kk hB => keptW_any B ma ms.length mc ms W hB (oms.kept kk (fun _ _ e => e)) rfl hl.1
  have HRp : Hid (∀ W, Keeps (fun _ => False) w0 W → Rm W rb rg xs → Calls Try.prog 29 #[.pointer (some ⟨rb, 0, none⟩), .int .i64 p, .int .i64 n, .slice ma ms.length mc] W (PutR W rb rg (putE false xs p n ms.length) (putX false xs p n ms))) := fun W kk hR => rput_any false rb rg xs p n ma mc ms W hR (oms.kept kk (fun _ _ e => e)) op1 op2
  obtain ⟨E, hE⟩ : ∃ E, E = putE false xs p n ms.length := ⟨_, rfl⟩
  rw [← hE] at HPt HRp
  obtain ⟨ys, hys⟩ : ∃ ys, ys = putX false xs p n ms := ⟨_, rfl⟩
  rw [← hys] at HPt HRp ⊢
  obtain ⟨Lm, hLm⟩ : ∃ L, L = ms.length := ⟨_, rfl⟩
  obtain ⟨Lp, hLp⟩ : ∃ L, L = ps.length := ⟨_, rfl⟩
  obtain ⟨X, hX⟩ : ∃ X : Nat, X = x.toNat := ⟨_, rfl⟩
  rw [← hLm, ← hLp, ← hX] at hB0 hW0
  rw [← hLm, ← hLp] at hl
  unfold Opn.v
  simp only
  rw [← hLm, ← hLp, ← hX]
  rw [← hLm] at HW21 HPt HKp HRp
  have l1 : ¬ (2147483647 : Int) < (Lm : Int) := by omega
  have l2 : ¬ (2147483647 : Int) < (Lp : Int) := by omega
  have HC : Hid (∀ W, (Keeps (fun _ => False) W0 W ∨ Keeps (fun k => k = g ∨ k = rg) W0 W) → W.cell? ⟨O, 1, none⟩ = some (.int .i64 p) ∧ W.cell? ⟨O, 2, none⟩ = some (.int .i64 n) ∧ W.cell? ⟨O, 3, none⟩ = some (.slice ma Lm mc) ∧ W.cell? ⟨O, 4, none⟩ = some (.slice pa Lp pc) ∧ W.cell? ⟨O, 5, none⟩ = some (.int .u32 (X : Int))) := fun W kk => by
    have hB : Blk W O [.int .i64 0, .int .i64 p, .int .i64 n, .slice ma Lm mc, .slice pa Lp pc, .int .u32 (X : Int), .bool false] 36 := by
      rcases kk with kk | kk
      · exact hB0.kept kk fun e => e
      · exact hB0.kept kk fun e => by rcases e with e | e; exact hOg e; exact hOr e
    exact ⟨hB.cell rfl, hB.cell rfl, hB.cell rfl, hB.cell rfl, hB.cell rfl⟩
  have HX : Hid (W0 = w.alloc (.cells #[.int .i64 0, .int .i64 p, .int .i64 n, .slice ma Lm mc, .slice pa Lp pc, .int .u32 (X : Int), .bool false] 36) ∧ O = w.heap.size ∧ Duo W0 b g rb rg xs ∧ Keeps (fun _ => False) w0 W0 ∧ w0.heap.size ≤ g ∧ w0.heap.size ≤ rg ∧ Keeps (fun k => k = g ∨ k = rg) w W0) := ⟨hW0, hO, hD0, hkw, hg, hrg, hk0.mono fun _ _ e => e.elim⟩
  clear hD hk op1 op2 on1 on2 oml1 oml2 oms opl1 opl2 ops opt hg hrg hl hW0 hB0 hk0 hD0 hkw hO hOg hOr hhead hE hys hLm hLp hX
  go_enter Try.func11, Try.ntmps11
  go_wp2_with fail
  rw [← HX.out.1, ← HX.out.2.1]
  refine (HW21.out W0 HX.out.2.2.2.1).mono ?_
  rintro e w1 ⟨rfl, hB1, hk1⟩
  obtain ⟨B, hB⟩ : ∃ B, B = W0.heap.size := ⟨_, rfl⟩
  rw [← hB] at hB1 ⊢
  have hBg : ¬ B = g := by have := HX.out.2.2.1.mm.row.lt; omega
  have H1 : Hid (Keeps (fun _ => False) W0 w1 ∧ Blk w1 B (fW (Lm + 70) (spareW ms)) 34 ∧ ¬ B = g) := ⟨hk1, hB1, hBg⟩
  have HP1 : Hid (Calls _ _ _ _ _) := HPt.out w1 B (HX.out.2.2.1.grown hk1).mm hB1
  obtain ⟨f1, f2, f3, f4, f5⟩ := HC.out w1 (.inl hk1)
  clear hB1 hk1 hB hBg HPt HW21
  go_wp2_with fail
  refine HP1.out.mono ?_
  rintro e w2 ⟨rfl, hM2, hk2⟩
  have hk02 : Keeps (fun k => k = g ∨ k = rg) W0 w2 := (H1.out.1.mono (T := fun k => k = g ∨ k = rg) fun _ _ e => e.elim).trans hk2 fun _ _ e => .inl e
  have hkw2 : Keeps (fun _ => False) w0 w2 := (HX.out.2.2.2.1.trans H1.out.1 fun _ _ e => e).trans hk2 fun b hb e => by have := HX.out.2.2.2.2.1; omega
  have H2 : Hid (Mm w2 b g ys ∧ Rm w2 rb rg xs ∧ Keeps (fun _ => False) w0 w2 ∧ Keeps (fun k => k = g ∨ k = rg) W0 w2) := ⟨hM2, (HX.out.2.2.1.grown H1.out.1).rm1 hk2, hkw2, hk02⟩
  have HK2 : Hid (Calls _ _ _ _ _) := HKp.out w2 B hkw2 (H1.out.2.1.kept hk2 H1.out.2.2)
  have HR2 : Hid (Calls _ _ _ _ _) := HRp.out w2 hkw2 H2.out.2.1
  clear f1 f2 f3 f4 f5
  obtain ⟨f1, f2, f3, f4, f5⟩ := HC.out w2 (.inr hk02)
  clear hM2 hk2 hk02 hkw2 HP1 HKp HRp HC
  go_wp2_with fail
  refine HK2.out.mono ?_
  rintro e w3 ⟨rfl, hw⟩
  obtain rfl := hw.symm
  clear hw HK2
  go_wp2_with fail
  refine HR2.out.mono ?_
  rintro e w4 ⟨rfl, hM4, hk4⟩
  have H4 : Hid (Duo w4 b g rb rg ys ∧ Keeps (fun _ => False) w0 w4 ∧ Keeps (fun k => k = g ∨ k = rg) w w4) := ⟨HX.out.2.2.1.both H2.out.1 hM4 hk4, H2.out.2.2.1.trans hk4 (fun b hb e => by have := HX.out.2.2.2.2.2.1; omega), (HX.out.2.2.2.2.2.2.trans H2.out.2.2.2 fun _ _ e => e).trans hk4 fun _ _ e => .inr e⟩
  clear hM4 hk4 HR2 f1 f2 f3 f4 f5
  go_wp2
  go_ret
  exact ⟨rfl, H4.out⟩

set_option maxRecDepth 20000 in
set_option maxHeartbeats 2000000 in
theorem one_0t (w0 : World) (b g rb rg : Nat) (xs : List UInt32) (o : Opn) (w : World) (hD : Duo w b g rb rg xs) (hk : Keeps (fun _ => False) w0 w) (hok : o.Ok w0) (hg : w0.heap.size ≤ g) (hrg : w0.heap.size ≤ rg) (hl : o.ms.length ≤ 2147483647 ∧ o.ps.length ≤ 2147483647) (hK : o.k = 0) (hN : o.nil = true) :
    Calls Try.prog 11 #[.pointer (some ⟨b, 0, none⟩), .pointer (some ⟨rb, 0, none⟩), o.v] w (OneP w0 w b g rb rg (putX true xs o.p o.n o.ms)) := by
  obtain ⟨k, p, n, ma, mc, ms, pa, pc, ps, x, nl⟩ := o
  obtain ⟨⟨op1, op2⟩, ⟨on1, on2⟩, ⟨oml1, oml2⟩, oms, ⟨opl1, opl2⟩, ops, opt⟩ := hok
  simp only at *
  subst hN
  subst hK
  obtain ⟨W0, hW0⟩ : ∃ W0, W0 = w.alloc (.cells #[.int .i64 0, .int .i64 p, .int .i64 n, .slice ma ms.length mc, .slice pa ps.length pc, .int .u32 (x.toNat : Int), .bool true] 36) := ⟨_, rfl⟩
  have hB0 : Blk W0 w.heap.size [.int .i64 0, .int .i64 p, .int .i64 n, .slice ma ms.length mc, .slice pa ps.length pc, .int .u32 (x.toNat : Int), .bool true] 36 := by rw [hW0]; exact Blk.new w _ 36
  have hk0 : Keeps (fun _ => False) w W0 := by rw [hW0]; exact (Keeps.refl _ w).alloc _
  have hD0 := hD.grown hk0
  have hkw := hk.trans hk0 fun _ _ e => e
  obtain ⟨O, hO⟩ : ∃ O, O = w.heap.size := ⟨_, rfl⟩
  rw [← hO] at hB0
  have hOg : ¬ O = g := by have := hD.mm.row.lt; omega
  have hOr : ¬ O = rg := by have := hD.rm.ltg; omega
  have HW21 : Hid (∀ W, Keeps (fun _ => False) w0 W → Calls Try.prog 21 #[.slice ma ms.length mc] W fun e w' => e = .returned (.slice (some ⟨W.heap.size, 0, none⟩) ms.length (ms.length + 70)) ∧ Blk w' W.heap.size (fW (ms.length + 70) (spareW ms)) 34 ∧ Keeps (fun _ => False) W w') := fun W kk => handW_any ma ms.length mc ms W (oms.kept kk (fun _ _ e => e)) rfl hl.1
  have hhead : ∀ W B, Blk W B (fW (ms.length + 70) (spareW ms)) 34 → SegW W (some ⟨B, 0, none⟩) ms := fun W B hB => by
    refine .inr ⟨B, 0, rfl, fun i hi => ?_⟩
    have := hB.cell (fW_get (spareW ms) (i := i) (by omega))
    rw [Nat.zero_add, this]
    simp [spareW, hi]
  have HPt : Hid (∀ W B, Mm W b g xs → Blk W B (fW (ms.length + 70) (spareW ms)) 34 → Calls Try.prog 17 #[.pointer none, .int .i64 p, .int .i64 n, .slice (some ⟨B, 0, none⟩) ms.length (ms.length + 70)] W (PutP W b g xs (putE true xs p n ms.length) (putX true xs p n ms))) := fun W B hM hB => put_any true b g xs p n (some ⟨B, 0, none⟩) (ms.length + 70) ms W hM (hhead W B hB) op2
  have HKp : Hid (∀ W B, Keeps (fun _ => False) w0 W → Blk W B (fW (ms.length + 70) (spareW ms)) 34 → Calls Try.prog 22 #[.slice (some ⟨B, 0, none⟩) ms.length (ms.length + 70), .slice ma ms.length mc] W fun e w' => e = .returned (.bool true) ∧ w' = W) := fun W B kk hB => keptW_any B ma ms.length mc ms W hB (oms.kept kk (fun _ _ e => e)) rfl hl.1
  have HRp : Hid (∀ W, Keeps (fun _ => False) w0 W → Rm W rb rg xs → Calls Try.prog 29 #[.pointer none, .int .i64 p, .int .i64 n, .slice ma ms.length mc] W (PutR W rb rg (putE true xs p n ms.length) (putX true xs p n ms))) := fun W kk hR => rput_any true rb rg xs p n ma mc ms W hR (oms.kept kk (fun _ _ e => e)) op1 op2
  obtain ⟨E, hE⟩ : ∃ E, E = putE true xs p n ms.length := ⟨_, rfl⟩
  rw [← hE] at HPt HRp
  obtain ⟨ys, hys⟩ : ∃ ys, ys = putX true xs p n ms := ⟨_, rfl⟩
  rw [← hys] at HPt HRp ⊢
  obtain ⟨Lm, hLm⟩ : ∃ L, L = ms.length := ⟨_, rfl⟩
  obtain ⟨Lp, hLp⟩ : ∃ L, L = ps.length := ⟨_, rfl⟩
  obtain ⟨X, hX⟩ : ∃ X : Nat, X = x.toNat := ⟨_, rfl⟩
  rw [← hLm, ← hLp, ← hX] at hB0 hW0
  rw [← hLm, ← hLp] at hl
  unfold Opn.v
  simp only
  rw [← hLm, ← hLp, ← hX]
  rw [← hLm] at HW21 HPt HKp HRp
  have l1 : ¬ (2147483647 : Int) < (Lm : Int) := by omega
  have l2 : ¬ (2147483647 : Int) < (Lp : Int) := by omega
  have HC : Hid (∀ W, (Keeps (fun _ => False) W0 W ∨ Keeps (fun k => k = g ∨ k = rg) W0 W) → W.cell? ⟨O, 1, none⟩ = some (.int .i64 p) ∧ W.cell? ⟨O, 2, none⟩ = some (.int .i64 n) ∧ W.cell? ⟨O, 3, none⟩ = some (.slice ma Lm mc) ∧ W.cell? ⟨O, 4, none⟩ = some (.slice pa Lp pc) ∧ W.cell? ⟨O, 5, none⟩ = some (.int .u32 (X : Int))) := fun W kk => by
    have hB : Blk W O [.int .i64 0, .int .i64 p, .int .i64 n, .slice ma Lm mc, .slice pa Lp pc, .int .u32 (X : Int), .bool true] 36 := by
      rcases kk with kk | kk
      · exact hB0.kept kk fun e => e
      · exact hB0.kept kk fun e => by rcases e with e | e; exact hOg e; exact hOr e
    exact ⟨hB.cell rfl, hB.cell rfl, hB.cell rfl, hB.cell rfl, hB.cell rfl⟩
  have HX : Hid (W0 = w.alloc (.cells #[.int .i64 0, .int .i64 p, .int .i64 n, .slice ma Lm mc, .slice pa Lp pc, .int .u32 (X : Int), .bool true] 36) ∧ O = w.heap.size ∧ Duo W0 b g rb rg xs ∧ Keeps (fun _ => False) w0 W0 ∧ w0.heap.size ≤ g ∧ w0.heap.size ≤ rg ∧ Keeps (fun k => k = g ∨ k = rg) w W0) := ⟨hW0, hO, hD0, hkw, hg, hrg, hk0.mono fun _ _ e => e.elim⟩
  clear hD hk op1 op2 on1 on2 oml1 oml2 oms opl1 opl2 ops opt hg hrg hl hW0 hB0 hk0 hD0 hkw hO hOg hOr hhead hE hys hLm hLp hX
  go_enter Try.func11, Try.ntmps11
  go_wp2_with fail
  rw [← HX.out.1, ← HX.out.2.1]
  refine (HW21.out W0 HX.out.2.2.2.1).mono ?_
  rintro e w1 ⟨rfl, hB1, hk1⟩
  obtain ⟨B, hB⟩ : ∃ B, B = W0.heap.size := ⟨_, rfl⟩
  rw [← hB] at hB1 ⊢
  have hBg : ¬ B = g := by have := HX.out.2.2.1.mm.row.lt; omega
  have H1 : Hid (Keeps (fun _ => False) W0 w1 ∧ Blk w1 B (fW (Lm + 70) (spareW ms)) 34 ∧ ¬ B = g) := ⟨hk1, hB1, hBg⟩
  have HP1 : Hid (Calls _ _ _ _ _) := HPt.out w1 B (HX.out.2.2.1.grown hk1).mm hB1
  obtain ⟨f1, f2, f3, f4, f5⟩ := HC.out w1 (.inl hk1)
  clear hB1 hk1 hB hBg HPt HW21
  go_wp2_with fail
  refine HP1.out.mono ?_
  rintro e w2 ⟨rfl, hM2, hk2⟩
  have hk02 : Keeps (fun k => k = g ∨ k = rg) W0 w2 := (H1.out.1.mono (T := fun k => k = g ∨ k = rg) fun _ _ e => e.elim).trans hk2 fun _ _ e => .inl e
  have hkw2 : Keeps (fun _ => False) w0 w2 := (HX.out.2.2.2.1.trans H1.out.1 fun _ _ e => e).trans hk2 fun b hb e => by have := HX.out.2.2.2.2.1; omega
  have H2 : Hid (Mm w2 b g ys ∧ Rm w2 rb rg xs ∧ Keeps (fun _ => False) w0 w2 ∧ Keeps (fun k => k = g ∨ k = rg) W0 w2) := ⟨hM2, (HX.out.2.2.1.grown H1.out.1).rm1 hk2, hkw2, hk02⟩
  have HK2 : Hid (Calls _ _ _ _ _) := HKp.out w2 B hkw2 (H1.out.2.1.kept hk2 H1.out.2.2)
  have HR2 : Hid (Calls _ _ _ _ _) := HRp.out w2 hkw2 H2.out.2.1
  clear f1 f2 f3 f4 f5
  obtain ⟨f1, f2, f3, f4, f5⟩ := HC.out w2 (.inr hk02)
  clear hM2 hk2 hk02 hkw2 HP1 HKp HRp HC
  go_wp2_with fail
  refine HK2.out.mono ?_
  rintro e w3 ⟨rfl, hw⟩
  obtain rfl := hw.symm
  clear hw HK2
  go_wp2_with fail
  refine HR2.out.mono ?_
  rintro e w4 ⟨rfl, hM4, hk4⟩
  have H4 : Hid (Duo w4 b g rb rg ys ∧ Keeps (fun _ => False) w0 w4 ∧ Keeps (fun k => k = g ∨ k = rg) w w4) := ⟨HX.out.2.2.1.both H2.out.1 hM4 hk4, H2.out.2.2.1.trans hk4 (fun b hb e => by have := HX.out.2.2.2.2.2.1; omega), (HX.out.2.2.2.2.2.2.trans H2.out.2.2.2 fun _ _ e => e).trans hk4 fun _ _ e => .inr e⟩
  clear hM4 hk4 HR2 f1 f2 f3 f4 f5
  go_wp2
  go_ret
  exact ⟨rfl, H4.out⟩

set_option maxRecDepth 20000 in
set_option maxHeartbeats 2000000 in
theorem one_1f (w0 : World) (b g rb rg : Nat) (xs : List UInt32) (o : Opn) (w : World) (hD : Duo w b g rb rg xs) (hk : Keeps (fun _ => False) w0 w) (hok : o.Ok w0) (hg : w0.heap.size ≤ g) (hrg : w0.heap.size ≤ rg) (hl : o.ms.length ≤ 2147483647 ∧ o.ps.length ≤ 2147483647) (hK : o.k = 1) (hN : o.nil = false) :
    Calls Try.prog 11 #[.pointer (some ⟨b, 0, none⟩), .pointer (some ⟨rb, 0, none⟩), o.v] w (OneP w0 w b g rb rg (xs)) := by
  obtain ⟨k, p, n, ma, mc, ms, pa, pc, ps, x, nl⟩ := o
  obtain ⟨⟨op1, op2⟩, ⟨on1, on2⟩, ⟨oml1, oml2⟩, oms, ⟨opl1, opl2⟩, ops, opt⟩ := hok
  simp only at *
  subst hN
  subst hK
  obtain ⟨W0, hW0⟩ : ∃ W0, W0 = w.alloc (.cells #[.int .i64 1, .int .i64 p, .int .i64 n, .slice ma ms.length mc, .slice pa ps.length pc, .int .u32 (x.toNat : Int), .bool false] 36) := ⟨_, rfl⟩
  have hB0 : Blk W0 w.heap.size [.int .i64 1, .int .i64 p, .int .i64 n, .slice ma ms.length mc, .slice pa ps.length pc, .int .u32 (x.toNat : Int), .bool false] 36 := by rw [hW0]; exact Blk.new w _ 36
  have hk0 : Keeps (fun _ => False) w W0 := by rw [hW0]; exact (Keeps.refl _ w).alloc _
  have hD0 := hD.grown hk0
  have hkw := hk.trans hk0 fun _ _ e => e
  obtain ⟨O, hO⟩ : ∃ O, O = w.heap.size := ⟨_, rfl⟩
  rw [← hO] at hB0
  have hOg : ¬ O = g := by have := hD.mm.row.lt; omega
  have hOr : ¬ O = rg := by have := hD.rm.ltg; omega
  have HPt : Hid (∀ W, Mm W b g xs → Calls Try.prog 18 #[.pointer (some ⟨b, 0, none⟩), .int .i64 p, .int .i64 n] W fun e w' => e = .returned (.tuple #[.int .i64 (stN false xs p n : Int), .int .i64 (lkE false xs p 2 n)]) ∧ Keeps (fun _ => False) W w') := fun W hM => staged_any false b g xs p n W hM op2
  have HRp : Hid (∀ W, Rm W rb rg xs → Calls Try.prog 30 #[.pointer (some ⟨rb, 0, none⟩), .int .i64 p, .int .i64 n] W fun e w' => e = .returned (.tuple #[.int .i64 (stN false xs p n : Int), .int .i64 (lkE false xs p 2 n)]) ∧ Keeps (fun _ => False) W w') := fun W hR => rstaged_any false rb rg xs p n W hR op1 op2
  obtain ⟨E, hE⟩ : ∃ E, E = lkE false xs p 2 n := ⟨_, rfl⟩
  obtain ⟨S9, hS9⟩ : ∃ E, E = stN false xs p n := ⟨_, rfl⟩
  rw [← hE, ← hS9] at HPt HRp
  obtain ⟨Lm, hLm⟩ : ∃ L, L = ms.length := ⟨_, rfl⟩
  obtain ⟨Lp, hLp⟩ : ∃ L, L = ps.length := ⟨_, rfl⟩
  obtain ⟨X, hX⟩ : ∃ X : Nat, X = x.toNat := ⟨_, rfl⟩
  rw [← hLm, ← hLp, ← hX] at hB0 hW0
  rw [← hLm, ← hLp] at hl
  unfold Opn.v
  simp only
  rw [← hLm, ← hLp, ← hX]
  have l1 : ¬ (2147483647 : Int) < (Lm : Int) := by omega
  have l2 : ¬ (2147483647 : Int) < (Lp : Int) := by omega
  have HC : Hid (∀ W, (Keeps (fun _ => False) W0 W ∨ Keeps (fun k => k = g ∨ k = rg) W0 W) → W.cell? ⟨O, 1, none⟩ = some (.int .i64 p) ∧ W.cell? ⟨O, 2, none⟩ = some (.int .i64 n) ∧ W.cell? ⟨O, 3, none⟩ = some (.slice ma Lm mc) ∧ W.cell? ⟨O, 4, none⟩ = some (.slice pa Lp pc) ∧ W.cell? ⟨O, 5, none⟩ = some (.int .u32 (X : Int))) := fun W kk => by
    have hB : Blk W O [.int .i64 1, .int .i64 p, .int .i64 n, .slice ma Lm mc, .slice pa Lp pc, .int .u32 (X : Int), .bool false] 36 := by
      rcases kk with kk | kk
      · exact hB0.kept kk fun e => e
      · exact hB0.kept kk fun e => by rcases e with e | e; exact hOg e; exact hOr e
    exact ⟨hB.cell rfl, hB.cell rfl, hB.cell rfl, hB.cell rfl, hB.cell rfl⟩
  have HX : Hid (W0 = w.alloc (.cells #[.int .i64 1, .int .i64 p, .int .i64 n, .slice ma Lm mc, .slice pa Lp pc, .int .u32 (X : Int), .bool false] 36) ∧ O = w.heap.size ∧ Duo W0 b g rb rg xs ∧ Keeps (fun _ => False) w0 W0 ∧ w0.heap.size ≤ g ∧ w0.heap.size ≤ rg ∧ Keeps (fun k => k = g ∨ k = rg) w W0) := ⟨hW0, hO, hD0, hkw, hg, hrg, hk0.mono fun _ _ e => e.elim⟩
  clear hD hk op1 op2 on1 on2 oml1 oml2 oms opl1 opl2 ops opt hg hrg hl hW0 hB0 hk0 hD0 hkw hO hOg hOr hE hS9 hLm hLp hX
  go_enter Try.func11, Try.ntmps11
  go_wp2_with fail
  rw [← HX.out.1, ← HX.out.2.1]
  refine (HPt.out W0 HX.out.2.2.1.mm).mono ?_
  rintro e w1 ⟨rfl, hk1⟩
  have H1 : Hid (Keeps (fun _ => False) W0 w1) := hk1
  have HR1 : Hid (Calls _ _ _ _ _) := HRp.out w1 (HX.out.2.2.1.grown hk1).rm
  obtain ⟨f1, f2, f3, f4, f5⟩ := HC.out w1 (.inl hk1)
  clear hk1 HPt HRp HC
  go_wp2_with fail
  refine HR1.out.mono ?_
  rintro e w2 ⟨rfl, hk2⟩
  have H2 : Hid (Keeps (fun _ => False) W0 w2) := H1.out.trans hk2 fun _ _ e => e
  clear hk2 HR1 f1 f2 f3 f4 f5
  go_wp2
  go_ret
  exact ⟨rfl, HX.out.2.2.1.grown H2.out, HX.out.2.2.2.1.trans H2.out (fun _ _ e => e), HX.out.2.2.2.2.2.2.trans H2.out fun _ _ e => e.elim⟩

set_option maxRecDepth 20000 in
set_option maxHeartbeats 2000000 in
theorem one_1t (w0 : World) (b g rb rg : Nat) (xs : List UInt32) (o : Opn) (w : World) (hD : Duo w b g rb rg xs) (hk : Keeps (fun _ => False) w0 w) (hok : o.Ok w0) (hg : w0.heap.size ≤ g) (hrg : w0.heap.size ≤ rg) (hl : o.ms.length ≤ 2147483647 ∧ o.ps.length ≤ 2147483647) (hK : o.k = 1) (hN : o.nil = true) :
    Calls Try.prog 11 #[.pointer (some ⟨b, 0, none⟩), .pointer (some ⟨rb, 0, none⟩), o.v] w (OneP w0 w b g rb rg (xs)) := by
  obtain ⟨k, p, n, ma, mc, ms, pa, pc, ps, x, nl⟩ := o
  obtain ⟨⟨op1, op2⟩, ⟨on1, on2⟩, ⟨oml1, oml2⟩, oms, ⟨opl1, opl2⟩, ops, opt⟩ := hok
  simp only at *
  subst hN
  subst hK
  obtain ⟨W0, hW0⟩ : ∃ W0, W0 = w.alloc (.cells #[.int .i64 1, .int .i64 p, .int .i64 n, .slice ma ms.length mc, .slice pa ps.length pc, .int .u32 (x.toNat : Int), .bool true] 36) := ⟨_, rfl⟩
  have hB0 : Blk W0 w.heap.size [.int .i64 1, .int .i64 p, .int .i64 n, .slice ma ms.length mc, .slice pa ps.length pc, .int .u32 (x.toNat : Int), .bool true] 36 := by rw [hW0]; exact Blk.new w _ 36
  have hk0 : Keeps (fun _ => False) w W0 := by rw [hW0]; exact (Keeps.refl _ w).alloc _
  have hD0 := hD.grown hk0
  have hkw := hk.trans hk0 fun _ _ e => e
  obtain ⟨O, hO⟩ : ∃ O, O = w.heap.size := ⟨_, rfl⟩
  rw [← hO] at hB0
  have hOg : ¬ O = g := by have := hD.mm.row.lt; omega
  have hOr : ¬ O = rg := by have := hD.rm.ltg; omega
  have HPt : Hid (∀ W, Mm W b g xs → Calls Try.prog 18 #[.pointer none, .int .i64 p, .int .i64 n] W fun e w' => e = .returned (.tuple #[.int .i64 (stN true xs p n : Int), .int .i64 (lkE true xs p 2 n)]) ∧ Keeps (fun _ => False) W w') := fun W hM => staged_any true b g xs p n W hM op2
  have HRp : Hid (∀ W, Rm W rb rg xs → Calls Try.prog 30 #[.pointer none, .int .i64 p, .int .i64 n] W fun e w' => e = .returned (.tuple #[.int .i64 (stN true xs p n : Int), .int .i64 (lkE true xs p 2 n)]) ∧ Keeps (fun _ => False) W w') := fun W hR => rstaged_any true rb rg xs p n W hR op1 op2
  obtain ⟨E, hE⟩ : ∃ E, E = lkE true xs p 2 n := ⟨_, rfl⟩
  obtain ⟨S9, hS9⟩ : ∃ E, E = stN true xs p n := ⟨_, rfl⟩
  rw [← hE, ← hS9] at HPt HRp
  obtain ⟨Lm, hLm⟩ : ∃ L, L = ms.length := ⟨_, rfl⟩
  obtain ⟨Lp, hLp⟩ : ∃ L, L = ps.length := ⟨_, rfl⟩
  obtain ⟨X, hX⟩ : ∃ X : Nat, X = x.toNat := ⟨_, rfl⟩
  rw [← hLm, ← hLp, ← hX] at hB0 hW0
  rw [← hLm, ← hLp] at hl
  unfold Opn.v
  simp only
  rw [← hLm, ← hLp, ← hX]
  have l1 : ¬ (2147483647 : Int) < (Lm : Int) := by omega
  have l2 : ¬ (2147483647 : Int) < (Lp : Int) := by omega
  have HC : Hid (∀ W, (Keeps (fun _ => False) W0 W ∨ Keeps (fun k => k = g ∨ k = rg) W0 W) → W.cell? ⟨O, 1, none⟩ = some (.int .i64 p) ∧ W.cell? ⟨O, 2, none⟩ = some (.int .i64 n) ∧ W.cell? ⟨O, 3, none⟩ = some (.slice ma Lm mc) ∧ W.cell? ⟨O, 4, none⟩ = some (.slice pa Lp pc) ∧ W.cell? ⟨O, 5, none⟩ = some (.int .u32 (X : Int))) := fun W kk => by
    have hB : Blk W O [.int .i64 1, .int .i64 p, .int .i64 n, .slice ma Lm mc, .slice pa Lp pc, .int .u32 (X : Int), .bool true] 36 := by
      rcases kk with kk | kk
      · exact hB0.kept kk fun e => e
      · exact hB0.kept kk fun e => by rcases e with e | e; exact hOg e; exact hOr e
    exact ⟨hB.cell rfl, hB.cell rfl, hB.cell rfl, hB.cell rfl, hB.cell rfl⟩
  have HX : Hid (W0 = w.alloc (.cells #[.int .i64 1, .int .i64 p, .int .i64 n, .slice ma Lm mc, .slice pa Lp pc, .int .u32 (X : Int), .bool true] 36) ∧ O = w.heap.size ∧ Duo W0 b g rb rg xs ∧ Keeps (fun _ => False) w0 W0 ∧ w0.heap.size ≤ g ∧ w0.heap.size ≤ rg ∧ Keeps (fun k => k = g ∨ k = rg) w W0) := ⟨hW0, hO, hD0, hkw, hg, hrg, hk0.mono fun _ _ e => e.elim⟩
  clear hD hk op1 op2 on1 on2 oml1 oml2 oms opl1 opl2 ops opt hg hrg hl hW0 hB0 hk0 hD0 hkw hO hOg hOr hE hS9 hLm hLp hX
  go_enter Try.func11, Try.ntmps11
  go_wp2_with fail
  rw [← HX.out.1, ← HX.out.2.1]
  refine (HPt.out W0 HX.out.2.2.1.mm).mono ?_
  rintro e w1 ⟨rfl, hk1⟩
  have H1 : Hid (Keeps (fun _ => False) W0 w1) := hk1
  have HR1 : Hid (Calls _ _ _ _ _) := HRp.out w1 (HX.out.2.2.1.grown hk1).rm
  obtain ⟨f1, f2, f3, f4, f5⟩ := HC.out w1 (.inl hk1)
  clear hk1 HPt HRp HC
  go_wp2_with fail
  refine HR1.out.mono ?_
  rintro e w2 ⟨rfl, hk2⟩
  have H2 : Hid (Keeps (fun _ => False) W0 w2) := H1.out.trans hk2 fun _ _ e => e
  clear hk2 HR1 f1 f2 f3 f4 f5
  go_wp2
  go_ret
  exact ⟨rfl, HX.out.2.2.1.grown H2.out, HX.out.2.2.2.1.trans H2.out (fun _ _ e => e), HX.out.2.2.2.2.2.2.trans H2.out fun _ _ e => e.elim⟩

set_option maxRecDepth 20000 in
set_option maxHeartbeats 2000000 in
theorem one_2f (w0 : World) (b g rb rg : Nat) (xs : List UInt32) (o : Opn) (w : World) (hD : Duo w b g rb rg xs) (hk : Keeps (fun _ => False) w0 w) (hok : o.Ok w0) (hg : w0.heap.size ≤ g) (hrg : w0.heap.size ≤ rg) (hl : o.ms.length ≤ 2147483647 ∧ o.ps.length ≤ 2147483647) (hK : o.k = 2) (hN : o.nil = false) :
    Calls Try.prog 11 #[.pointer (some ⟨b, 0, none⟩), .pointer (some ⟨rb, 0, none⟩), o.v] w (OneP w0 w b g rb rg (dlX false xs o.p o.n o.ps)) := by
  obtain ⟨k, p, n, ma, mc, ms, pa, pc, ps, x, nl⟩ := o
  obtain ⟨⟨op1, op2⟩, ⟨on1, on2⟩, ⟨oml1, oml2⟩, oms, ⟨opl1, opl2⟩, ops, opt⟩ := hok
  simp only at *
  subst hN
  subst hK
  obtain ⟨W0, hW0⟩ : ∃ W0, W0 = w.alloc (.cells #[.int .i64 2, .int .i64 p, .int .i64 n, .slice ma ms.length mc, .slice pa ps.length pc, .int .u32 (x.toNat : Int), .bool false] 36) := ⟨_, rfl⟩
  have hB0 : Blk W0 w.heap.size [.int .i64 2, .int .i64 p, .int .i64 n, .slice ma ms.length mc, .slice pa ps.length pc, .int .u32 (x.toNat : Int), .bool false] 36 := by rw [hW0]; exact Blk.new w _ 36
  have hk0 : Keeps (fun _ => False) w W0 := by rw [hW0]; exact (Keeps.refl _ w).alloc _
  have hD0 := hD.grown hk0
  have hkw := hk.trans hk0 fun _ _ e => e
  obtain ⟨O, hO⟩ : ∃ O, O = w.heap.size := ⟨_, rfl⟩
  rw [← hO] at hB0
  have hOg : ¬ O = g := by have := hD.mm.row.lt; omega
  have hOr : ¬ O = rg := by have := hD.rm.ltg; omega
  have HW24 : Hid (∀ W, Keeps (fun _ => False) w0 W → Calls Try.prog 24 #[.slice pa ps.length pc] W fun e w' => e = .returned (.slice (some ⟨W.heap.size, 0, none⟩) ps.length (ps.length + 70)) ∧ Blk w' W.heap.size (fI (ps.length + 70) (spareI ps)) 3 ∧ Keeps (fun _ => False) W w') := fun W kk => handI_any pa ps.length pc ps W (ops.kept kk (fun _ _ e => e)) rfl hl.2
  have hhead : ∀ W B, Blk W B (fI (ps.length + 70) (spareI ps)) 3 → SegI W (some ⟨B, 0, none⟩) ps := fun W B hB => by
    refine .inr ⟨B, 0, rfl, fun i hi => ?_⟩
    have := hB.cell (fI_get (spareI ps) (i := i) (by omega))
    rw [Nat.zero_add, this]
    simp [spareI, hi]
  have HPt : Hid (∀ W B, Mm W b g xs → Blk W B (fI (ps.length + 70) (spareI ps)) 3 → Calls Try.prog 15 #[.pointer (some ⟨b, 0, none⟩), .int .i64 p, .int .i64 n, .slice (some ⟨B, 0, none⟩) ps.length (ps.length + 70)] W (PutP W b g xs (dlE false xs p n ps) (dlX false xs p n ps))) := fun W B hM hB => deliver_any false b g xs p n (some ⟨B, 0, none⟩) (ps.length + 70) ps W hM (hhead W B hB) op2 (fun q hq => (opt q hq).2)
  have HKp : Hid (∀ W B, Keeps (fun _ => False) w0 W → Blk W B (fI (ps.length + 70) (spareI ps)) 3 → Calls Try.prog 25 #[.slice (some ⟨B, 0, none⟩) ps.length (ps.length + 70), .slice pa ps.length pc] W fun e w' => e = .returned (.bool true) ∧ w' = W) := fun W B kk hB => keptI_any B pa ps.length pc ps W hB (ops.kept kk (fun _ _ e => e)) rfl hl.2
  have HRp : Hid (∀ W, Keeps (fun _ => False) w0 W → Rm W rb rg xs → Calls Try.prog 31 #[.pointer (some ⟨rb, 0, none⟩), .int .i64 p, .int .i64 n, .slice pa ps.length pc] W (PutR W rb rg (dlE false xs p n ps) (dlX false xs p n ps))) := fun W kk hR => rdeliver_any false rb rg xs p n pa pc ps W hR (ops.kept kk (fun _ _ e => e)) (fun h0 x e => by have := seg_lt ops h0 x e; omega) op1 op2 opt
  obtain ⟨E, hE⟩ : ∃ E, E = dlE false xs p n ps := ⟨_, rfl⟩
  rw [← hE] at HPt HRp
  obtain ⟨ys, hys⟩ : ∃ ys, ys = dlX false xs p n ps := ⟨_, rfl⟩
  rw [← hys] at HPt HRp ⊢
  obtain ⟨Lm, hLm⟩ : ∃ L, L = ms.length := ⟨_, rfl⟩
  obtain ⟨Lp, hLp⟩ : ∃ L, L = ps.length := ⟨_, rfl⟩
  obtain ⟨X, hX⟩ : ∃ X : Nat, X = x.toNat := ⟨_, rfl⟩
  rw [← hLm, ← hLp, ← hX] at hB0 hW0
  rw [← hLm, ← hLp] at hl
  unfold Opn.v
  simp only
  rw [← hLm, ← hLp, ← hX]
  rw [← hLp] at HW24 HPt HKp HRp
  have l1 : ¬ (2147483647 : Int) < (Lm : Int) := by omega
  have l2 : ¬ (2147483647 : Int) < (Lp : Int) := by omega
  have HC : Hid (∀ W, (Keeps (fun _ => False) W0 W ∨ Keeps (fun k => k = g ∨ k = rg) W0 W) → W.cell? ⟨O, 1, none⟩ = some (.int .i64 p) ∧ W.cell? ⟨O, 2, none⟩ = some (.int .i64 n) ∧ W.cell? ⟨O, 3, none⟩ = some (.slice ma Lm mc) ∧ W.cell? ⟨O, 4, none⟩ = some (.slice pa Lp pc) ∧ W.cell? ⟨O, 5, none⟩ = some (.int .u32 (X : Int))) := fun W kk => by
    have hB : Blk W O [.int .i64 2, .int .i64 p, .int .i64 n, .slice ma Lm mc, .slice pa Lp pc, .int .u32 (X : Int), .bool false] 36 := by
      rcases kk with kk | kk
      · exact hB0.kept kk fun e => e
      · exact hB0.kept kk fun e => by rcases e with e | e; exact hOg e; exact hOr e
    exact ⟨hB.cell rfl, hB.cell rfl, hB.cell rfl, hB.cell rfl, hB.cell rfl⟩
  have HX : Hid (W0 = w.alloc (.cells #[.int .i64 2, .int .i64 p, .int .i64 n, .slice ma Lm mc, .slice pa Lp pc, .int .u32 (X : Int), .bool false] 36) ∧ O = w.heap.size ∧ Duo W0 b g rb rg xs ∧ Keeps (fun _ => False) w0 W0 ∧ w0.heap.size ≤ g ∧ w0.heap.size ≤ rg ∧ Keeps (fun k => k = g ∨ k = rg) w W0) := ⟨hW0, hO, hD0, hkw, hg, hrg, hk0.mono fun _ _ e => e.elim⟩
  clear hD hk op1 op2 on1 on2 oml1 oml2 oms opl1 opl2 ops opt hg hrg hl hW0 hB0 hk0 hD0 hkw hO hOg hOr hhead hE hys hLm hLp hX
  go_enter Try.func11, Try.ntmps11
  go_wp2_with fail
  rw [← HX.out.1, ← HX.out.2.1]
  refine (HW24.out W0 HX.out.2.2.2.1).mono ?_
  rintro e w1 ⟨rfl, hB1, hk1⟩
  obtain ⟨B, hB⟩ : ∃ B, B = W0.heap.size := ⟨_, rfl⟩
  rw [← hB] at hB1 ⊢
  have hBg : ¬ B = g := by have := HX.out.2.2.1.mm.row.lt; omega
  have H1 : Hid (Keeps (fun _ => False) W0 w1 ∧ Blk w1 B (fI (Lp + 70) (spareI ps)) 3 ∧ ¬ B = g) := ⟨hk1, hB1, hBg⟩
  have HP1 : Hid (Calls _ _ _ _ _) := HPt.out w1 B (HX.out.2.2.1.grown hk1).mm hB1
  obtain ⟨f1, f2, f3, f4, f5⟩ := HC.out w1 (.inl hk1)
  clear hB1 hk1 hB hBg HPt HW24
  go_wp2_with fail
  refine HP1.out.mono ?_
  rintro e w2 ⟨rfl, hM2, hk2⟩
  have hk02 : Keeps (fun k => k = g ∨ k = rg) W0 w2 := (H1.out.1.mono (T := fun k => k = g ∨ k = rg) fun _ _ e => e.elim).trans hk2 fun _ _ e => .inl e
  have hkw2 : Keeps (fun _ => False) w0 w2 := (HX.out.2.2.2.1.trans H1.out.1 fun _ _ e => e).trans hk2 fun b hb e => by have := HX.out.2.2.2.2.1; omega
  have H2 : Hid (Mm w2 b g ys ∧ Rm w2 rb rg xs ∧ Keeps (fun _ => False) w0 w2 ∧ Keeps (fun k => k = g ∨ k = rg) W0 w2) := ⟨hM2, (HX.out.2.2.1.grown H1.out.1).rm1 hk2, hkw2, hk02⟩
  have HK2 : Hid (Calls _ _ _ _ _) := HKp.out w2 B hkw2 (H1.out.2.1.kept hk2 H1.out.2.2)
  have HR2 : Hid (Calls _ _ _ _ _) := HRp.out w2 hkw2 H2.out.2.1
  clear f1 f2 f3 f4 f5
  obtain ⟨f1, f2, f3, f4, f5⟩ := HC.out w2 (.inr hk02)
  clear hM2 hk2 hk02 hkw2 HP1 HKp HRp HC
  go_wp2_with fail
  refine HK2.out.mono ?_
  rintro e w3 ⟨rfl, hw⟩
  obtain rfl := hw.symm
  clear hw HK2
  go_wp2_with fail
  refine HR2.out.mono ?_
  rintro e w4 ⟨rfl, hM4, hk4⟩
  have H4 : Hid (Duo w4 b g rb rg ys ∧ Keeps (fun _ => False) w0 w4 ∧ Keeps (fun k => k = g ∨ k = rg) w w4) := ⟨HX.out.2.2.1.both H2.out.1 hM4 hk4, H2.out.2.2.1.trans hk4 (fun b hb e => by have := HX.out.2.2.2.2.2.1; omega), (HX.out.2.2.2.2.2.2.trans H2.out.2.2.2 fun _ _ e => e).trans hk4 fun _ _ e => .inr e⟩
  clear hM4 hk4 HR2 f1 f2 f3 f4 f5
  go_wp2
  go_ret
  exact ⟨rfl, H4.out⟩

set_option maxRecDepth 20000 in
set_option maxHeartbeats 2000000 in
theorem one_2t (w0 : World) (b g rb rg : Nat) (xs : List UInt32) (o : Opn) (w : World) (hD : Duo w b g rb rg xs) (hk : Keeps (fun _ => False) w0 w) (hok : o.Ok w0) (hg : w0.heap.size ≤ g) (hrg : w0.heap.size ≤ rg) (hl : o.ms.length ≤ 2147483647 ∧ o.ps.length ≤ 2147483647) (hK : o.k = 2) (hN : o.nil = true) :
    Calls Try.prog 11 #[.pointer (some ⟨b, 0, none⟩), .pointer (some ⟨rb, 0, none⟩), o.v] w (OneP w0 w b g rb rg (dlX true xs o.p o.n o.ps)) := by
  obtain ⟨k, p, n, ma, mc, ms, pa, pc, ps, x, nl⟩ := o
  obtain ⟨⟨op1, op2⟩, ⟨on1, on2⟩, ⟨oml1, oml2⟩, oms, ⟨opl1, opl2⟩, ops, opt⟩ := hok
  simp only at *
  subst hN
  subst hK
  obtain ⟨W0, hW0⟩ : ∃ W0, W0 = w.alloc (.cells #[.int .i64 2, .int .i64 p, .int .i64 n, .slice ma ms.length mc, .slice pa ps.length pc, .int .u32 (x.toNat : Int), .bool true] 36) := ⟨_, rfl⟩
  have hB0 : Blk W0 w.heap.size [.int .i64 2, .int .i64 p, .int .i64 n, .slice ma ms.length mc, .slice pa ps.length pc, .int .u32 (x.toNat : Int), .bool true] 36 := by rw [hW0]; exact Blk.new w _ 36
  have hk0 : Keeps (fun _ => False) w W0 := by rw [hW0]; exact (Keeps.refl _ w).alloc _
  have hD0 := hD.grown hk0
  have hkw := hk.trans hk0 fun _ _ e => e
  obtain ⟨O, hO⟩ : ∃ O, O = w.heap.size := ⟨_, rfl⟩
  rw [← hO] at hB0
  have hOg : ¬ O = g := by have := hD.mm.row.lt; omega
  have hOr : ¬ O = rg := by have := hD.rm.ltg; omega
  have HW24 : Hid (∀ W, Keeps (fun _ => False) w0 W → Calls Try.prog 24 #[.slice pa ps.length pc] W fun e w' => e = .returned (.slice (some ⟨W.heap.size, 0, none⟩) ps.length (ps.length + 70)) ∧ Blk w' W.heap.size (fI (ps.length + 70) (spareI ps)) 3 ∧ Keeps (fun _ => False) W w') := fun W kk => handI_any pa ps.length pc ps W (ops.kept kk (fun _ _ e => e)) rfl hl.2
  have hhead : ∀ W B, Blk W B (fI (ps.length + 70) (spareI ps)) 3 → SegI W (some ⟨B, 0, none⟩) ps := fun W B hB => by
    refine .inr ⟨B, 0, rfl, fun i hi => ?_⟩
    have := hB.cell (fI_get (spareI ps) (i := i) (by omega))
    rw [Nat.zero_add, this]
    simp [spareI, hi]
  have HPt : Hid (∀ W B, Mm W b g xs → Blk W B (fI (ps.length + 70) (spareI ps)) 3 → Calls Try.prog 15 #[.pointer none, .int .i64 p, .int .i64 n, .slice (some ⟨B, 0, none⟩) ps.length (ps.length + 70)] W (PutP W b g xs (dlE true xs p n ps) (dlX true xs p n ps))) := fun W B hM hB => deliver_any true b g xs p n (some ⟨B, 0, none⟩) (ps.length + 70) ps W hM (hhead W B hB) op2 (fun q hq => (opt q hq).2)
  have HKp : Hid (∀ W B, Keeps (fun _ => False) w0 W → Blk W B (fI (ps.length + 70) (spareI ps)) 3 → Calls Try.prog 25 #[.slice (some ⟨B, 0, none⟩) ps.length (ps.length + 70), .slice pa ps.length pc] W fun e w' => e = .returned (.bool true) ∧ w' = W) := fun W B kk hB => keptI_any B pa ps.length pc ps W hB (ops.kept kk (fun _ _ e => e)) rfl hl.2
  have HRp : Hid (∀ W, Keeps (fun _ => False) w0 W → Rm W rb rg xs → Calls Try.prog 31 #[.pointer none, .int .i64 p, .int .i64 n, .slice pa ps.length pc] W (PutR W rb rg (dlE true xs p n ps) (dlX true xs p n ps))) := fun W kk hR => rdeliver_any true rb rg xs p n pa pc ps W hR (ops.kept kk (fun _ _ e => e)) (fun h0 x e => by have := seg_lt ops h0 x e; omega) op1 op2 opt
  obtain ⟨E, hE⟩ : ∃ E, E = dlE true xs p n ps := ⟨_, rfl⟩
  rw [← hE] at HPt HRp
  obtain ⟨ys, hys⟩ : ∃ ys, ys = dlX true xs p n ps := ⟨_, rfl⟩
  rw [← hys] at HPt HRp ⊢
  obtain ⟨Lm, hLm⟩ : ∃ L, L = ms.length := ⟨_, rfl⟩
  obtain ⟨Lp, hLp⟩ : ∃ L, L = ps.length := ⟨_, rfl⟩
  obtain ⟨X, hX⟩ : ∃ X : Nat, X = x.toNat := ⟨_, rfl⟩
  rw [← hLm, ← hLp, ← hX] at hB0 hW0
  rw [← hLm, ← hLp] at hl
  unfold Opn.v
  simp only
  rw [← hLm, ← hLp, ← hX]
  rw [← hLp] at HW24 HPt HKp HRp
  have l1 : ¬ (2147483647 : Int) < (Lm : Int) := by omega
  have l2 : ¬ (2147483647 : Int) < (Lp : Int) := by omega
  have HC : Hid (∀ W, (Keeps (fun _ => False) W0 W ∨ Keeps (fun k => k = g ∨ k = rg) W0 W) → W.cell? ⟨O, 1, none⟩ = some (.int .i64 p) ∧ W.cell? ⟨O, 2, none⟩ = some (.int .i64 n) ∧ W.cell? ⟨O, 3, none⟩ = some (.slice ma Lm mc) ∧ W.cell? ⟨O, 4, none⟩ = some (.slice pa Lp pc) ∧ W.cell? ⟨O, 5, none⟩ = some (.int .u32 (X : Int))) := fun W kk => by
    have hB : Blk W O [.int .i64 2, .int .i64 p, .int .i64 n, .slice ma Lm mc, .slice pa Lp pc, .int .u32 (X : Int), .bool true] 36 := by
      rcases kk with kk | kk
      · exact hB0.kept kk fun e => e
      · exact hB0.kept kk fun e => by rcases e with e | e; exact hOg e; exact hOr e
    exact ⟨hB.cell rfl, hB.cell rfl, hB.cell rfl, hB.cell rfl, hB.cell rfl⟩
  have HX : Hid (W0 = w.alloc (.cells #[.int .i64 2, .int .i64 p, .int .i64 n, .slice ma Lm mc, .slice pa Lp pc, .int .u32 (X : Int), .bool true] 36) ∧ O = w.heap.size ∧ Duo W0 b g rb rg xs ∧ Keeps (fun _ => False) w0 W0 ∧ w0.heap.size ≤ g ∧ w0.heap.size ≤ rg ∧ Keeps (fun k => k = g ∨ k = rg) w W0) := ⟨hW0, hO, hD0, hkw, hg, hrg, hk0.mono fun _ _ e => e.elim⟩
  clear hD hk op1 op2 on1 on2 oml1 oml2 oms opl1 opl2 ops opt hg hrg hl hW0 hB0 hk0 hD0 hkw hO hOg hOr hhead hE hys hLm hLp hX
  go_enter Try.func11, Try.ntmps11
  go_wp2_with fail
  rw [← HX.out.1, ← HX.out.2.1]
  refine (HW24.out W0 HX.out.2.2.2.1).mono ?_
  rintro e w1 ⟨rfl, hB1, hk1⟩
  obtain ⟨B, hB⟩ : ∃ B, B = W0.heap.size := ⟨_, rfl⟩
  rw [← hB] at hB1 ⊢
  have hBg : ¬ B = g := by have := HX.out.2.2.1.mm.row.lt; omega
  have H1 : Hid (Keeps (fun _ => False) W0 w1 ∧ Blk w1 B (fI (Lp + 70) (spareI ps)) 3 ∧ ¬ B = g) := ⟨hk1, hB1, hBg⟩
  have HP1 : Hid (Calls _ _ _ _ _) := HPt.out w1 B (HX.out.2.2.1.grown hk1).mm hB1
  obtain ⟨f1, f2, f3, f4, f5⟩ := HC.out w1 (.inl hk1)
  clear hB1 hk1 hB hBg HPt HW24
  go_wp2_with fail
  refine HP1.out.mono ?_
  rintro e w2 ⟨rfl, hM2, hk2⟩
  have hk02 : Keeps (fun k => k = g ∨ k = rg) W0 w2 := (H1.out.1.mono (T := fun k => k = g ∨ k = rg) fun _ _ e => e.elim).trans hk2 fun _ _ e => .inl e
  have hkw2 : Keeps (fun _ => False) w0 w2 := (HX.out.2.2.2.1.trans H1.out.1 fun _ _ e => e).trans hk2 fun b hb e => by have := HX.out.2.2.2.2.1; omega
  have H2 : Hid (Mm w2 b g ys ∧ Rm w2 rb rg xs ∧ Keeps (fun _ => False) w0 w2 ∧ Keeps (fun k => k = g ∨ k = rg) W0 w2) := ⟨hM2, (HX.out.2.2.1.grown H1.out.1).rm1 hk2, hkw2, hk02⟩
  have HK2 : Hid (Calls _ _ _ _ _) := HKp.out w2 B hkw2 (H1.out.2.1.kept hk2 H1.out.2.2)
  have HR2 : Hid (Calls _ _ _ _ _) := HRp.out w2 hkw2 H2.out.2.1
  clear f1 f2 f3 f4 f5
  obtain ⟨f1, f2, f3, f4, f5⟩ := HC.out w2 (.inr hk02)
  clear hM2 hk2 hk02 hkw2 HP1 HKp HRp HC
  go_wp2_with fail
  refine HK2.out.mono ?_
  rintro e w3 ⟨rfl, hw⟩
  obtain rfl := hw.symm
  clear hw HK2
  go_wp2_with fail
  refine HR2.out.mono ?_
  rintro e w4 ⟨rfl, hM4, hk4⟩
  have H4 : Hid (Duo w4 b g rb rg ys ∧ Keeps (fun _ => False) w0 w4 ∧ Keeps (fun k => k = g ∨ k = rg) w w4) := ⟨HX.out.2.2.1.both H2.out.1 hM4 hk4, H2.out.2.2.1.trans hk4 (fun b hb e => by have := HX.out.2.2.2.2.2.1; omega), (HX.out.2.2.2.2.2.2.trans H2.out.2.2.2 fun _ _ e => e).trans hk4 fun _ _ e => .inr e⟩
  clear hM4 hk4 HR2 f1 f2 f3 f4 f5
  go_wp2
  go_ret
  exact ⟨rfl, H4.out⟩

set_option maxRecDepth 20000 in
set_option maxHeartbeats 2000000 in
theorem one_rf (w0 : World) (b g rb rg : Nat) (xs : List UInt32) (o : Opn) (w : World) (hD : Duo w b g rb rg xs) (hk : Keeps (fun _ => False) w0 w) (hok : o.Ok w0) (hg : w0.heap.size ≤ g) (hrg : w0.heap.size ≤ rg) (hl : o.ms.length ≤ 2147483647 ∧ o.ps.length ≤ 2147483647) (hK0 : o.k ≠ 0) (hK1 : o.k ≠ 1) (hK2 : o.k ≠ 2) (hK4 : o.k ≠ 4) (hN : o.nil = false) :
    Calls Try.prog 11 #[.pointer (some ⟨b, 0, none⟩), .pointer (some ⟨rb, 0, none⟩), o.v] w (OneP w0 w b g rb rg (xs)) := by
  obtain ⟨k, p, n, ma, mc, ms, pa, pc, ps, x, nl⟩ := o
  obtain ⟨⟨op1, op2⟩, ⟨on1, on2⟩, ⟨oml1, oml2⟩, oms, ⟨opl1, opl2⟩, ops, opt⟩ := hok
  simp only at *
  subst hN
  obtain ⟨W0, hW0⟩ : ∃ W0, W0 = w.alloc (.cells #[.int .i64 k, .int .i64 p, .int .i64 n, .slice ma ms.length mc, .slice pa ps.length pc, .int .u32 (x.toNat : Int), .bool false] 36) := ⟨_, rfl⟩
  have hB0 : Blk W0 w.heap.size [.int .i64 k, .int .i64 p, .int .i64 n, .slice ma ms.length mc, .slice pa ps.length pc, .int .u32 (x.toNat : Int), .bool false] 36 := by rw [hW0]; exact Blk.new w _ 36
  have hk0 : Keeps (fun _ => False) w W0 := by rw [hW0]; exact (Keeps.refl _ w).alloc _
  have hD0 := hD.grown hk0
  have hkw := hk.trans hk0 fun _ _ e => e
  obtain ⟨O, hO⟩ : ∃ O, O = w.heap.size := ⟨_, rfl⟩
  rw [← hO] at hB0
  have hOg : ¬ O = g := by have := hD.mm.row.lt; omega
  have hOr : ¬ O = rg := by have := hD.rm.ltg; omega
  have HPt : Hid (∀ W, Mm W b g xs → Calls Try.prog 26 #[.pointer (some ⟨b, 0, none⟩), .int .i64 p, .int .i64 n] W (RdP W (rdM false xs p n) (rdF false xs p n) (rdT false xs p n) (lkE false xs p 3 n))) := fun W hM => read_any false b g xs p n W hM op2
  have HRp : Hid (∀ W, Rm W rb rg xs → Calls Try.prog 33 #[.pointer (some ⟨rb, 0, none⟩), .int .i64 p, .int .i64 n] W (RrP W (rdM false xs p n) (rdF false xs p n) (rdT false xs p n) (lkE false xs p 3 n))) := fun W hR => rread_any false rb rg xs p n W hR op1 op2
  have hml : (rdM false xs p n).length ≤ 1000000000 := by
    unfold rdM
    split
    · have hs := hD.mm.small
      unfold win
      rw [List.length_take, List.length_drop]; omega
    · simp
  obtain ⟨E, hE⟩ : ∃ E, E = lkE false xs p 3 n := ⟨_, rfl⟩
  obtain ⟨rm, hrm⟩ : ∃ E, E = rdM false xs p n := ⟨_, rfl⟩
  obtain ⟨rf, hrf⟩ : ∃ E, E = rdF false xs p n := ⟨_, rfl⟩
  obtain ⟨rt, hrt⟩ : ∃ E, E = rdT false xs p n := ⟨_, rfl⟩
  rw [← hE, ← hrm, ← hrf, ← hrt] at HPt HRp
  rw [← hrm] at hml
  have HSm : Hid (∀ W a1 c1 a2 c2, SegW W a1 rm → SegW W a2 rm → Calls Try.prog 13 #[.slice a1 rm.length c1, .slice a2 rm.length c2] W fun e w' => e = .returned (.bool true) ∧ Keeps (fun _ => False) W w') := fun W a1 c1 a2 c2 s1 s2 => same_any a1 a2 c1 c2 rm W s1 s2 hml
  obtain ⟨Lr, hLr⟩ : ∃ L, L = rm.length := ⟨_, rfl⟩
  unfold RdP Told at HPt
  unfold RrP at HRp
  rw [← hLr] at HSm
  have q0 : (k == 0) = false := beq_eq_false_iff_ne.2 hK0
  have q1 : (k == 1) = false := beq_eq_false_iff_ne.2 hK1
  have q2 : (k == 2) = false := beq_eq_false_iff_ne.2 hK2
  have q4 : (k == 4) = false := beq_eq_false_iff_ne.2 hK4
  obtain ⟨Lm, hLm⟩ : ∃ L, L = ms.length := ⟨_, rfl⟩
  obtain ⟨Lp, hLp⟩ : ∃ L, L = ps.length := ⟨_, rfl⟩
  obtain ⟨X, hX⟩ : ∃ X : Nat, X = x.toNat := ⟨_, rfl⟩
  rw [← hLm, ← hLp, ← hX] at hB0 hW0
  rw [← hLm, ← hLp] at hl
  unfold Opn.v
  simp only
  rw [← hLm, ← hLp, ← hX]
  have l1 : ¬ (2147483647 : Int) < (Lm : Int) := by omega
  have l2 : ¬ (2147483647 : Int) < (Lp : Int) := by omega
  have HC : Hid (∀ W, (Keeps (fun _ => False) W0 W ∨ Keeps (fun k => k = g ∨ k = rg) W0 W) → W.cell? ⟨O, 1, none⟩ = some (.int .i64 p) ∧ W.cell? ⟨O, 2, none⟩ = some (.int .i64 n) ∧ W.cell? ⟨O, 3, none⟩ = some (.slice ma Lm mc) ∧ W.cell? ⟨O, 4, none⟩ = some (.slice pa Lp pc) ∧ W.cell? ⟨O, 5, none⟩ = some (.int .u32 (X : Int))) := fun W kk => by
    have hB : Blk W O [.int .i64 k, .int .i64 p, .int .i64 n, .slice ma Lm mc, .slice pa Lp pc, .int .u32 (X : Int), .bool false] 36 := by
      rcases kk with kk | kk
      · exact hB0.kept kk fun e => e
      · exact hB0.kept kk fun e => by rcases e with e | e; exact hOg e; exact hOr e
    exact ⟨hB.cell rfl, hB.cell rfl, hB.cell rfl, hB.cell rfl, hB.cell rfl⟩
  have HX : Hid (W0 = w.alloc (.cells #[.int .i64 k, .int .i64 p, .int .i64 n, .slice ma Lm mc, .slice pa Lp pc, .int .u32 (X : Int), .bool false] 36) ∧ O = w.heap.size ∧ Duo W0 b g rb rg xs ∧ Keeps (fun _ => False) w0 W0 ∧ w0.heap.size ≤ g ∧ w0.heap.size ≤ rg ∧ Keeps (fun k => k = g ∨ k = rg) w W0) := ⟨hW0, hO, hD0, hkw, hg, hrg, hk0.mono fun _ _ e => e.elim⟩
  clear hD hk op1 op2 on1 on2 oml1 oml2 oms opl1 opl2 ops opt hg hrg hl hW0 hB0 hk0 hD0 hkw hO hOg hOr hml hE hrf hrt hK0 hK1 hK2 hK4 hLm hLp hX
  go_enter Try.func11, Try.ntmps11
  go_wp2_with fail
  rw [← HX.out.1, ← HX.out.2.1]
  refine (HPt.out W0 HX.out.2.2.1.mm).mono ?_
  rintro e w1 ⟨v, rfl, hv, hk1⟩
  obtain ⟨a1, c1, rfl, hs1⟩ : ∃ a c, v = .slice a Lr c ∧ SegW w1 a rm := by
    rcases hv with ⟨e1, rfl⟩ | ⟨G, _, rfl, hB⟩
    · exact ⟨none, 0, by rw [hLr, e1]; rfl, by rw [e1]; exact .inl rfl⟩
    · exact ⟨_, _, by rw [hLr], segW_of_blk hB⟩
  have H1 : Hid (Keeps (fun _ => False) W0 w1 ∧ SegW w1 a1 rm ∧ Lr = rm.length) := ⟨hk1, hs1, hLr⟩
  have HR1 : Hid (Calls _ _ _ _ _) := HRp.out w1 (HX.out.2.2.1.grown hk1).rm
  obtain ⟨f1, f2, f3, f4, f5⟩ := HC.out w1 (.inl hk1)
  clear hv hs1 hk1 hLr HPt HRp HC
  go_wp2_with fail
  refine HR1.out.mono ?_
  rintro e w2 ⟨a2, c2, rfl, hs2, hk2⟩
  rw [← H1.out.2.2]
  have HS2 : Hid (Calls _ _ _ _ _) := HSm.out w2 a1 c1 a2 c2 (H1.out.2.1.kept hk2 (fun _ _ e => e)) hs2
  have H2 : Hid (Keeps (fun _ => False) W0 w2) := H1.out.1.trans hk2 fun _ _ e => e
  clear hs2 hk2 HR1 HSm f1 f2 f3 f4 f5
  go_wp2_with fail
  refine HS2.out.mono ?_
  rintro e w3 ⟨rfl, hk3⟩
  have H3 : Hid (Keeps (fun _ => False) W0 w3) := H2.out.trans hk3 fun _ _ e => e
  clear hk3 HS2
  go_wp2
  go_ret
  exact ⟨rfl, HX.out.2.2.1.grown H3.out, HX.out.2.2.2.1.trans H3.out (fun _ _ e => e), HX.out.2.2.2.2.2.2.trans H3.out fun _ _ e => e.elim⟩

set_option maxRecDepth 20000 in
set_option maxHeartbeats 2000000 in
theorem one_rt (w0 : World) (b g rb rg : Nat) (xs : List UInt32) (o : Opn) (w : World) (hD : Duo w b g rb rg xs) (hk : Keeps (fun _ => False) w0 w) (hok : o.Ok w0) (hg : w0.heap.size ≤ g) (hrg : w0.heap.size ≤ rg) (hl : o.ms.length ≤ 2147483647 ∧ o.ps.length ≤ 2147483647) (hK0 : o.k ≠ 0) (hK1 : o.k ≠ 1) (hK2 : o.k ≠ 2) (hK4 : o.k ≠ 4) (hN : o.nil = true) :
    Calls Try.prog 11 #[.pointer (some ⟨b, 0, none⟩), .pointer (some ⟨rb, 0, none⟩), o.v] w (OneP w0 w b g rb rg (xs)) := by
  obtain ⟨k, p, n, ma, mc, ms, pa, pc, ps, x, nl⟩ := o
  obtain ⟨⟨op1, op2⟩, ⟨on1, on2⟩, ⟨oml1, oml2⟩, oms, ⟨opl1, opl2⟩, ops, opt⟩ := hok
  simp only at *
  subst hN
  obtain ⟨W0, hW0⟩ : ∃ W0, W0 = w.alloc (.cells #[.int .i64 k, .int .i64 p, .int .i64 n, .slice ma ms.length mc, .slice pa ps.length pc, .int .u32 (x.toNat : Int), .bool true] 36) := ⟨_, rfl⟩
  have hB0 : Blk W0 w.heap.size [.int .i64 k, .int .i64 p, .int .i64 n, .slice ma ms.length mc, .slice pa ps.length pc, .int .u32 (x.toNat : Int), .bool true] 36 := by rw [hW0]; exact Blk.new w _ 36
  have hk0 : Keeps (fun _ => False) w W0 := by rw [hW0]; exact (Keeps.refl _ w).alloc _
  have hD0 := hD.grown hk0
  have hkw := hk.trans hk0 fun _ _ e => e
  obtain ⟨O, hO⟩ : ∃ O, O = w.heap.size := ⟨_, rfl⟩
  rw [← hO] at hB0
  have hOg : ¬ O = g := by have := hD.mm.row.lt; omega
  have hOr : ¬ O = rg := by have := hD.rm.ltg; omega
  have HPt : Hid (∀ W, Mm W b g xs → Calls Try.prog 26 #[.pointer none, .int .i64 p, .int .i64 n] W (RdP W (rdM true xs p n) (rdF true xs p n) (rdT true xs p n) (lkE true xs p 3 n))) := fun W hM => read_any true b g xs p n W hM op2
  have HRp : Hid (∀ W, Rm W rb rg xs → Calls Try.prog 33 #[.pointer none, .int .i64 p, .int .i64 n] W (RrP W (rdM true xs p n) (rdF true xs p n) (rdT true xs p n) (lkE true xs p 3 n))) := fun W hR => rread_any true rb rg xs p n W hR op1 op2
  have hml : (rdM true xs p n).length ≤ 1000000000 := by
    unfold rdM
    split
    · have hs := hD.mm.small
      unfold win
      rw [List.length_take, List.length_drop]; omega
    · simp
  obtain ⟨E, hE⟩ : ∃ E, E = lkE true xs p 3 n := ⟨_, rfl⟩
  obtain ⟨rm, hrm⟩ : ∃ E, E = rdM true xs p n := ⟨_, rfl⟩
  obtain ⟨rf, hrf⟩ : ∃ E, E = rdF true xs p n := ⟨_, rfl⟩
  obtain ⟨rt, hrt⟩ : ∃ E, E = rdT true xs p n := ⟨_, rfl⟩
  rw [← hE, ← hrm, ← hrf, ← hrt] at HPt HRp
  rw [← hrm] at hml
  have HSm : Hid (∀ W a1 c1 a2 c2, SegW W a1 rm → SegW W a2 rm → Calls Try.prog 13 #[.slice a1 rm.length c1, .slice a2 rm.length c2] W fun e w' => e = .returned (.bool true) ∧ Keeps (fun _ => False) W w') := fun W a1 c1 a2 c2 s1 s2 => same_any a1 a2 c1 c2 rm W s1 s2 hml
  obtain ⟨Lr, hLr⟩ : ∃ L, L = rm.length := ⟨_, rfl⟩
  unfold RdP Told at HPt
  unfold RrP at HRp
  rw [← hLr] at HSm
  have q0 : (k == 0) = false := beq_eq_false_iff_ne.2 hK0
  have q1 : (k == 1) = false := beq_eq_false_iff_ne.2 hK1
  have q2 : (k == 2) = false := beq_eq_false_iff_ne.2 hK2
  have q4 : (k == 4) = false := beq_eq_false_iff_ne.2 hK4
  obtain ⟨Lm, hLm⟩ : ∃ L, L = ms.length := ⟨_, rfl⟩
  obtain ⟨Lp, hLp⟩ : ∃ L, L = ps.length := ⟨_, rfl⟩
  obtain ⟨X, hX⟩ : ∃ X : Nat, X = x.toNat := ⟨_, rfl⟩
  rw [← hLm, ← hLp, ← hX] at hB0 hW0
  rw [← hLm, ← hLp] at hl
  unfold Opn.v
  simp only
  rw [← hLm, ← hLp, ← hX]
  have l1 : ¬ (2147483647 : Int) < (Lm : Int) := by omega
  have l2 : ¬ (2147483647 : Int) < (Lp : Int) := by omega
  have HC : Hid (∀ W, (Keeps (fun _ => False) W0 W ∨ Keeps (fun k => k = g ∨ k = rg) W0 W) → W.cell? ⟨O, 1, none⟩ = some (.int .i64 p) ∧ W.cell? ⟨O, 2, none⟩ = some (.int .i64 n) ∧ W.cell? ⟨O, 3, none⟩ = some (.slice ma Lm mc) ∧ W.cell? ⟨O, 4, none⟩ = some (.slice pa Lp pc) ∧ W.cell? ⟨O, 5, none⟩ = some (.int .u32 (X : Int))) := fun W kk => by
    have hB : Blk W O [.int .i64 k, .int .i64 p, .int .i64 n, .slice ma Lm mc, .slice pa Lp pc, .int .u32 (X : Int), .bool true] 36 := by
      rcases kk with kk | kk
      · exact hB0.kept kk fun e => e
      · exact hB0.kept kk fun e => by rcases e with e | e; exact hOg e; exact hOr e
    exact ⟨hB.cell rfl, hB.cell rfl, hB.cell rfl, hB.cell rfl, hB.cell rfl⟩
  have HX : Hid (W0 = w.alloc (.cells #[.int .i64 k, .int .i64 p, .int .i64 n, .slice ma Lm mc, .slice pa Lp pc, .int .u32 (X : Int), .bool true] 36) ∧ O = w.heap.size ∧ Duo W0 b g rb rg xs ∧ Keeps (fun _ => False) w0 W0 ∧ w0.heap.size ≤ g ∧ w0.heap.size ≤ rg ∧ Keeps (fun k => k = g ∨ k = rg) w W0) := ⟨hW0, hO, hD0, hkw, hg, hrg, hk0.mono fun _ _ e => e.elim⟩
  clear hD hk op1 op2 on1 on2 oml1 oml2 oms opl1 opl2 ops opt hg hrg hl hW0 hB0 hk0 hD0 hkw hO hOg hOr hml hE hrf hrt hK0 hK1 hK2 hK4 hLm hLp hX
  go_enter Try.func11, Try.ntmps11
  go_wp2_with fail
  rw [← HX.out.1, ← HX.out.2.1]
  refine (HPt.out W0 HX.out.2.2.1.mm).mono ?_
  rintro e w1 ⟨v, rfl, hv, hk1⟩
  obtain ⟨a1, c1, rfl, hs1⟩ : ∃ a c, v = .slice a Lr c ∧ SegW w1 a rm := by
    rcases hv with ⟨e1, rfl⟩ | ⟨G, _, rfl, hB⟩
    · exact ⟨none, 0, by rw [hLr, e1]; rfl, by rw [e1]; exact .inl rfl⟩
    · exact ⟨_, _, by rw [hLr], segW_of_blk hB⟩
  have H1 : Hid (Keeps (fun _ => False) W0 w1 ∧ SegW w1 a1 rm ∧ Lr = rm.length) := ⟨hk1, hs1, hLr⟩
  have HR1 : Hid (Calls _ _ _ _ _) := HRp.out w1 (HX.out.2.2.1.grown hk1).rm
  obtain ⟨f1, f2, f3, f4, f5⟩ := HC.out w1 (.inl hk1)
  clear hv hs1 hk1 hLr HPt HRp HC
  go_wp2_with fail
  refine HR1.out.mono ?_
  rintro e w2 ⟨a2, c2, rfl, hs2, hk2⟩
  rw [← H1.out.2.2]
  have HS2 : Hid (Calls _ _ _ _ _) := HSm.out w2 a1 c1 a2 c2 (H1.out.2.1.kept hk2 (fun _ _ e => e)) hs2
  have H2 : Hid (Keeps (fun _ => False) W0 w2) := H1.out.1.trans hk2 fun _ _ e => e
  clear hs2 hk2 HR1 HSm f1 f2 f3 f4 f5
  go_wp2_with fail
  refine HS2.out.mono ?_
  rintro e w3 ⟨rfl, hk3⟩
  have H3 : Hid (Keeps (fun _ => False) W0 w3) := H2.out.trans hk3 fun _ _ e => e
  clear hk3 HS2
  go_wp2
  go_ret
  exact ⟨rfl, HX.out.2.2.1.grown H3.out, HX.out.2.2.2.1.trans H3.out (fun _ _ e => e), HX.out.2.2.2.2.2.2.trans H3.out fun _ _ e => e.elim⟩

set_option maxRecDepth 20000 in
set_option maxHeartbeats 2000000 in
theorem one_4f (w0 : World) (b g rb rg : Nat) (xs : List UInt32) (o : Opn) (w : World) (hD : Duo w b g rb rg xs) (hk : Keeps (fun _ => False) w0 w) (hok : o.Ok w0) (hg : w0.heap.size ≤ g) (hrg : w0.heap.size ≤ rg) (hl : o.ms.length ≤ 2147483647 ∧ o.ps.length ≤ 2147483647) (hK : o.k = 4) (hN : o.nil = false) :
    Calls Try.prog 11 #[.pointer (some ⟨b, 0, none⟩), .pointer (some ⟨rb, 0, none⟩), o.v] w (OneP w0 w b g rb rg (wrX false xs o.p o.x)) := by
  obtain ⟨k, p, n, ma, mc, ms, pa, pc, ps, x, nl⟩ := o
  obtain ⟨⟨op1, op2⟩, ⟨on1, on2⟩, ⟨oml1, oml2⟩, oms, ⟨opl1, opl2⟩, ops, opt⟩ := hok
  simp only at *
  subst hN
  subst hK
  obtain ⟨W0, hW0⟩ : ∃ W0, W0 = w.alloc (.cells #[.int .i64 4, .int .i64 p, .int .i64 n, .slice ma ms.length mc, .slice pa ps.length pc, .int .u32 (x.toNat : Int), .bool false] 36) := ⟨_, rfl⟩
  have hB0 : Blk W0 w.heap.size [.int .i64 4, .int .i64 p, .int .i64 n, .slice ma ms.length mc, .slice pa ps.length pc, .int .u32 (x.toNat : Int), .bool false] 36 := by rw [hW0]; exact Blk.new w _ 36
  have hk0 : Keeps (fun _ => False) w W0 := by rw [hW0]; exact (Keeps.refl _ w).alloc _
  have hD0 := hD.grown hk0
  have hkw := hk.trans hk0 fun _ _ e => e
  obtain ⟨O, hO⟩ : ∃ O, O = w.heap.size := ⟨_, rfl⟩
  rw [← hO] at hB0
  have hOg : ¬ O = g := by have := hD.mm.row.lt; omega
  have hOr : ¬ O = rg := by have := hD.rm.ltg; omega
  have HPt : Hid (∀ W, Mm W b g xs → Calls Try.prog 27 #[.pointer (some ⟨b, 0, none⟩), .int .i64 p, .int .u32 (x.toNat : Int)] W (PutP W b g xs (wrE false xs p) (wrX false xs p x))) := fun W hM => write_any false b g xs p x W hM op2
  have HRp : Hid (∀ W, Rm W rb rg xs → Calls Try.prog 32 #[.pointer (some ⟨rb, 0, none⟩), .int .i64 p, .int .u32 (x.toNat : Int)] W (PutR W rb rg (wrE false xs p) (wrX false xs p x))) := fun W hR => rwrite_any false rb rg xs p x W hR op1 op2
  obtain ⟨E, hE⟩ : ∃ E, E = wrE false xs p := ⟨_, rfl⟩
  rw [← hE] at HPt HRp
  obtain ⟨ys, hys⟩ : ∃ ys, ys = wrX false xs p x := ⟨_, rfl⟩
  rw [← hys] at HPt HRp ⊢
  obtain ⟨Lm, hLm⟩ : ∃ L, L = ms.length := ⟨_, rfl⟩
  obtain ⟨Lp, hLp⟩ : ∃ L, L = ps.length := ⟨_, rfl⟩
  obtain ⟨X, hX⟩ : ∃ X : Nat, X = x.toNat := ⟨_, rfl⟩
  rw [← hLm, ← hLp, ← hX] at hB0 hW0
  rw [← hLm, ← hLp] at hl
  unfold Opn.v
  simp only
  rw [← hLm, ← hLp, ← hX]
  rw [← hX] at HPt HRp
  have l1 : ¬ (2147483647 : Int) < (Lm : Int) := by omega
  have l2 : ¬ (2147483647 : Int) < (Lp : Int) := by omega
  have HC : Hid (∀ W, (Keeps (fun _ => False) W0 W ∨ Keeps (fun k => k = g ∨ k = rg) W0 W) → W.cell? ⟨O, 1, none⟩ = some (.int .i64 p) ∧ W.cell? ⟨O, 2, none⟩ = some (.int .i64 n) ∧ W.cell? ⟨O, 3, none⟩ = some (.slice ma Lm mc) ∧ W.cell? ⟨O, 4, none⟩ = some (.slice pa Lp pc) ∧ W.cell? ⟨O, 5, none⟩ = some (.int .u32 (X : Int))) := fun W kk => by
    have hB : Blk W O [.int .i64 4, .int .i64 p, .int .i64 n, .slice ma Lm mc, .slice pa Lp pc, .int .u32 (X : Int), .bool false] 36 := by
      rcases kk with kk | kk
      · exact hB0.kept kk fun e => e
      · exact hB0.kept kk fun e => by rcases e with e | e; exact hOg e; exact hOr e
    exact ⟨hB.cell rfl, hB.cell rfl, hB.cell rfl, hB.cell rfl, hB.cell rfl⟩
  have HX : Hid (W0 = w.alloc (.cells #[.int .i64 4, .int .i64 p, .int .i64 n, .slice ma Lm mc, .slice pa Lp pc, .int .u32 (X : Int), .bool false] 36) ∧ O = w.heap.size ∧ Duo W0 b g rb rg xs ∧ Keeps (fun _ => False) w0 W0 ∧ w0.heap.size ≤ g ∧ w0.heap.size ≤ rg ∧ Keeps (fun k => k = g ∨ k = rg) w W0) := ⟨hW0, hO, hD0, hkw, hg, hrg, hk0.mono fun _ _ e => e.elim⟩
  clear hD hk op1 op2 on1 on2 oml1 oml2 oms opl1 opl2 ops opt hg hrg hl hW0 hB0 hk0 hD0 hkw hO hOg hOr hE hys hLm hLp hX
  go_enter Try.func11, Try.ntmps11
  go_wp2_with fail
  rw [← HX.out.1, ← HX.out.2.1]
  refine (HPt.out W0 HX.out.2.2.1.mm).mono ?_
  rintro e w1 ⟨rfl, hM1, hk1⟩
  have hk01 : Keeps (fun k => k = g ∨ k = rg) W0 w1 := hk1.mono fun _ _ e => .inl e
  have H1 : Hid (Mm w1 b g ys ∧ Keeps (fun _ => False) w0 w1 ∧ Keeps (fun k => k = g ∨ k = rg) w w1) := ⟨hM1, HX.out.2.2.2.1.trans hk1 (fun b hb e => by have := HX.out.2.2.2.2.1; omega), HX.out.2.2.2.2.2.2.trans hk1 fun _ _ e => .inl e⟩
  have HR1 : Hid (Calls _ _ _ _ _) := HRp.out w1 (HX.out.2.2.1.rm1 hk1)
  obtain ⟨f1, f2, f3, f4, f5⟩ := HC.out w1 (.inr hk01)
  clear hM1 hk1 hk01 HPt HRp HC
  go_wp2_with fail
  refine HR1.out.mono ?_
  rintro e w2 ⟨rfl, hM2, hk2⟩
  have H2 : Hid (Duo w2 b g rb rg ys ∧ Keeps (fun _ => False) w0 w2 ∧ Keeps (fun k => k = g ∨ k = rg) w w2) := ⟨HX.out.2.2.1.both H1.out.1 hM2 hk2, H1.out.2.1.trans hk2 (fun b hb e => by have := HX.out.2.2.2.2.2.1; omega), H1.out.2.2.trans hk2 fun _ _ e => .inr e⟩
  clear hM2 hk2 HR1 f1 f2 f3 f4 f5
  go_wp2
  go_ret
  exact ⟨rfl, H2.out⟩

set_option maxRecDepth 20000 in
set_option maxHeartbeats 2000000 in
theorem one_4t (w0 : World) (b g rb rg : Nat) (xs : List UInt32) (o : Opn) (w : World) (hD : Duo w b g rb rg xs) (hk : Keeps (fun _ => False) w0 w) (hok : o.Ok w0) (hg : w0.heap.size ≤ g) (hrg : w0.heap.size ≤ rg) (hl : o.ms.length ≤ 2147483647 ∧ o.ps.length ≤ 2147483647) (hK : o.k = 4) (hN : o.nil = true) :
    Calls Try.prog 11 #[.pointer (some ⟨b, 0, none⟩), .pointer (some ⟨rb, 0, none⟩), o.v] w (OneP w0 w b g rb rg (wrX true xs o.p o.x)) := by
  obtain ⟨k, p, n, ma, mc, ms, pa, pc, ps, x, nl⟩ := o
  obtain ⟨⟨op1, op2⟩, ⟨on1, on2⟩, ⟨oml1, oml2⟩, oms, ⟨opl1, opl2⟩, ops, opt⟩ := hok
  simp only at *
  subst hN
  subst hK
  obtain ⟨W0, hW0⟩ : ∃ W0, W0 = w.alloc (.cells #[.int .i64 4, .int .i64 p, .int .i64 n, .slice ma ms.length mc, .slice pa ps.length pc, .int .u32 (x.toNat : Int), .bool true] 36) := ⟨_, rfl⟩
  have hB0 : Blk W0 w.heap.size [.int .i64 4, .int .i64 p, .int .i64 n, .slice ma ms.length mc, .slice pa ps.length pc, .int .u32 (x.toNat : Int), .bool true] 36 := by rw [hW0]; exact Blk.new w _ 36
  have hk0 : Keeps (fun _ => False) w W0 := by rw [hW0]; exact (Keeps.refl _ w).alloc _
  have hD0 := hD.grown hk0
  have hkw := hk.trans hk0 fun _ _ e => e
  obtain ⟨O, hO⟩ : ∃ O, O = w.heap.size := ⟨_, rfl⟩
  rw [← hO] at hB0
  have hOg : ¬ O = g := by have := hD.mm.row.lt; omega
  have hOr : ¬ O = rg := by have := hD.rm.ltg; omega
  have HPt : Hid (∀ W, Mm W b g xs → Calls Try.prog 27 #[.pointer none, .int .i64 p, .int .u32 (x.toNat : Int)] W (PutP W b g xs (wrE true xs p) (wrX true xs p x))) := fun W hM => write_any true b g xs p x W hM op2
  have HRp : Hid (∀ W, Rm W rb rg xs → Calls Try.prog 32 #[.pointer none, .int .i64 p, .int .u32 (x.toNat : Int)] W (PutR W rb rg (wrE true xs p) (wrX true xs p x))) := fun W hR => rwrite_any true rb rg xs p x W hR op1 op2
  obtain ⟨E, hE⟩ : ∃ E, E = wrE true xs p := ⟨_, rfl⟩
  rw [← hE] at HPt HRp
  obtain ⟨ys, hys⟩ : ∃ ys, ys = wrX true xs p x := ⟨_, rfl⟩
  rw [← hys] at HPt HRp ⊢
  obtain ⟨Lm, hLm⟩ : ∃ L, L = ms.length := ⟨_, rfl⟩
  obtain ⟨Lp, hLp⟩ : ∃ L, L = ps.length := ⟨_, rfl⟩
  obtain ⟨X, hX⟩ : ∃ X : Nat, X = x.toNat := ⟨_, rfl⟩
  rw [← hLm, ← hLp, ← hX] at hB0 hW0
  rw [← hLm, ← hLp] at hl
  unfold Opn.v
  simp only
  rw [← hLm, ← hLp, ← hX]
  rw [← hX] at HPt HRp
  have l1 : ¬ (2147483647 : Int) < (Lm : Int) := by omega
  have l2 : ¬ (2147483647 : Int) < (Lp : Int) := by omega
  have HC : Hid (∀ W, (Keeps (fun _ => False) W0 W ∨ Keeps (fun k => k = g ∨ k = rg) W0 W) → W.cell? ⟨O, 1, none⟩ = some (.int .i64 p) ∧ W.cell? ⟨O, 2, none⟩ = some (.int .i64 n) ∧ W.cell? ⟨O, 3, none⟩ = some (.slice ma Lm mc) ∧ W.cell? ⟨O, 4, none⟩ = some (.slice pa Lp pc) ∧ W.cell? ⟨O, 5, none⟩ = some (.int .u32 (X : Int))) := fun W kk => by
    have hB : Blk W O [.int .i64 4, .int .i64 p, .int .i64 n, .slice ma Lm mc, .slice pa Lp pc, .int .u32 (X : Int), .bool true] 36 := by
      rcases kk with kk | kk
      · exact hB0.kept kk fun e => e
      · exact hB0.kept kk fun e => by rcases e with e | e; exact hOg e; exact hOr e
    exact ⟨hB.cell rfl, hB.cell rfl, hB.cell rfl, hB.cell rfl, hB.cell rfl⟩
  have HX : Hid (W0 = w.alloc (.cells #[.int .i64 4, .int .i64 p, .int .i64 n, .slice ma Lm mc, .slice pa Lp pc, .int .u32 (X : Int), .bool true] 36) ∧ O = w.heap.size ∧ Duo W0 b g rb rg xs ∧ Keeps (fun _ => False) w0 W0 ∧ w0.heap.size ≤ g ∧ w0.heap.size ≤ rg ∧ Keeps (fun k => k = g ∨ k = rg) w W0) := ⟨hW0, hO, hD0, hkw, hg, hrg, hk0.mono fun _ _ e => e.elim⟩
  clear hD hk op1 op2 on1 on2 oml1 oml2 oms opl1 opl2 ops opt hg hrg hl hW0 hB0 hk0 hD0 hkw hO hOg hOr hE hys hLm hLp hX
  go_enter Try.func11, Try.ntmps11
  go_wp2_with fail
  rw [← HX.out.1, ← HX.out.2.1]
  refine (HPt.out W0 HX.out.2.2.1.mm).mono ?_
  rintro e w1 ⟨rfl, hM1, hk1⟩
  have hk01 : Keeps (fun k => k = g ∨ k = rg) W0 w1 := hk1.mono fun _ _ e => .inl e
  have H1 : Hid (Mm w1 b g ys ∧ Keeps (fun _ => False) w0 w1 ∧ Keeps (fun k => k = g ∨ k = rg) w w1) := ⟨hM1, HX.out.2.2.2.1.trans hk1 (fun b hb e => by have := HX.out.2.2.2.2.1; omega), HX.out.2.2.2.2.2.2.trans hk1 fun _ _ e => .inl e⟩
  have HR1 : Hid (Calls _ _ _ _ _) := HRp.out w1 (HX.out.2.2.1.rm1 hk1)
  obtain ⟨f1, f2, f3, f4, f5⟩ := HC.out w1 (.inr hk01)
  clear hM1 hk1 hk01 HPt HRp HC
  go_wp2_with fail
  refine HR1.out.mono ?_
  rintro e w2 ⟨rfl, hM2, hk2⟩
  have H2 : Hid (Duo w2 b g rb rg ys ∧ Keeps (fun _ => False) w0 w2 ∧ Keeps (fun k => k = g ∨ k = rg) w w2) := ⟨HX.out.2.2.1.both H1.out.1 hM2 hk2, H1.out.2.1.trans hk2 (fun b hb e => by have := HX.out.2.2.2.2.2.1; omega), H1.out.2.2.trans hk2 fun _ _ e => .inr e⟩
  clear hM2 hk2 HR1 f1 f2 f3 f4 f5
  go_wp2
  go_ret
  exact ⟨rfl, H2.out⟩

end Go.Proofs.Ytfcgpjojjehkiaa
