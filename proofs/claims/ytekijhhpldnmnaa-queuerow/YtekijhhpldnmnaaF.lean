import Derived.Test.YtekijhhpldnmnaaPv
import Derived.Test.YtekijhhpldnmnaaAa
import Derived.Deep.RegionHeld3
import Derived.OwnWalkIn
namespace Go.Proofs.Ytekijhhpldnmnaa
open Go.RowKit
set_option linter.unusedVariables false
set_option linter.unusedSimpArgs false

theorem Try.mixd : Try.prog.follows Departure.mixedOrders = true := by kernel_rfl

abbrev rwv (p : Int) (h n d g N : Nat) : Value := .agg #[.int .i64 p, .int .i64 h, .int .i64 n, .int .i64 d, .slice (some ⟨g, 0, none⟩) N N]
abbrev rwc (p : Int) (h n d g N : Nat) : Array Value := #[.int .i64 p, .int .i64 h, .int .i64 n, .int .i64 d, .slice (some ⟨g, 0, none⟩) N N]

/-- A row's words lie in this block. -/
structure Rb (w : World) (g h n d : Nat) (l : List UInt32) : Prop where
  blk : Blk w g (wvs l) 52
  len : l.length = h + d * (1 + n)
  hh : h = 1 ∨ h = 3
  n1 : 1 ≤ n
  n2 : n ≤ 16
  d1 : 1 ≤ d
  d2 : d ≤ 8
theorem Rb.kept {S : Nat → Prop} {w w' : World} {g h n d : Nat} {l : List UInt32} (r : Rb w g h n d l) (k : Keeps S w w') (hn : ¬ S g) : Rb w' g h n d l :=
  ⟨r.blk.kept k hn, r.len, r.hh, r.n1, r.n2, r.d1, r.d2⟩
theorem Rb.grown {w w' : World} {g h n d : Nat} {l : List UInt32} (r : Rb w g h n d l) (k : Keeps (fun _ => False) w w') : Rb w' g h n d l := r.kept k fun e => e
theorem Rb.big {w : World} {g h n d : Nat} {l : List UInt32} (r : Rb w g h n d l) : h + 2 ≤ l.length ∧ l.length ≤ 139 := by
  have h1 := Nat.mul_le_mul r.d2 (show 1 + n ≤ 17 by have := r.n2; omega)
  have h2 := Nat.mul_le_mul r.d1 (show 2 ≤ 1 + n by have := r.n1; omega)
  rw [r.len]
  rcases r.hh with rfl | rfl <;> omega

theorem row_new (w : World) (p : Int) (h n d g N : Nat) : ∃ W, W = w.alloc (.cells (rwc p h n d g N) 75) ∧ Keeps (fun _ => False) w W ∧ Blk W w.heap.size (rwc p h n d g N).toList 75 :=
  ⟨_, rfl, (Keeps.refl _ w).alloc _, Blk.new w _ 75⟩

section
variable (p : Int) (g h n d N : Nat) (l : List UInt32) (w : World)

set_option maxHeartbeats 400000 in
theorem countAt_any (hh : h = 1 ∨ h = 3) :
    Calls Try.prog 62 #[rwv p h n d g N] w fun e w' => e = .returned (.int .i64 (cntI h : Nat)) ∧ Keeps (fun _ => False) w w' := by
  have HK : Hid (Keeps (fun _ => False) w (w.alloc (.cells (rwc p h n d g N) 75))) := (Keeps.refl _ w).alloc _
  rcases hh with rfl | rfl
  · show Calls _ _ _ _ fun e w' => e = .returned (.int .i64 0) ∧ _
    go_enter Try.func62, Try.ntmps62
    go_wp2
    go_ret
    exact ⟨rfl, HK.out⟩
  · show Calls _ _ _ _ fun e w' => e = .returned (.int .i64 1) ∧ _
    go_enter Try.func62, Try.ntmps62
    go_wp2
    go_ret
    exact ⟨rfl, HK.out⟩

set_option maxHeartbeats 400000 in
theorem first_any (r : Rb w g h n d l) (hN : N = l.length) :
    Calls Try.prog 69 #[rwv p h n d g N] w fun e w' => e = .returned (.int .u32 (fstW h l : Nat)) ∧ Keeps (fun _ => False) w w' := by
  have HK : Hid (Keeps (fun _ => False) w (w.alloc (.cells (rwc p h n d g N) 75))) := (Keeps.refl _ w).alloc _
  have hb := r.big
  have hN2 : 0 < (N : Int) := by omega
  rcases r.hh with rfl | rfl
  · have e : fstW 1 l = 0 := rfl
    rw [e]
    show Calls _ _ _ _ fun e w' => e = .returned (.int .u32 0) ∧ _
    clear r hb hN
    go_enter Try.func69, Try.ntmps69
    go_wp2
    go_ret
    exact ⟨rfl, HK.out⟩
  · have e : fstW 3 l = (wd l 0).toNat := rfl
    rw [e]
    have c0 : (w.alloc (.cells #[.int .i64 p, .int .i64 3, .int .i64 n, .int .i64 d, .slice (some ⟨g, 0, none⟩) N N] 75)).cell? ⟨g, 0, none⟩ = some (.int .u32 ((wd l 0).toNat : Int)) := (r.blk.alloc _).cell (wvs_wd (by omega))
    obtain ⟨v, hv⟩ : ∃ v : Nat, v = (wd l 0).toNat := ⟨_, rfl⟩
    rw [← hv] at c0 ⊢
    clear r hb hN hv e
    go_enter Try.func69, Try.ntmps69
    go_wp2
    go_ret
    exact ⟨rfl, HK.out⟩

set_option maxHeartbeats 400000 in
theorem count_any (r : Rb w g h n d l) (hN : N = l.length) :
    Calls Try.prog 65 #[rwv p h n d g N] w fun e w' => e = .returned (.int .u32 (cntW h l : Nat)) ∧ Keeps (fun _ => False) w w' := by
  obtain ⟨W, hW, hK, hB⟩ := row_new w p h n d g N
  have hb := r.big
  have hg : g ≠ w.heap.size := by have := r.blk.lt; omega
  have rW := r.grown hK
  have hi : cntI h < h := by rcases r.hh with rfl | rfl <;> decide
  have HC := fun W1 (k : Keeps (fun _ => False) W W1) => (countAt_any p g h n d N W1 r.hh).mono fun e w' ⟨h1, h2⟩ => And.intro h1 (k.trans h2 fun _ _ e => e)
  obtain ⟨v, hv⟩ : ∃ v : Nat, v = cntW h l := ⟨_, rfl⟩
  obtain ⟨i, hi2⟩ : ∃ v : Nat, v = cntI h := ⟨_, rfl⟩
  have hcell : ∀ W1, Keeps (fun _ => False) W W1 → W1.cell? ⟨w.heap.size, 0, none⟩ = some (.int .i64 p) ∧ W1.cell? ⟨w.heap.size, 1, none⟩ = some (.int .i64 h) ∧ W1.cell? ⟨w.heap.size, 2, none⟩ = some (.int .i64 n) ∧ W1.cell? ⟨w.heap.size, 3, none⟩ = some (.int .i64 d) ∧ W1.cell? ⟨w.heap.size, 4, none⟩ = some (.slice (some ⟨g, 0, none⟩) N N) ∧ W1.cell? ⟨g, i, none⟩ = some (.int .u32 v) := fun W1 k => by
    have q := hB.kept k fun e => e
    refine ⟨q.cell rfl, q.cell rfl, q.cell rfl, q.cell rfl, q.cell rfl, ?_⟩
    have := (rW.grown k).blk.cell (wvs_wd (l := l) (i := cntI h) (by omega))
    rw [hi2, hv]
    exact this
  rw [← hv]
  rw [← hi2] at HC
  have HC : Hid (∀ W1, Keeps (fun _ => False) W W1 → Calls Try.prog 62 #[rwv p h n d g N] W1 fun e w' => e = .returned (.int .i64 i) ∧ Keeps (fun _ => False) W w') := HC
  have hS := hcell W (Keeps.refl _ _)
  have q1 : (i : Int) < (N : Int) := by omega
  have HS : Hid (∀ W1, Keeps (fun _ => False) W W1 → _) := hcell
  obtain ⟨O, hO⟩ : ∃ O, O = w.heap.size := ⟨_, rfl⟩
  rw [← hO] at HS hS
  have HW : Hid (W = _ ∧ Keeps (fun _ => False) w W ∧ O = w.heap.size) := ⟨hW, hK, hO⟩
  clear hcell hW hK hB hb hg rW hi r hN hv hi2 hO
  go_enter Try.func65, Try.ntmps65
  go_wp2
  rw [← HW.out.1, ← HW.out.2.2]
  go_region_held3 (fun w' => w'.cell? ⟨O, 0, none⟩ = some (.int .i64 p) ∧ w'.cell? ⟨O, 1, none⟩ = some (.int .i64 h) ∧ w'.cell? ⟨O, 2, none⟩ = some (.int .i64 n) ∧ w'.cell? ⟨O, 3, none⟩ = some (.int .i64 d) ∧ w'.cell? ⟨O, 4, none⟩ = some (.slice (some ⟨g, 0, none⟩) N N) ∧ w'.cell? ⟨g, i, none⟩ = some (.int .u32 v)) (first | exact hS1 | exact hS | go_keep)
    (first | (go_at_call 62; refine (HC.out _ ((Keeps.refl _ W).drewN _)).mono ?_; rintro e w1 ⟨rfl, hk1⟩; have hS1 := HS.out w1 hk1))
  go_wp2
  go_ret
  exact ⟨rfl, HW.out.2.1.trans hk1 fun _ _ e => e⟩

set_option maxHeartbeats 400000 in
theorem size_any (r : Rb w g h n d l) (hN : N = l.length) :
    Calls Try.prog 47 #[rwv p h n d g N] w fun e w' => e = .returned (.int .i64 (cntW h l : Nat)) ∧ Keeps (fun _ => False) w w' := by
  obtain ⟨W, hW, hK, hB⟩ := row_new w p h n d g N
  have HC : Hid (Calls _ _ _ _ _) := count_any p g h n d N l W (r.grown hK) hN
  have hv2 : cntW h l < 4294967296 := (wd l (cntI h)).toNat_lt
  obtain ⟨v, hv⟩ : ∃ v : Nat, v = cntW h l := ⟨_, rfl⟩
  rw [← hv] at HC hv2 ⊢
  have hv3 : (v : Int) < 4294967296 := by omega
  have HW : Hid (W = _ ∧ Keeps (fun _ => False) w W) := ⟨hW, hK⟩
  clear hW hK hB r hN hv hv2
  go_enter Try.func47, Try.ntmps47
  go_wp2_with fail
  rw [← HW.out.1]
  refine HC.out.mono ?_
  rintro e w1 ⟨rfl, hk⟩
  have HK : Hid (Keeps _ _ _) := hk
  clear hk HC
  go_wp2
  go_ret
  exact ⟨rfl, HW.out.2.trans HK.out fun _ _ e => e⟩

set_option maxHeartbeats 400000 in
theorem full_any (r : Rb w g h n d l) (hN : N = l.length) :
    Calls Try.prog 40 #[rwv p h n d g N] w fun e w' => e = .returned (.bool (decide (cntW h l = d))) ∧ Keeps (fun _ => False) w w' := by
  obtain ⟨W, hW, hK, hB⟩ := row_new w p h n d g N
  have rW := r.grown hK
  have HC := fun W1 (k : Keeps (fun _ => False) W W1) => (size_any p g h n d N l W1 (rW.grown k) hN).mono fun e w' ⟨h1, h2⟩ => And.intro h1 (k.trans h2 fun _ _ e => e)
  obtain ⟨v, hv⟩ : ∃ v : Nat, v = cntW h l := ⟨_, rfl⟩
  have hcell : ∀ W1, Keeps (fun _ => False) W W1 → W1.cell? ⟨w.heap.size, 0, none⟩ = some (.int .i64 p) ∧ W1.cell? ⟨w.heap.size, 1, none⟩ = some (.int .i64 h) ∧ W1.cell? ⟨w.heap.size, 2, none⟩ = some (.int .i64 n) ∧ W1.cell? ⟨w.heap.size, 3, none⟩ = some (.int .i64 d) ∧ W1.cell? ⟨w.heap.size, 4, none⟩ = some (.slice (some ⟨g, 0, none⟩) N N) := fun W1 k => by
    have q := hB.kept k fun e => e
    exact ⟨q.cell rfl, q.cell rfl, q.cell rfl, q.cell rfl, q.cell rfl⟩
  rw [← hv] at HC ⊢
  have HC : Hid (∀ W1, Keeps (fun _ => False) W W1 → Calls Try.prog 47 #[rwv p h n d g N] W1 fun e w' => e = .returned (.int .i64 v) ∧ Keeps (fun _ => False) W w') := HC
  have hS := hcell W (Keeps.refl _ _)
  have HS : Hid (∀ W1, Keeps (fun _ => False) W W1 → _) := hcell
  obtain ⟨O, hO⟩ : ∃ O, O = w.heap.size := ⟨_, rfl⟩
  rw [← hO] at HS hS
  have HW : Hid (W = _ ∧ Keeps (fun _ => False) w W ∧ O = w.heap.size) := ⟨hW, hK, hO⟩
  have HE : Hid (((v : Int) == (d : Int)) = decide (v = d)) := by
    show ((v : Int) == (d : Int)) = decide (v = d)
    by_cases hvd : v = d
    · subst hvd; simp
    · have : ¬ (v : Int) = (d : Int) := by omega
      rw [decide_eq_false hvd]; exact beq_eq_false_iff_ne.2 this
  clear hcell hW hK hB rW r hN hv hO
  go_enter Try.func40, Try.ntmps40
  go_wp2
  rw [← HW.out.1, ← HW.out.2.2]
  go_region_held3 (fun w' => w'.cell? ⟨O, 0, none⟩ = some (.int .i64 p) ∧ w'.cell? ⟨O, 1, none⟩ = some (.int .i64 h) ∧ w'.cell? ⟨O, 2, none⟩ = some (.int .i64 n) ∧ w'.cell? ⟨O, 3, none⟩ = some (.int .i64 d) ∧ w'.cell? ⟨O, 4, none⟩ = some (.slice (some ⟨g, 0, none⟩) N N)) (first | exact hS1 | exact hS | go_keep)
    (first | (go_at_call 47; refine (HC.out _ ((Keeps.refl _ W).drewN _)).mono ?_; rintro e w1 ⟨rfl, hk1⟩; have hS1 := HS.out w1 hk1))
  go_wp2
  go_ret
  exact ⟨ret_bool (by first | exact HE.out | simp), HW.out.2.1.trans hk1 fun _ _ e => e⟩
end

end Go.Proofs.Ytekijhhpldnmnaa
