import Derived.Test.YtekijhhpldnmnaaPv
import Derived.Test.YtekijhhpldnmnaaAa
import Derived.Deep.RegionHeld3
import Derived.OwnWalkIn
namespace Go.Proofs.Ytekijhhpldnmnaa
open Go.RowKit
set_option linter.unusedVariables false
set_option linter.unusedSimpArgs false

theorem Try.mixd : Try.prog.follows Departure.mixedOrders = true := by kernel_rfl

abbrev rwv (p : Int) (h n d g N : Nat) : Value := .agg #[.int .i64 p, .int .i64 h, .int .i64 n, .int .i64 d, .slice (some ⟨g, 0, none⟩) N N]
abbrev rwc (p : Int) (h n d g N : Nat) : Array Value := #[.int .i64 p, .int .i64 h, .int .i64 n, .int .i64 d, .slice (some ⟨g, 0, none⟩) N N]

/-- A row's words lie in this block. -/
structure Rb (w : World) (g h n d : Nat) (l : List UInt32) : Prop where
  blk : Blk w g (wvs l) 52
  len : l.length = h + d * (1 + n)
  hh : h = 1 ∨ h = 3
  n1 : 1 ≤ n
  n2 : n ≤ 16
  d1 : 1 ≤ d
  d2 : d ≤ 8
theorem Rb.kept {S : Nat → Prop} {w w' : World} {g h n d : Nat} {l : List UInt32} (r : Rb w g h n d l) (k : Keeps S w w') (hn : ¬ S g) : Rb w' g h n d l :=
  ⟨r.blk.kept k hn, r.len, r.hh, r.n1, r.n2, r.d1, r.d2⟩
theorem Rb.grown {w w' : World} {g h n d : Nat} {l : List UInt32} (r : Rb w g h n d l) (k : Keeps (fun _ => False) w w') : Rb w' g h n d l := r.kept k fun e => e
theorem Rb.big {w : World} {g h n d : Nat} {l : List UInt32} (r : Rb w g h n d l) : h + 2 ≤ l.length ∧ l.length ≤ 139 := by
  have h1 := Nat.mul_le_mul r.d2 (show 1 + n ≤ 17 by have := r.n2; omega)
  have h2 := Nat.mul_le_mul r.d1 (show 2 ≤ 1 + n by have := r.n1; omega)
  rw [r.len]
  rcases r.hh with rfl | rfl <;> omega

theorem row_new (w : World) (p : Int) (h n d g N : Nat) : ∃ W, W = w.alloc (.cells (rwc p h n d g N) 75) ∧ Keeps (fun _ => False) w W ∧ Blk W w.heap.size (rwc p h n d g N).toList 75 :=
  ⟨_, rfl, (Keeps.refl _ w).alloc _, Blk.new w _ 75⟩

section
variable (p : Int) (g h n d N : Nat) (l : List UInt32) (w : World)

set_option maxHeartbeats 400000 in
theorem countAt_any (hh : h = 1 ∨ h = 3) :
    Calls Try.prog 62 #[rwv p h n d g N] w fun e w' => e = .returned (.int .i64 (cntI h : Nat)) ∧ Keeps (fun _ => False) w w' := by
  have HK : Hid (Keeps (fun _ => False) w (w.alloc (.cells (rwc p h n d g N) 75))) := (Keeps.refl _ w).alloc _
  rcases hh with rfl | rfl
  · show Calls _ _ _ _ fun e w' => e = .returned (.int .i64 0) ∧ _
    go_enter Try.func62, Try.ntmps62
    go_wp2
    go_ret
    exact ⟨rfl, HK.out⟩
  · show Calls _ _ _ _ fun e w' => e = .returned (.int .i64 1) ∧ _
    go_enter Try.func62, Try.ntmps62
    go_wp2
    go_ret
    exact ⟨rfl, HK.out⟩

set_option maxHeartbeats 400000 in
theorem first_any (r : Rb w g h n d l) (hN : N = l.length) :
    Calls Try.prog 69 #[rwv p h n d g N] w fun e w' => e = .returned (.int .u32 (fstW h l : Nat)) ∧ Keeps (fun _ => False) w w' := by
  have HK : Hid (Keeps (fun _ => False) w (w.alloc (.cells (rwc p h n d g N) 75))) := (Keeps.refl _ w).alloc _
  have hb := r.big
  have hN2 : 0 < (N : Int) := by omega
  rcases r.hh with rfl | rfl
  · have e : fstW 1 l = 0 := rfl
    rw [e]
    show Calls _ _ _ _ fun e w' => e = .returned (.int .u32 0) ∧ _
    clear r hb hN
    go_enter Try.func69, Try.ntmps69
    go_wp2
    go_ret
    exact ⟨rfl, HK.out⟩
  · have e : fstW 3 l = (wd l 0).toNat := rfl
    rw [e]
    have c0 : (w.alloc (.cells #[.int .i64 p, .int .i64 3, .int .i64 n, .int .i64 d, .slice (some ⟨g, 0, none⟩) N N] 75)).cell? ⟨g, 0, none⟩ = some (.int .u32 ((wd l 0).toNat : Int)) := (r.blk.alloc _).cell (wvs_wd (by omega))
    obtain ⟨v, hv⟩ : ∃ v : Nat, v = (wd l 0).toNat := ⟨_, rfl⟩
    rw [← hv] at c0 ⊢
    clear r hb hN hv e
    go_enter Try.func69, Try.ntmps69
    go_wp2
    go_ret
    exact ⟨rfl, HK.out⟩

set_option maxHeartbeats 400000 in
theorem count_any (r : Rb w g h n d l) (hN : N = l.length) :
    Calls Try.prog 65 #[rwv p h n d g N] w fun e w' => e = .returned (.int .u32 (cntW h l : Nat)) ∧ Keeps (fun _ => False) w w' := by
  obtain ⟨W, hW, hK, hB⟩ := row_new w p h n d g N
  have hb := r.big
  have hg : g ≠ w.heap.size := by have := r.blk.lt; omega
  have rW := r.grown hK
  have hi : cntI h < h := by rcases r.hh with rfl | rfl <;> decide
  have HC := fun W1 (k : Keeps (fun _ => False) W W1) => (countAt_any p g h n d N W1 r.hh).mono fun e w' ⟨h1, h2⟩ => And.intro h1 (k.trans h2 fun _ _ e => e)
  obtain ⟨v, hv⟩ : ∃ v : Nat, v = cntW h l := ⟨_, rfl⟩
  obtain ⟨i, hi2⟩ : ∃ v : Nat, v = cntI h := ⟨_, rfl⟩
  have hcell : ∀ W1, Keeps (fun _ => False) W W1 → W1.cell? ⟨w.heap.size, 0, none⟩ = some (.int .i64 p) ∧ W1.cell? ⟨w.heap.size, 1, none⟩ = some (.int .i64 h) ∧ W1.cell? ⟨w.heap.size, 2, none⟩ = some (.int .i64 n) ∧ W1.cell? ⟨w.heap.size, 3, none⟩ = some (.int .i64 d) ∧ W1.cell? ⟨w.heap.size, 4, none⟩ = some (.slice (some ⟨g, 0, none⟩) N N) ∧ W1.cell? ⟨g, i, none⟩ = some (.int .u32 v) := fun W1 k => by
    have q := hB.kept k fun e => e
    refine ⟨q.cell rfl, q.cell rfl, q.cell rfl, q.cell rfl, q.cell rfl, ?_⟩
    have := (rW.grown k).blk.cell (wvs_wd (l := l) (i := cntI h) (by omega))
    rw [hi2, hv]
    exact this
  rw [← hv]
  rw [← hi2] at HC
  have HC : Hid (∀ W1, Keeps (fun _ => False) W W1 → Calls Try.prog 62 #[rwv p h n d g N] W1 fun e w' => e = .returned (.int .i64 i) ∧ Keeps (fun _ => False) W w') := HC
  have hS := hcell W (Keeps.refl _ _)
  have q1 : (i : Int) < (N : Int) := by omega
  have HS : Hid (∀ W1, Keeps (fun _ => False) W W1 → _) := hcell
  obtain ⟨O, hO⟩ : ∃ O, O = w.heap.size := ⟨_, rfl⟩
  rw [← hO] at HS hS
  have HW : Hid (W = _ ∧ Keeps (fun _ => False) w W ∧ O = w.heap.size) := ⟨hW, hK, hO⟩
  clear hcell hW hK hB hb hg rW hi r hN hv hi2 hO
  go_enter Try.func65, Try.ntmps65
  go_wp2
  rw [← HW.out.1, ← HW.out.2.2]
  go_region_held3 (fun w' => w'.cell? ⟨O, 0, none⟩ = some (.int .i64 p) ∧ w'.cell? ⟨O, 1, none⟩ = some (.int .i64 h) ∧ w'.cell? ⟨O, 2, none⟩ = some (.int .i64 n) ∧ w'.cell? ⟨O, 3, none⟩ = some (.int .i64 d) ∧ w'.cell? ⟨O, 4, none⟩ = some (.slice (some ⟨g, 0, none⟩) N N) ∧ w'.cell? ⟨g, i, none⟩ = some (.int .u32 v)) (first | exact hS1 | exact hS | go_keep)
    (first | (go_at_call 62; refine (HC.out _ ((Keeps.refl _ W).drewN _)).mono ?_; rintro e w1 ⟨rfl, hk1⟩; have hS1 := HS.out w1 hk1))
  go_wp2
  go_ret
  exact ⟨rfl, HW.out.2.1.trans hk1 fun _ _ e => e⟩

set_option maxHeartbeats 400000 in
theorem size_any (r : Rb w g h n d l) (hN : N = l.length) :
    Calls Try.prog 47 #[rwv p h n d g N] w fun e w' => e = .returned (.int .i64 (cntW h l : Nat)) ∧ Keeps (fun _ => False) w w' := by
  obtain ⟨W, hW, hK, hB⟩ := row_new w p h n d g N
  have HC : Hid (Calls _ _ _ _ _) := count_any p g h n d N l W (r.grown hK) hN
  have hv2 : cntW h l < 4294967296 := (wd l (cntI h)).toNat_lt
  obtain ⟨v, hv⟩ : ∃ v : Nat, v = cntW h l := ⟨_, rfl⟩
  rw [← hv] at HC hv2 ⊢
  have hv3 : (v : Int) < 4294967296 := by omega
  have HW : Hid (W = _ ∧ Keeps (fun _ => False) w W) := ⟨hW, hK⟩
  clear hW hK hB r hN hv hv2
  go_enter Try.func47, Try.ntmps47
  go_wp2_with fail
  rw [← HW.out.1]
  refine HC.out.mono ?_
  rintro e w1 ⟨rfl, hk⟩
  have HK : Hid (Keeps _ _ _) := hk
  clear hk HC
  go_wp2
  go_ret
  exact ⟨rfl, HW.out.2.trans HK.out fun _ _ e => e⟩

set_option maxHeartbeats 400000 in
theorem full_any (r : Rb w g h n d l) (hN : N = l.length) :
    Calls Try.prog 40 #[rwv p h n d g N] w fun e w' => e = .returned (.bool (decide (cntW h l = d))) ∧ Keeps (fun _ => False) w w' := by
  obtain ⟨W, hW, hK, hB⟩ := row_new w p h n d g N
  have rW := r.grown hK
  have HC := fun W1 (k : Keeps (fun _ => False) W W1) => (size_any p g h n d N l W1 (rW.grown k) hN).mono fun e w' ⟨h1, h2⟩ => And.intro h1 (k.trans h2 fun _ _ e => e)
  obtain ⟨v, hv⟩ : ∃ v : Nat, v = cntW h l := ⟨_, rfl⟩
  have hcell : ∀ W1, Keeps (fun _ => False) W W1 → W1.cell? ⟨w.heap.size, 0, none⟩ = some (.int .i64 p) ∧ W1.cell? ⟨w.heap.size, 1, none⟩ = some (.int .i64 h) ∧ W1.cell? ⟨w.heap.size, 2, none⟩ = some (.int .i64 n) ∧ W1.cell? ⟨w.heap.size, 3, none⟩ = some (.int .i64 d) ∧ W1.cell? ⟨w.heap.size, 4, none⟩ = some (.slice (some ⟨g, 0, none⟩) N N) := fun W1 k => by
    have q := hB.kept k fun e => e
    exact ⟨q.cell rfl, q.cell rfl, q.cell rfl, q.cell rfl, q.cell rfl⟩
  rw [← hv] at HC ⊢
  have HC : Hid (∀ W1, Keeps (fun _ => False) W W1 → Calls Try.prog 47 #[rwv p h n d g N] W1 fun e w' => e = .returned (.int .i64 v) ∧ Keeps (fun _ => False) W w') := HC
  have hS := hcell W (Keeps.refl _ _)
  have HS : Hid (∀ W1, Keeps (fun _ => False) W W1 → _) := hcell
  obtain ⟨O, hO⟩ : ∃ O, O = w.heap.size := ⟨_, rfl⟩
  rw [← hO] at HS hS
  have HW : Hid (W = _ ∧ Keeps (fun _ => False) w W ∧ O = w.heap.size) := ⟨hW, hK, hO⟩
  have HE : Hid (((v : Int) == (d : Int)) = decide (v = d)) := by
    show ((v : Int) == (d : Int)) = decide (v = d)
    by_cases hvd : v = d
    · subst hvd; simp
    · have : ¬ (v : Int) = (d : Int) := by omega
      rw [decide_eq_false hvd]; exact beq_eq_false_iff_ne.2 this
  clear hcell hW hK hB rW r hN hv hO
  go_enter Try.func40, Try.ntmps40
  go_wp2
  rw [← HW.out.1, ← HW.out.2.2]
  go_region_held3 (fun w' => w'.cell? ⟨O, 0, none⟩ = some (.int .i64 p) ∧ w'.cell? ⟨O, 1, none⟩ = some (.int .i64 h) ∧ w'.cell? ⟨O, 2, none⟩ = some (.int .i64 n) ∧ w'.cell? ⟨O, 3, none⟩ = some (.int .i64 d) ∧ w'.cell? ⟨O, 4, none⟩ = some (.slice (some ⟨g, 0, none⟩) N N)) (first | exact hS1 | exact hS | go_keep)
    (first | (go_at_call 47; refine (HC.out _ ((Keeps.refl _ W).drewN _)).mono ?_; rintro e w1 ⟨rfl, hk1⟩; have hS1 := HS.out w1 hk1))
  go_wp2
  go_ret
  exact ⟨ret_bool (by first | exact HE.out | simp), HW.out.2.1.trans hk1 fun _ _ e => e⟩
end

end Go.Proofs.Ytekijhhpldnmnaa
namespace Go.Proofs.Ytekijhhpldnmnaa
open Go.RowKit
set_option linter.unusedVariables false
set_option linter.unusedSimpArgs false

def plA (h n d : Nat) (l : List UInt32) (i : Nat) : Nat := h + pos d (fstW h l) i * (1 + n)
theorem plA_fit {w : World} {g h n d : Nat} {l : List UInt32} (r : Rb w g h n d l) (hf : fstW h l < d) {i : Nat} (hi : i < d) : plA h n d l i + (1 + n) ≤ l.length := by
  have := Nat.mul_le_mul_right (1 + n) (show pos d (fstW h l) i + 1 ≤ d from pos_lt hf hi)
  rw [Nat.add_mul] at this
  rw [r.len, plA]
  omega
theorem plc_win (h n d : Nat) (l : List UInt32) (i : Nat) : plc h n d l i = win l (plA h n d l i) (1 + n) := rfl

theorem ret_sl {a : Option Addr} {n m c : Nat} (h : n = m) : Ending.returned (.slice a n c) = .returned (.slice a m c) := by rw [h]
theorem run_rem (x d k : Int) (hd : ¬ d = 0) (h : Int.tmod x d = k) (w : World) : (binOp .rem 3 (.int .i64 x) (.int .i64 d)).run Try.prog w = .ok (.int .i64 k) w := by
  simp [binOp, go_sem, hd, h]
theorem run_rem32 (x d k : Int) (hd : ¬ d = 0) (h : Int.tmod x d = k) (w : World) : (binOp .rem 52 (.int .u32 x) (.int .u32 d)).run Try.prog w = .ok (.int .u32 k) w := by
  simp [binOp, go_sem, hd, h]

section
variable (p : Int) (g h n d N : Nat) (l : List UInt32) (w : World)

set_option maxHeartbeats 1000000 in
theorem place_any (i : Nat) (r : Rb w g h n d l) (hN : N = l.length) (hf : fstW h l < d) (hi : i < d) :
    Calls Try.prog 61 #[rwv p h n d g N, .int .i64 i] w fun e w' => e = .returned (.slice (some ⟨g, plA h n d l i, none⟩) (1 + n) (N - plA h n d l i)) ∧ Keeps (fun _ => False) w w' := by
  obtain ⟨W, hW, hK, hB⟩ := row_new w p h n d g N
  have hb := r.big
  have rW := r.grown hK
  have hfit := plA_fit r hf hi
  have HC := fun W1 (k : Keeps (fun _ => False) W W1) => (first_any p g h n d N l W1 (rW.grown k) hN).mono fun e w' ⟨h1, h2⟩ => And.intro h1 (k.trans h2 fun _ _ e => e)
  obtain ⟨F, hF⟩ : ∃ v : Nat, v = fstW h l := ⟨_, rfl⟩
  obtain ⟨K, hK2⟩ : ∃ v : Nat, v = pos d F i := ⟨_, rfl⟩
  obtain ⟨q, hq⟩ : ∃ v : Nat, v = plA h n d l i := ⟨_, rfl⟩
  obtain ⟨M, hM⟩ : ∃ v : Nat, v = K * (1 + n) := ⟨_, rfl⟩
  rw [← hq] at hfit ⊢
  rw [← hF] at HC hf
  have eq1 : q = h + M := by rw [hq, hM, hK2, hF]; rfl
  have hr := pos_mod hf hi
  rw [← hK2] at hr
  have x1 : Int.tmod ((F : Int) + (i : Int)) (d : Int) = (K : Int) := by
    rw [Int.tmod_eq_emod_of_nonneg (by omega), ← hr]; simp
  have x2 : ((F : Int) + (i : Int)) % (d : Int) = (K : Int) := by rw [← hr]; simp
  have x3 : ((d : Int) == 0) = false := beq_eq_false_iff_ne.2 (by omega)
  have x4 : (K : Int) * (1 + (n : Int)) = (M : Int) := by rw [hM]; simp
  have x5 : IntKind.i64.wrap ((F : Int) + (i : Int)) = (F : Int) + (i : Int) := by rw [IntKind.wrap_i64]; have := r.d2; omega
  have hcell : ∀ W1, Keeps (fun _ => False) W W1 → W1.cell? ⟨w.heap.size, 0, none⟩ = some (.int .i64 p) ∧ W1.cell? ⟨w.heap.size, 1, none⟩ = some (.int .i64 h) ∧ W1.cell? ⟨w.heap.size, 2, none⟩ = some (.int .i64 n) ∧ W1.cell? ⟨w.heap.size, 3, none⟩ = some (.int .i64 d) ∧ W1.cell? ⟨w.heap.size, 4, none⟩ = some (.slice (some ⟨g, 0, none⟩) N N) := fun W1 k => by
    have q := hB.kept k fun e => e
    exact ⟨q.cell rfl, q.cell rfl, q.cell rfl, q.cell rfl, q.cell rfl⟩
  have HC : Hid (∀ W1, Keeps (fun _ => False) W W1 → Calls Try.prog 69 #[rwv p h n d g N] W1 fun e w' => e = .returned (.int .u32 F) ∧ Keeps (fun _ => False) W w') := HC
  have hS := hcell W (Keeps.refl _ _)
  have HS : Hid (∀ W1, Keeps (fun _ => False) W W1 → _) := hcell
  obtain ⟨O, hO⟩ : ∃ O, O = w.heap.size := ⟨_, rfl⟩
  rw [← hO] at HS hS
  have HW : Hid (W = _ ∧ Keeps (fun _ => False) w W ∧ O = w.heap.size ∧ q = h + M) := ⟨hW, hK, hO, eq1⟩
  have y1 : (q : Int) = (h : Int) + (M : Int) := by omega
  have y2 : (h : Int) + (M : Int) + 1 + (n : Int) ≤ (N : Int) := by omega
  have y3 : (N : Int) ≤ 139 := by omega
  have y4 : (F : Int) < 8 := by have := r.d2; omega
  have y5 : (h : Int) + (M : Int) < (N : Int) := by omega
  have y6 : (i : Int) < 8 := by have := r.d2; omega
  have y7 : ¬ N = h + M := by omega
  have hd0 : ¬ (d : Int) = 0 := by omega
  have xF : IntKind.i64.wrap (F : Int) = (F : Int) := by rw [IntKind.wrap_i64]; have := r.d2; omega
  clear x2 x3
  rw [eq1]
  clear hcell hW hK hB hb rW r hN hF hO hfit hK2 hq hM eq1 hr hf hi y1
  go_enter Try.func61, Try.ntmps61
  go_wp2
  rw [← HW.out.1, ← HW.out.2.2.1]
  refine wp_region_held_drew (S := (fun w' => w'.cell? ⟨O, 0, none⟩ = some (.int .i64 p) ∧ w'.cell? ⟨O, 1, none⟩ = some (.int .i64 h) ∧ w'.cell? ⟨O, 2, none⟩ = some (.int .i64 n) ∧ w'.cell? ⟨O, 3, none⟩ = some (.int .i64 d) ∧ w'.cell? ⟨O, 4, none⟩ = some (.slice (some ⟨g, 0, none⟩) N N))) Try.mixd hS (fun hHeld => ?_)
  simp only [List.size_toArray, List.length_cons, List.length_nil, Nat.reduceAdd, Array.replicate_succ, Array.replicate_zero, List.push_toArray, List.append_toArray, List.nil_append, List.cons_append]
  refine wpAnyH_take (i := 0) (oi := { dst := some 7, op := Op.load 75 (Operand.tmp 2), type := 75, pos := "row.go:92", after := #[], guard := none }) (v := .agg #[.int .i64 p, .int .i64 h, .int .i64 n, .int .i64 d, .slice (some ⟨g, 0, none⟩) N N]) rfl (by kernel_rfl) (by kernel_rfl) (by kernel_rfl) (fun _ _ _ h => h) (Or.inl ⟨by kernel_rfl, by (intro w hSw; (try dsimp only at hSw); go_simp)⟩) hHeld ?_
  simp only [Act.put, List.setIfInBounds_toArray, List.set_cons_zero, List.set_cons_succ]
  refine wpAnyH_take (i := 3) (oi := { dst := some 10, op := Op.move (Operand.tmp 1), type := 3, pos := "row.go:92", after := #[], guard := none }) (v := .int .i64 i) rfl (by kernel_rfl) (by kernel_rfl) (by kernel_rfl) (fun _ _ _ h => h) (Or.inl ⟨by kernel_rfl, by (intro w hSw; (try dsimp only at hSw); go_simp)⟩) hHeld ?_
  simp only [Act.put, List.setIfInBounds_toArray, List.set_cons_zero, List.set_cons_succ]
  refine wpAnyH_take (i := 5) (oi := { dst := some 12, op := Op.fieldAddr 75 (Operand.tmp 2) 3, type := 0, pos := "row.go:92", after := #[], guard := none }) (v := .pointer (some ⟨O, 3, none⟩)) rfl (by kernel_rfl) (by kernel_rfl) (by kernel_rfl) (fun _ _ _ h => h) (Or.inl ⟨by kernel_rfl, by (intro w hSw; (try dsimp only at hSw); go_simp)⟩) hHeld ?_
  simp only [Act.put, List.setIfInBounds_toArray, List.set_cons_zero, List.set_cons_succ]
  refine wpAnyH_take (i := 6) (oi := { dst := some 13, op := Op.load 3 (Operand.tmp 12), type := 3, pos := "row.go:92", after := #[{ on := 5, ground := Ground.data }], guard := none }) (v := .int .i64 d) rfl (by kernel_rfl) (by kernel_rfl) (by kernel_rfl) (fun _ _ _ h => h) (Or.inl ⟨by kernel_rfl, by (intro w hSw; (try dsimp only at hSw); go_simp)⟩) hHeld ?_
  simp only [Act.put, List.setIfInBounds_toArray, List.set_cons_zero, List.set_cons_succ]
  refine wpAnyH_ready (rs := [1]) (by kernel_rfl) (by simp) ?_
  refine AllReadyH.cons (o := { dst := some 8, op := Op.call { callee := Callee.value (Operand.func 69), args := #[Operand.tmp 7], argTypes := #[75] }, type := 52, pos := "row.go:92", after := #[{ on := 0, ground := Ground.data }], guard := none }) rfl (fun Kq hK => ?_) AllReadyH.nil
  go_simp
  refine (HC.out _ (Keeps.refl _ W).drew).mono ?_
  rintro e w1 ⟨rfl, hk1⟩
  refine hK.out _ _ (HS.out w1 hk1) (fun hHeld => ?_)
  simp only [Act.put, List.setIfInBounds_toArray, List.set_cons_zero, List.set_cons_succ]
  refine wpAnyH_take (i := 2) (oi := { dst := some 9, op := Op.convert 52 3 (Operand.tmp 8), type := 3, pos := "row.go:92", after := #[{ on := 1, ground := Ground.data }], guard := none }) (v := .int .i64 F) rfl (by kernel_rfl) (by kernel_rfl) (by kernel_rfl) (fun _ _ _ h => h) (Or.inl ⟨by kernel_rfl, by (intro w hSw; (try dsimp only at hSw); go_simp)⟩) hHeld ?_
  simp only [Act.put, List.setIfInBounds_toArray, List.set_cons_zero, List.set_cons_succ]
  refine wpAnyH_take (i := 4) (oi := { dst := some 11, op := Op.binOp BinOp.add 3 (Operand.tmp 9) (Operand.tmp 10) 3, type := 3, pos := "row.go:92", after := #[{ on := 2, ground := Ground.data }, { on := 3, ground := Ground.data }], guard := none }) (v := .int .i64 (F + i)) rfl (by kernel_rfl) (by kernel_rfl) (by kernel_rfl) (fun _ _ _ h => h) (Or.inl ⟨by kernel_rfl, by (intro w hSw; (try dsimp only at hSw); go_simp)⟩) hHeld ?_
  simp only [Act.put, List.setIfInBounds_toArray, List.set_cons_zero, List.set_cons_succ]
  refine wpAnyH_take (i := 7) (oi := { dst := some 14, op := Op.binOp BinOp.rem 3 (Operand.tmp 11) (Operand.tmp 13) 3, type := 3, pos := "row.go:92", after := #[{ on := 4, ground := Ground.data }, { on := 6, ground := Ground.data }], guard := none }) (v := .int .i64 K) rfl (by kernel_rfl) (by kernel_rfl) (by kernel_rfl) (fun _ _ _ h => h) (Or.inl ⟨by kernel_rfl, by (intro w hSw; (try dsimp only at hSw); go_simp; omega)⟩) hHeld ?_
  simp only [Act.put, List.setIfInBounds_toArray, List.set_cons_zero, List.set_cons_succ]
  refine wpAnyH_take (i := 8) (oi := { dst := some 5, op := Op.assign (Operand.tmp 14), type := 3, pos := "row.go:92", after := #[{ on := 7, ground := Ground.data }, { on := 1, ground := Ground.chain }, { on := 0, ground := Ground.phase }, { on := 1, ground := Ground.phase }, { on := 2, ground := Ground.phase }, { on := 3, ground := Ground.phase }, { on := 4, ground := Ground.phase }, { on := 5, ground := Ground.phase }, { on := 6, ground := Ground.phase }, { on := 7, ground := Ground.phase }], guard := none }) (v := .int .i64 K) rfl (by kernel_rfl) (by kernel_rfl) (by kernel_rfl) (fun _ _ _ h => h) (Or.inl ⟨by kernel_rfl, by (intro w hSw; (try dsimp only at hSw); go_simp)⟩) hHeld ?_
  simp only [Act.put, List.setIfInBounds_toArray, List.set_cons_zero, List.set_cons_succ]
  refine wpAnyH_done (by kernel_rfl) ?_ _
  clear hHeld
  have hS2 := HS.out w1 hk1
  obtain ⟨c0, c1, c2, c3, c4⟩ := hS2
  go_wp2
  go_ret
  exact ⟨ret_sl (by omega), HW.out.2.1.trans hk1 fun _ _ e => e⟩
end

end Go.Proofs.Ytekijhhpldnmnaa
namespace Go.Proofs.Ytekijhhpldnmnaa
open Go.RowKit
set_option linter.unusedVariables false
set_option linter.unusedSimpArgs false

theorem segW_win {w : World} {g : Nat} {l : List UInt32} {t : TypeId} (h : Blk w g (wvs l) t) (q m : Nat) (hf : q + m ≤ l.length) : SegW w (some ⟨g, q, none⟩) (win l q m) := segW_part h q m hf
theorem segW_drop {w : World} {g o : Nat} {l : List UInt32} (h : SegW w (some ⟨g, o, none⟩) l) (k : Nat) : SegW w (some ⟨g, o + k, none⟩) (l.drop k) := by
  by_cases hk : k < l.length
  · refine .inr ⟨g, o + k, rfl, fun j hj => ?_⟩
    rw [List.length_drop] at hj
    rw [Nat.add_assoc, h.wd (j := k + j) (by omega), wd_get (by omega)]
    simp
  · exact .inl (List.drop_eq_nil_of_le (by omega))

section
variable (g o c L : Nat) (pl : List UInt32) (w : World)

set_option maxRecDepth 20000 in
set_option maxHeartbeats 1000000 in
theorem rightPlace_any (fl : Bool) (hs : SegW w (some ⟨g, o, none⟩) pl) (hL : L = pl.length) (h1 : 2 ≤ L) (h2 : L ≤ c) (h3 : c ≤ 139) :
    Calls Try.prog 70 #[.slice (some ⟨g, o, none⟩) L c, .bool fl] w fun e w' => e = .returned (.bool (rpB pl fl)) ∧ w' = w := by
  have c0 := hs.wd (j := 0) (by omega)
  rw [Nat.add_zero] at c0
  have hv2 := (wd pl 0).toNat_lt
  obtain ⟨v, hv⟩ : ∃ v : Nat, v = (wd pl 0).toNat := ⟨_, rfl⟩
  have hl : (L : Int) ≤ 139 := by omega
  have hl0 : 0 < (L : Int) := by omega
  cases fl with
  | false =>
    have HE := empty_any (some ⟨g, o, none⟩) c pl w hs (by omega)
    rw [← hL] at HE
    have HR : Hid (rpB pl false = zeroB pl) := by show _ = _; rfl
    rw [HR.out]
    have HE : Hid (Calls _ _ _ _ _) := HE
    clear c0 hv2 hv hs hL h1 h2 h3
    go_enter Try.func70, Try.ntmps70
    go_wp2_with fail
    refine HE.out.mono ?_
    rintro e w1 ⟨rfl, hw⟩
    obtain rfl := hw.symm
    clear hw HE
    go_wp2
    go_ret
    exact ⟨rfl, rfl⟩
  | true =>
    have hR : rpB pl true = (decide (1 ≤ v) && (decide (v < L) && zeroB (pl.drop (1 + v)))) := by rw [hv, hL]; rfl
    rw [hR]
    rw [← hv] at c0 hv2
    have y1 : (L : Int) % 4294967296 = (L : Int) := by omega
    by_cases q1 : 1 ≤ v
    · by_cases q2 : v < L
      · have HE : Calls Try.prog 73 #[.slice (some ⟨g, if 1 + v < c then o + (1 + v) else o, none⟩) (L - (1 + v)) (c - (1 + v))] w fun e w' => e = .returned (.bool (zeroB (pl.drop (1 + v)))) ∧ w' = w := by
          have hlen : (pl.drop (1 + v)).length = L - (1 + v) := by rw [List.length_drop, hL]
          rw [← hlen]
          refine empty_any _ _ _ w ?_ (by omega)
          by_cases q3 : 1 + v < c
          · rw [if_pos q3]; exact segW_drop hs (1 + v)
          · exact .inl (List.drop_eq_nil_of_le (by omega))
        rw [decide_eq_true q1, decide_eq_true q2, Bool.true_and, Bool.true_and]
        have z1 : 1 ≤ (v : Int) := by omega
        have z2 : (v : Int) < (L : Int) := by omega
        have z3 : (L : Int) ≤ (c : Int) := by omega
        have z4 : (c : Int) ≤ 139 := by omega
        have z5 : (v : Int) + 1 ≤ (L : Int) := by omega
        by_cases q3 : 1 + v < c
        · rw [if_pos q3] at HE
          have z6 : ¬ c = 1 + v := by omega
          have HE : Hid (Calls _ _ _ _ _) := HE
          clear hv2 hv hs hL h1 h2 h3 hR q1 q2 q3
          go_enter Try.func70, Try.ntmps70
          go_wp2_with fail
          refine HE.out.mono ?_
          rintro e w1 ⟨rfl, hw⟩
          obtain rfl := hw.symm
          clear hw HE
          go_wp2
          go_ret
          exact ⟨rfl, rfl⟩
        · rw [if_neg q3] at HE
          have z6 : c = 1 + v := by omega
          have z7 : L = 1 + v := by omega
          have e0 : L - (1 + v) = 0 := by omega
          have e1 : c - (1 + v) = 0 := by omega
          rw [e0, e1] at HE
          have HE : Hid (Calls _ _ _ _ _) := HE
          clear hv2 hv hs hL h1 h2 h3 hR q1 q2 q3 e0 e1
          go_enter Try.func70, Try.ntmps70
          go_wp2_with fail
          refine HE.out.mono ?_
          rintro e w1 ⟨rfl, hw⟩
          obtain rfl := hw.symm
          clear hw HE
          go_wp2
          go_ret
          exact ⟨rfl, rfl⟩
      · rw [decide_eq_true q1, decide_eq_false q2, Bool.false_and, Bool.true_and]
        have z1 : 1 ≤ (v : Int) := by omega
        have z2 : ¬ (v : Int) < (L : Int) := by omega
        clear hv2 hv hs hL h1 h2 h3 hR q1 q2
        go_enter Try.func70, Try.ntmps70
        go_wp2
        go_ret
        exact ⟨rfl, rfl⟩
    · rw [decide_eq_false q1, Bool.false_and]
      obtain rfl : v = 0 := by omega
      clear hv2 hv hs hL h1 h2 h3 hR q1
      go_enter Try.func70, Try.ntmps70
      go_wp2
      go_ret
      exact ⟨rfl, rfl⟩
end

theorem run_make_u32 {w : World} (n : Nat) (hn : n ≤ 70368744177664) :
    (Instr.makeSlice 22 (.int .u32 n) (.int .u32 n)).run Try.prog w = .ok (.slice (some ⟨w.heap.size, 0, none⟩) n n) (w.alloc (.cells (wvs (List.replicate n 0)).toArray 52)) := by
  obtain ⟨i0, hi, hz0, hz1, hz2⟩ := info_parts Try.info52
  have h := run_make (P := Try.prog) w 22 52 i0 (.int .u32 0) Try.underlying22 hi hz0 .u32 .u32 n n (by omega) (by omega) (by rw [hz2]; omega) (by omega)
  rw [hz1, Nat.mul_one, Int.toNat_natCast, madeCells_words] at h
  exact h

/-- copy of words that can be read: as many as the shorter one has. -/
theorem run_copy_ws {w : World} (ty : TypeId) (g o dLen dCap : Nat) (l : List Value) (t : TypeId) (hg : Blk w g l t) (b p : Nat) (sLen sCap : Nat) (xs : List UInt32)
    (hx : SegW w (some ⟨b, p, none⟩) xs) (hn : xs.length = Nat.min sLen dLen) (hfit : o + xs.length ≤ l.length) :
    (Builtin.copy_ #[22, 22] ty #[.slice (some ⟨g, o, none⟩) dLen dCap, .slice (some ⟨b, p, none⟩) sLen sCap]).run Try.prog w = .ok (goInt xs.length) (w.setRow g (l.take o ++ wvs xs ++ l.drop (o + xs.length)).toArray) := by
  have h := run_copy_row Try.prog w 22 22 ty 52 g o dLen dCap ⟨b, p, none⟩ sLen sCap l.toArray t (wvs xs) Try.underlying22 Try.size52 hg (by rw [wvs_length]; exact hn) (by
    intro j v hj
    rcases segW_cells hx with h0 | ⟨b', p', e, hc⟩
    · rw [h0] at hj; simp at hj
    · simp at e
      obtain ⟨rfl, rfl⟩ := e
      rw [addr_add]
      exact hc j v hj) (by rw [wvs_length]; simpa using hfit) (wvs_one xs)
  rw [wvs_length] at h
  exact h

set_option maxHeartbeats 1000000 in
theorem message_any (p : Int) (g h n d N : Nat) (l : List UInt32) (w : World) (i : Nat) (r : Rb w g h n d l) (hN : N = l.length) (hf : fstW h l < d) (hi : i < d) (hk : (wd (plc h n d l i) 0).toNat ≤ n) :
    Calls Try.prog 49 #[rwv p h n d g N, .int .i64 i] w fun e w' => ∃ G, w.heap.size ≤ G ∧ e = .returned (.slice (some ⟨G, 0, none⟩) (msgO (plc h n d l i)).length (msgO (plc h n d l i)).length) ∧ Blk w' G (wvs (msgO (plc h n d l i))) 52 ∧ Keeps (fun _ => False) w w' := by
  obtain ⟨W, hW, hK, hB⟩ := row_new w p h n d g N
  have hb := r.big
  have hfit := plA_fit r hf hi
  have HP := place_any p g h n d N l W i (r.grown hK) hN hf hi
  have hpl := plc_length (n := n) r.len hf hi
  obtain ⟨pl, hple⟩ : ∃ pl, pl = plc h n d l i := ⟨_, rfl⟩
  obtain ⟨k, hk2⟩ : ∃ k, k = (wd pl 0).toNat := ⟨_, rfl⟩
  rw [← hple] at hpl hk ⊢
  rw [← hk2] at hk
  have hml : (msgO pl).length = k := by unfold msgO; rw [← hk2]; simp; omega
  obtain ⟨q, hq⟩ : ∃ q, q = plA h n d l i := ⟨_, rfl⟩
  rw [← hq] at HP hfit
  have hseg : ∀ W1, Keeps (fun _ => False) W W1 → SegW W1 (some ⟨g, q, none⟩) pl := fun W1 k1 => by
    rw [hple, plc_win, ← hq]; exact segW_win ((r.grown hK).grown k1).blk q (1 + n) hfit
  have hS2 : ∀ W1, Keeps (fun _ => False) W W1 → W1.cell? ⟨g, q, none⟩ = some (.int .u32 k) ∧
      (Instr.makeSlice 22 (.int .u32 k) (.int .u32 k)).run Try.prog W1 = .ok (.slice (some ⟨W1.heap.size, 0, none⟩) k k) (W1.alloc (.cells (wvs (List.replicate k 0)).toArray 52)) ∧
      (∀ ty, (Builtin.copy_ #[22, 22] ty #[.slice (some ⟨W1.heap.size, 0, none⟩) k k, .slice (some ⟨g, q + 1, none⟩) n (N - q - 1)]).run Try.prog (W1.alloc (.cells (wvs (List.replicate k 0)).toArray 52)) = .ok (goInt k) ((W1.alloc (.cells (wvs (List.replicate k 0)).toArray 52)).setRow W1.heap.size (wvs (msgO pl)).toArray)) := fun W1 k1 => by
    have hs := hseg W1 k1
    refine ⟨?_, run_make_u32 k (by omega), fun ty => ?_⟩
    · have := hs.wd (j := 0) (by omega)
      rw [Nat.add_zero, ← hk2] at this
      exact this
    · have hB1 := Blk.new W1 (wvs (List.replicate k 0)).toArray 52
      have hs3 := segW_drop (hs.kept ((Keeps.refl (fun _ => False) W1).alloc (.cells (wvs (List.replicate k 0)).toArray 52)) (fun _ _ e => e)) 1
      have hs4 : SegW (W1.alloc (.cells (wvs (List.replicate k 0)).toArray 52)) (some ⟨g, q + 1, none⟩) (msgO pl) := by
        rcases hs3 with h0 | ⟨g', o', e, hc⟩
        · exact .inl (by unfold msgO; rw [h0]; simp)
        · simp at e
          obtain ⟨rfl, rfl⟩ := e
          refine .inr ⟨g, q + 1, rfl, fun j hj => ?_⟩
          rw [hc j (by rw [hml] at hj; simp; omega)]
          simp [msgO]
      have := run_copy_ws ty W1.heap.size 0 k k _ 52 hB1 g (q + 1) n (N - q - 1) _ hs4 (by rw [hml]; exact (Nat.min_eq_right hk).symm) (by rw [hml]; simp [wvs_length])
      rw [hml] at this
      rw [this]
      have e : (wvs (List.replicate k 0)).toArray.toList.take 0 ++ wvs (msgO pl) ++ (wvs (List.replicate k 0)).toArray.toList.drop (0 + k) = wvs (msgO pl) := by simp [wvs]
      rw [e]
  rw [hml]
  have HP : Hid (Calls _ _ _ _ _) := HP
  have HS : Hid (∀ W1, Keeps (fun _ => False) W W1 → _) := hS2
  have HW : Hid (W = _ ∧ Keeps (fun _ => False) w W) := ⟨hW, hK⟩
  have y1 : (q : Int) + 1 + (n : Int) ≤ (N : Int) := by omega
  have y2 : 1 ≤ (n : Int) := by have := r.n1; omega
  have y3 : (N : Int) ≤ 139 := by omega
  have y4 : ¬ N - q = 1 := by have := r.n1; omega
  have y5 : 1 ≤ ((N - q : Nat) : Int) := by omega
  clear hS2 hseg hW hK hB hb hfit hpl hple hk hk2 hml hq r hf hi hN
  go_enter Try.func49, Try.ntmps49
  go_wp2_with fail
  rw [← HW.out.1]
  refine HP.out.mono ?_
  rintro e w1 ⟨rfl, hk1⟩
  obtain ⟨c0, hmk, hcp⟩ := HS.out w1 hk1
  have HK1 : Hid (Keeps _ _ _) := hk1
  have HM : Hid (_ = _) := hmk
  have HCP : Hid (∀ ty, _) := hcp
  clear hk1 hmk hcp HP
  go_wp2_with (at_make; refine wpList_make_run rfl _ _ 22 rfl (.int .u32 k) (.int .u32 k) (.slice (some ⟨w1.heap.size, 0, none⟩) k k) _ rfl rfl HM.out ?_; refine Hid.out ?_)
  unfold Hid
  clear HM
  go_wp2_with (refine isCopy _ _ 22 22 rfl ?_; go_must (refine wpList_copy_run rfl _ _ 22 22 rfl (.slice (some ⟨w1.heap.size, 0, none⟩) k k) (.slice (some ⟨g, q + 1, none⟩) n (N - q - 1)) (goInt k) _ rfl rfl HCP.out ?_))
  go_ret
  refine ⟨w1.heap.size, (HW.out.2.trans HK1.out fun _ _ e => e).size, rfl, (Blk.new w1 (wvs (List.replicate k 0)).toArray 52).setRow _, ?_⟩
  exact ((HW.out.2.trans HK1.out fun _ _ e => e).alloc _).setRow _ _ fun h => absurd h (by have := (HW.out.2.trans HK1.out fun _ _ e => e).size; omega)

end Go.Proofs.Ytekijhhpldnmnaa
