import Derived.Test.YtekijhhpldnmnaaF
namespace Go.Proofs.Ytekijhhpldnmnaa
open Go.RowKit
set_option linter.unusedVariables false
set_option linter.unusedSimpArgs false

def plA (h n d : Nat) (l : List UInt32) (i : Nat) : Nat := h + pos d (fstW h l) i * (1 + n)
theorem plA_fit {w : World} {g h n d : Nat} {l : List UInt32} (r : Rb w g h n d l) (hf : fstW h l < d) {i : Nat} (hi : i < d) : plA h n d l i + (1 + n) ≤ l.length := by
  have := Nat.mul_le_mul_right (1 + n) (show pos d (fstW h l) i + 1 ≤ d from pos_lt hf hi)
  rw [Nat.add_mul] at this
  rw [r.len, plA]
  omega
theorem plc_win (h n d : Nat) (l : List UInt32) (i : Nat) : plc h n d l i = win l (plA h n d l i) (1 + n) := rfl

theorem ret_sl {a : Option Addr} {n m c : Nat} (h : n = m) : Ending.returned (.slice a n c) = .returned (.slice a m c) := by rw [h]
theorem run_rem (x d k : Int) (hd : ¬ d = 0) (h : Int.tmod x d = k) (w : World) : (binOp .rem 3 (.int .i64 x) (.int .i64 d)).run Try.prog w = .ok (.int .i64 k) w := by
  simp [binOp, go_sem, hd, h]
theorem run_rem32 (x d k : Int) (hd : ¬ d = 0) (h : Int.tmod x d = k) (w : World) : (binOp .rem 52 (.int .u32 x) (.int .u32 d)).run Try.prog w = .ok (.int .u32 k) w := by
  simp [binOp, go_sem, hd, h]

section
variable (p : Int) (g h n d N : Nat) (l : List UInt32) (w : World)

set_option maxHeartbeats 1000000 in
theorem place_any (i : Nat) (r : Rb w g h n d l) (hN : N = l.length) (hf : fstW h l < d) (hi : i < d) :
    Calls Try.prog 61 #[rwv p h n d g N, .int .i64 i] w fun e w' => e = .returned (.slice (some ⟨g, plA h n d l i, none⟩) (1 + n) (N - plA h n d l i)) ∧ Keeps (fun _ => False) w w' := by
  obtain ⟨W, hW, hK, hB⟩ := row_new w p h n d g N
  have hb := r.big
  have rW := r.grown hK
  have hfit := plA_fit r hf hi
  have HC := fun W1 (k : Keeps (fun _ => False) W W1) => (first_any p g h n d N l W1 (rW.grown k) hN).mono fun e w' ⟨h1, h2⟩ => And.intro h1 (k.trans h2 fun _ _ e => e)
  obtain ⟨F, hF⟩ : ∃ v : Nat, v = fstW h l := ⟨_, rfl⟩
  obtain ⟨K, hK2⟩ : ∃ v : Nat, v = pos d F i := ⟨_, rfl⟩
  obtain ⟨q, hq⟩ : ∃ v : Nat, v = plA h n d l i := ⟨_, rfl⟩
  obtain ⟨M, hM⟩ : ∃ v : Nat, v = K * (1 + n) := ⟨_, rfl⟩
  rw [← hq] at hfit ⊢
  rw [← hF] at HC hf
  have eq1 : q = h + M := by rw [hq, hM, hK2, hF]; rfl
  have hr := pos_mod hf hi
  rw [← hK2] at hr
  have x1 : Int.tmod ((F : Int) + (i : Int)) (d : Int) = (K : Int) := by
    rw [Int.tmod_eq_emod_of_nonneg (by omega), ← hr]; simp
  have x2 : ((F : Int) + (i : Int)) % (d : Int) = (K : Int) := by rw [← hr]; simp
  have x3 : ((d : Int) == 0) = false := beq_eq_false_iff_ne.2 (by omega)
  have x4 : (K : Int) * (1 + (n : Int)) = (M : Int) := by rw [hM]; simp
  have x5 : IntKind.i64.wrap ((F : Int) + (i : Int)) = (F : Int) + (i : Int) := by rw [IntKind.wrap_i64]; have := r.d2; omega
  have hcell : ∀ W1, Keeps (fun _ => False) W W1 → W1.cell? ⟨w.heap.size, 0, none⟩ = some (.int .i64 p) ∧ W1.cell? ⟨w.heap.size, 1, none⟩ = some (.int .i64 h) ∧ W1.cell? ⟨w.heap.size, 2, none⟩ = some (.int .i64 n) ∧ W1.cell? ⟨w.heap.size, 3, none⟩ = some (.int .i64 d) ∧ W1.cell? ⟨w.heap.size, 4, none⟩ = some (.slice (some ⟨g, 0, none⟩) N N) := fun W1 k => by
    have q := hB.kept k fun e => e
    exact ⟨q.cell rfl, q.cell rfl, q.cell rfl, q.cell rfl, q.cell rfl⟩
  have HC : Hid (∀ W1, Keeps (fun _ => False) W W1 → Calls Try.prog 69 #[rwv p h n d g N] W1 fun e w' => e = .returned (.int .u32 F) ∧ Keeps (fun _ => False) W w') := HC
  have hS := hcell W (Keeps.refl _ _)
  have HS : Hid (∀ W1, Keeps (fun _ => False) W W1 → _) := hcell
  obtain ⟨O, hO⟩ : ∃ O, O = w.heap.size := ⟨_, rfl⟩
  rw [← hO] at HS hS
  have HW : Hid (W = _ ∧ Keeps (fun _ => False) w W ∧ O = w.heap.size ∧ q = h + M) := ⟨hW, hK, hO, eq1⟩
  have y1 : (q : Int) = (h : Int) + (M : Int) := by omega
  have y2 : (h : Int) + (M : Int) + 1 + (n : Int) ≤ (N : Int) := by omega
  have y3 : (N : Int) ≤ 139 := by omega
  have y4 : (F : Int) < 8 := by have := r.d2; omega
  have y5 : (h : Int) + (M : Int) < (N : Int) := by omega
  have y6 : (i : Int) < 8 := by have := r.d2; omega
  have y7 : ¬ N = h + M := by omega
  have hd0 : ¬ (d : Int) = 0 := by omega
  have xF : IntKind.i64.wrap (F : Int) = (F : Int) := by rw [IntKind.wrap_i64]; have := r.d2; omega
  clear x2 x3
  rw [eq1]
  clear hcell hW hK hB hb rW r hN hF hO hfit hK2 hq hM eq1 hr hf hi y1
  go_enter Try.func61, Try.ntmps61
  go_wp2
  rw [← HW.out.1, ← HW.out.2.2.1]
  refine wp_region_held_drew (S := (fun w' => w'.cell? ⟨O, 0, none⟩ = some (.int .i64 p) ∧ w'.cell? ⟨O, 1, none⟩ = some (.int .i64 h) ∧ w'.cell? ⟨O, 2, none⟩ = some (.int .i64 n) ∧ w'.cell? ⟨O, 3, none⟩ = some (.int .i64 d) ∧ w'.cell? ⟨O, 4, none⟩ = some (.slice (some ⟨g, 0, none⟩) N N))) Try.mixd hS (fun hHeld => ?_)
  simp only [List.size_toArray, List.length_cons, List.length_nil, Nat.reduceAdd, Array.replicate_succ, Array.replicate_zero, List.push_toArray, List.append_toArray, List.nil_append, List.cons_append]
  refine wpAnyH_take (i := 0) (oi := { dst := some 7, op := Op.load 75 (Operand.tmp 2), type := 75, pos := "row.go:92", after := #[], guard := none }) (v := .agg #[.int .i64 p, .int .i64 h, .int .i64 n, .int .i64 d, .slice (some ⟨g, 0, none⟩) N N]) rfl (by kernel_rfl) (by kernel_rfl) (by kernel_rfl) (fun _ _ _ h => h) (Or.inl ⟨by kernel_rfl, by (intro w hSw; (try dsimp only at hSw); go_simp)⟩) hHeld ?_
  simp only [Act.put, List.setIfInBounds_toArray, List.set_cons_zero, List.set_cons_succ]
  refine wpAnyH_take (i := 3) (oi := { dst := some 10, op := Op.move (Operand.tmp 1), type := 3, pos := "row.go:92", after := #[], guard := none }) (v := .int .i64 i) rfl (by kernel_rfl) (by kernel_rfl) (by kernel_rfl) (fun _ _ _ h => h) (Or.inl ⟨by kernel_rfl, by (intro w hSw; (try dsimp only at hSw); go_simp)⟩) hHeld ?_
  simp only [Act.put, List.setIfInBounds_toArray, List.set_cons_zero, List.set_cons_succ]
  refine wpAnyH_take (i := 5) (oi := { dst := some 12, op := Op.fieldAddr 75 (Operand.tmp 2) 3, type := 0, pos := "row.go:92", after := #[], guard := none }) (v := .pointer (some ⟨O, 3, none⟩)) rfl (by kernel_rfl) (by kernel_rfl) (by kernel_rfl) (fun _ _ _ h => h) (Or.inl ⟨by kernel_rfl, by (intro w hSw; (try dsimp only at hSw); go_simp)⟩) hHeld ?_
  simp only [Act.put, List.setIfInBounds_toArray, List.set_cons_zero, List.set_cons_succ]
  refine wpAnyH_take (i := 6) (oi := { dst := some 13, op := Op.load 3 (Operand.tmp 12), type := 3, pos := "row.go:92", after := #[{ on := 5, ground := Ground.data }], guard := none }) (v := .int .i64 d) rfl (by kernel_rfl) (by kernel_rfl) (by kernel_rfl) (fun _ _ _ h => h) (Or.inl ⟨by kernel_rfl, by (intro w hSw; (try dsimp only at hSw); go_simp)⟩) hHeld ?_
  simp only [Act.put, List.setIfInBounds_toArray, List.set_cons_zero, List.set_cons_succ]
  refine wpAnyH_ready (rs := [1]) (by kernel_rfl) (by simp) ?_
  refine AllReadyH.cons (o := { dst := some 8, op := Op.call { callee := Callee.value (Operand.func 69), args := #[Operand.tmp 7], argTypes := #[75] }, type := 52, pos := "row.go:92", after := #[{ on := 0, ground := Ground.data }], guard := none }) rfl (fun Kq hK => ?_) AllReadyH.nil
  go_simp
  refine (HC.out _ (Keeps.refl _ W).drew).mono ?_
  rintro e w1 ⟨rfl, hk1⟩
  refine hK.out _ _ (HS.out w1 hk1) (fun hHeld => ?_)
  simp only [Act.put, List.setIfInBounds_toArray, List.set_cons_zero, List.set_cons_succ]
  refine wpAnyH_take (i := 2) (oi := { dst := some 9, op := Op.convert 52 3 (Operand.tmp 8), type := 3, pos := "row.go:92", after := #[{ on := 1, ground := Ground.data }], guard := none }) (v := .int .i64 F) rfl (by kernel_rfl) (by kernel_rfl) (by kernel_rfl) (fun _ _ _ h => h) (Or.inl ⟨by kernel_rfl, by (intro w hSw; (try dsimp only at hSw); go_simp)⟩) hHeld ?_
  simp only [Act.put, List.setIfInBounds_toArray, List.set_cons_zero, List.set_cons_succ]
  refine wpAnyH_take (i := 4) (oi := { dst := some 11, op := Op.binOp BinOp.add 3 (Operand.tmp 9) (Operand.tmp 10) 3, type := 3, pos := "row.go:92", after := #[{ on := 2, ground := Ground.data }, { on := 3, ground := Ground.data }], guard := none }) (v := .int .i64 (F + i)) rfl (by kernel_rfl) (by kernel_rfl) (by kernel_rfl) (fun _ _ _ h => h) (Or.inl ⟨by kernel_rfl, by (intro w hSw; (try dsimp only at hSw); go_simp)⟩) hHeld ?_
  simp only [Act.put, List.setIfInBounds_toArray, List.set_cons_zero, List.set_cons_succ]
  refine wpAnyH_take (i := 7) (oi := { dst := some 14, op := Op.binOp BinOp.rem 3 (Operand.tmp 11) (Operand.tmp 13) 3, type := 3, pos := "row.go:92", after := #[{ on := 4, ground := Ground.data }, { on := 6, ground := Ground.data }], guard := none }) (v := .int .i64 K) rfl (by kernel_rfl) (by kernel_rfl) (by kernel_rfl) (fun _ _ _ h => h) (Or.inl ⟨by kernel_rfl, by (intro w hSw; (try dsimp only at hSw); go_simp; omega)⟩) hHeld ?_
  simp only [Act.put, List.setIfInBounds_toArray, List.set_cons_zero, List.set_cons_succ]
  refine wpAnyH_take (i := 8) (oi := { dst := some 5, op := Op.assign (Operand.tmp 14), type := 3, pos := "row.go:92", after := #[{ on := 7, ground := Ground.data }, { on := 1, ground := Ground.chain }, { on := 0, ground := Ground.phase }, { on := 1, ground := Ground.phase }, { on := 2, ground := Ground.phase }, { on := 3, ground := Ground.phase }, { on := 4, ground := Ground.phase }, { on := 5, ground := Ground.phase }, { on := 6, ground := Ground.phase }, { on := 7, ground := Ground.phase }], guard := none }) (v := .int .i64 K) rfl (by kernel_rfl) (by kernel_rfl) (by kernel_rfl) (fun _ _ _ h => h) (Or.inl ⟨by kernel_rfl, by (intro w hSw; (try dsimp only at hSw); go_simp)⟩) hHeld ?_
  simp only [Act.put, List.setIfInBounds_toArray, List.set_cons_zero, List.set_cons_succ]
  refine wpAnyH_done (by kernel_rfl) ?_ _
  clear hHeld
  have hS2 := HS.out w1 hk1
  obtain ⟨c0, c1, c2, c3, c4⟩ := hS2
  go_wp2
  go_ret
  exact ⟨ret_sl (by omega), HW.out.2.1.trans hk1 fun _ _ e => e⟩
end

end Go.Proofs.Ytekijhhpldnmnaa
