import Derived.Test.YtekijhhpldnmnaaH
namespace Go.Proofs.Ytekijhhpldnmnaa
open Go.RowKit
set_option linter.unusedVariables false
set_option linter.unusedSimpArgs false

section
variable (p : Int) (g h n d N : Nat) (l : List UInt32) (w : World)

theorem row_cells {W : World} {O : Nat} (hB : Blk W O (rwc p h n d g N).toList 75) : ∀ W1, Keeps (fun _ => False) W W1 → W1.cell? ⟨O, 0, none⟩ = some (.int .i64 p) ∧ W1.cell? ⟨O, 1, none⟩ = some (.int .i64 h) ∧ W1.cell? ⟨O, 2, none⟩ = some (.int .i64 n) ∧ W1.cell? ⟨O, 3, none⟩ = some (.int .i64 d) ∧ W1.cell? ⟨O, 4, none⟩ = some (.slice (some ⟨g, 0, none⟩) N N) := fun W1 k =>
  have q := hB.kept k fun e => e
  ⟨q.cell rfl, q.cell rfl, q.cell rfl, q.cell rfl, q.cell rfl⟩

theorem first_on {W : World} (r : Rb W g h n d l) (hN : N = l.length) : ∀ W1, Keeps (fun _ => False) W W1 → Calls Try.prog 69 #[rwv p h n d g N] W1 fun e w' => e = .returned (.int .u32 (fstW h l : Nat)) ∧ Keeps (fun _ => False) W w' := fun W1 k =>
  (first_any p g h n d N l W1 (r.grown k) hN).mono fun e w' ⟨h1, h2⟩ => And.intro h1 (k.trans h2 fun _ _ e => e)
theorem count_on {W : World} (r : Rb W g h n d l) (hN : N = l.length) : ∀ W1, Keeps (fun _ => False) W W1 → Calls Try.prog 65 #[rwv p h n d g N] W1 fun e w' => e = .returned (.int .u32 (cntW h l : Nat)) ∧ Keeps (fun _ => False) W w' := fun W1 k =>
  (count_any p g h n d N l W1 (r.grown k) hN).mono fun e w' ⟨h1, h2⟩ => And.intro h1 (k.trans h2 fun _ _ e => e)
theorem size_on {W : World} (r : Rb W g h n d l) (hN : N = l.length) : ∀ W1, Keeps (fun _ => False) W W1 → Calls Try.prog 47 #[rwv p h n d g N] W1 fun e w' => e = .returned (.int .i64 (cntW h l : Nat)) ∧ Keeps (fun _ => False) W w' := fun W1 k =>
  (size_any p g h n d N l W1 (r.grown k) hN).mono fun e w' ⟨h1, h2⟩ => And.intro h1 (k.trans h2 fun _ _ e => e)
theorem countAt_on {W : World} (hh : h = 1 ∨ h = 3) : ∀ W1, Keeps (fun _ => False) W W1 → Calls Try.prog 62 #[rwv p h n d g N] W1 fun e w' => e = .returned (.int .i64 (cntI h : Nat)) ∧ Keeps (fun _ => False) W w' := fun W1 k =>
  (countAt_any p g h n d N W1 hh).mono fun e w' ⟨h1, h2⟩ => And.intro h1 (k.trans h2 fun _ _ e => e)
theorem place_on {W : World} (r : Rb W g h n d l) (hN : N = l.length) (hf : fstW h l < d) : ∀ W1, Keeps (fun _ => False) W W1 → ∀ i : Nat, i < d → Calls Try.prog 61 #[rwv p h n d g N, .int .i64 i] W1 fun e w' => e = .returned (.slice (some ⟨g, plA h n d l i, none⟩) (1 + n) (N - plA h n d l i)) ∧ Keeps (fun _ => False) W w' := fun W1 k i hi =>
  (place_any p g h n d N l W1 i (r.grown k) hN hf hi).mono fun e w' ⟨h1, h2⟩ => And.intro h1 (k.trans h2 fun _ _ e => e)

set_option maxHeartbeats 1000000 in
theorem right_fst (r : Rb w g h n d l) (hN : N = l.length) (hf : ¬ fstW h l < d) :
    Calls Try.prog 60 #[rwv p h n d g N] w fun e w' => e = .returned (.bool false) ∧ Keeps (fun _ => False) w w' := by
  obtain ⟨W, hW, hK, hB⟩ := row_new w p h n d g N
  have hb := r.big
  have rW := r.grown hK
  have hcell := row_cells p g h n d N hB
  have HF := first_on p g h n d N l rW hN
  have HC := count_on p g h n d N l rW hN
  have HZ := size_on p g h n d N l rW hN
  obtain ⟨F, hF⟩ : ∃ v : Nat, v = fstW h l := ⟨_, rfl⟩
  obtain ⟨C, hC⟩ : ∃ v : Nat, v = cntW h l := ⟨_, rfl⟩
  have hF32 : F < 4294967296 := by rw [hF]; unfold fstW; split; (· omega); (· exact (wd l 0).toNat_lt)
  have hC32 : C < 4294967296 := by rw [hC]; exact (wd l (cntI h)).toNat_lt
  rw [← hF] at HF
  rw [← hC] at HC HZ
  have HF : Hid (∀ W1, Keeps (fun _ => False) W W1 → Calls Try.prog 69 #[rwv p h n d g N] W1 fun e w' => e = .returned (.int .u32 F) ∧ Keeps (fun _ => False) W w') := HF
  have HC : Hid (∀ W1, Keeps (fun _ => False) W W1 → Calls Try.prog 65 #[rwv p h n d g N] W1 fun e w' => e = .returned (.int .u32 C) ∧ Keeps (fun _ => False) W w') := HC
  have HZ : Hid (∀ W1, Keeps (fun _ => False) W W1 → Calls Try.prog 47 #[rwv p h n d g N] W1 fun e w' => e = .returned (.int .i64 C) ∧ Keeps (fun _ => False) W w') := HZ
  have hS := hcell W (Keeps.refl _ _)
  have HS : Hid (∀ W1, Keeps (fun _ => False) W W1 → _) := hcell
  obtain ⟨O, hO⟩ : ∃ O, O = w.heap.size := ⟨_, rfl⟩
  rw [← hO] at HS hS
  have HW : Hid (W = _ ∧ Keeps (fun _ => False) w W ∧ O = w.heap.size) := ⟨hW, hK, hO⟩
  have z1 : (d : Int) ≤ 8 := by have := r.d2; omega
  have z0 : 1 ≤ (d : Int) := by have := r.d1; omega
  have z2 : (d : Int) % 4294967296 = (d : Int) := by omega
  have z9 : IntKind.u32.wrap (d : Int) = (d : Int) := by rw [IntKind.wrap_u32]; omega
  rw [← hF] at hf
  have z3 : (d : Int) ≤ (F : Int) := by omega
  clear hcell hW hK hB hb rW r hN hF hC hO HC HZ hf hC32 hF32
  go_enter Try.func60, Try.ntmps60
  go_wp2
  rw [← HW.out.1, ← HW.out.2.2]
  refine wp_region_held_drew (S := (fun w' => w'.cell? ⟨O, 0, none⟩ = some (.int .i64 p) ∧ w'.cell? ⟨O, 1, none⟩ = some (.int .i64 h) ∧ w'.cell? ⟨O, 2, none⟩ = some (.int .i64 n) ∧ w'.cell? ⟨O, 3, none⟩ = some (.int .i64 d) ∧ w'.cell? ⟨O, 4, none⟩ = some (.slice (some ⟨g, 0, none⟩) N N))) Try.mixd hS (fun hHeld => ?_)
  simp only [List.size_toArray, List.length_cons, List.length_nil, Nat.reduceAdd, Array.replicate_succ, Array.replicate_zero, List.push_toArray, List.append_toArray, List.nil_append, List.cons_append]
  refine wpAnyH_take (i := 0) (oi := { dst := some 4, op := Op.load 75 (Operand.tmp 1), type := 75, pos := "row.go:99", after := #[], guard := none }) (v := .agg #[.int .i64 p, .int .i64 h, .int .i64 n, .int .i64 d, .slice (some ⟨g, 0, none⟩) N N]) rfl (by kernel_rfl) (by kernel_rfl) (by kernel_rfl) (fun _ _ _ h => h) (Or.inl ⟨by kernel_rfl, by (intro w hSw; (try dsimp only at hSw); go_simp; try omega)⟩) hHeld ?_
  simp only [Act.put, List.setIfInBounds_toArray, List.set_cons_zero, List.set_cons_succ]
  refine wpAnyH_take (i := 2) (oi := { dst := some 6, op := Op.fieldAddr 75 (Operand.tmp 1) 3, type := 0, pos := "row.go:99", after := #[], guard := none }) (v := .pointer (some ⟨O, 3, none⟩)) rfl (by kernel_rfl) (by kernel_rfl) (by kernel_rfl) (fun _ _ _ h => h) (Or.inl ⟨by kernel_rfl, by (intro w hSw; (try dsimp only at hSw); go_simp; try omega)⟩) hHeld ?_
  simp only [Act.put, List.setIfInBounds_toArray, List.set_cons_zero, List.set_cons_succ]
  refine wpAnyH_take (i := 3) (oi := { dst := some 7, op := Op.load 3 (Operand.tmp 6), type := 3, pos := "row.go:99", after := #[{ on := 2, ground := Ground.data }], guard := none }) (v := .int .i64 d) rfl (by kernel_rfl) (by kernel_rfl) (by kernel_rfl) (fun _ _ _ h => h) (Or.inl ⟨by kernel_rfl, by (intro w hSw; (try dsimp only at hSw); go_simp; try omega)⟩) hHeld ?_
  simp only [Act.put, List.setIfInBounds_toArray, List.set_cons_zero, List.set_cons_succ]
  refine wpAnyH_take (i := 4) (oi := { dst := some 8, op := Op.convert 3 52 (Operand.tmp 7), type := 52, pos := "row.go:99", after := #[{ on := 3, ground := Ground.data }], guard := none }) (v := .int .u32 d) rfl (by kernel_rfl) (by kernel_rfl) (by kernel_rfl) (fun _ _ _ h => h) (Or.inl ⟨by kernel_rfl, by (intro w hSw; (try dsimp only at hSw); go_simp; try omega)⟩) hHeld ?_
  simp only [Act.put, List.setIfInBounds_toArray, List.set_cons_zero, List.set_cons_succ]
  refine wpAnyH_ready (rs := [1]) (by kernel_rfl) (by simp) ?_
  refine AllReadyH.cons (o := { dst := some 5, op := Op.call { callee := Callee.value (Operand.func 69), args := #[Operand.tmp 4], argTypes := #[75] }, type := 52, pos := "row.go:99", after := #[{ on := 0, ground := Ground.data }], guard := none }) rfl (fun Kq hK => ?_) AllReadyH.nil
  go_simp
  refine (HF.out _ (Keeps.refl _ W).drew).mono ?_
  rintro e w1 ⟨rfl, hk1⟩
  refine hK.out _ _ (HS.out w1 hk1) (fun hHeld => ?_)
  simp only [Act.put, List.setIfInBounds_toArray, List.set_cons_zero, List.set_cons_succ]
  refine wpAnyH_take (i := 5) (oi := { dst := some 9, op := Op.binOp BinOp.geq 52 (Operand.tmp 5) (Operand.tmp 8) 52, type := 4, pos := "row.go:99", after := #[{ on := 1, ground := Ground.data }, { on := 4, ground := Ground.data }], guard := none }) (v := .bool true) rfl (by kernel_rfl) (by kernel_rfl) (by kernel_rfl) (fun _ _ _ h => h) (Or.inl ⟨by kernel_rfl, by (intro w hSw; (try dsimp only at hSw); go_simp; try omega)⟩) hHeld ?_
  simp only [Act.put, List.setIfInBounds_toArray, List.set_cons_zero, List.set_cons_succ]
  refine wpAnyH_take (i := 6) (oi := { dst := some 10, op := Op.move (Operand.tmp 9), type := 4, pos := "row.go:99", after := #[{ on := 5, ground := Ground.data }, { on := 1, ground := Ground.chain }], guard := none }) (v := .bool true) rfl (by kernel_rfl) (by kernel_rfl) (by kernel_rfl) (fun _ _ _ h => h) (Or.inl ⟨by kernel_rfl, by (intro w hSw; (try dsimp only at hSw); go_simp; try omega)⟩) hHeld ?_
  simp only [Act.put, List.setIfInBounds_toArray, List.set_cons_zero, List.set_cons_succ]
  refine wpAnyH_take (i := 7) (oi := { dst := some 11, op := Op.load 75 (Operand.tmp 1), type := 75, pos := "row.go:99", after := #[{ on := 6, ground := Ground.guard }], guard := some (6, false) }) (v := undef) rfl (by kernel_rfl) (by kernel_rfl) (by kernel_rfl) (fun _ _ _ h => h) (Or.inr ⟨by kernel_rfl, rfl⟩) hHeld ?_
  simp only [Act.put, List.setIfInBounds_toArray, List.set_cons_zero, List.set_cons_succ]
  refine wpAnyH_take (i := 8) (oi := { dst := some 12, op := Op.call { callee := Callee.value (Operand.func 65), args := #[Operand.tmp 11], argTypes := #[75] }, type := 52, pos := "row.go:99", after := #[{ on := 7, ground := Ground.data }, { on := 6, ground := Ground.chain }, { on := 6, ground := Ground.guard }], guard := some (6, false) }) (v := undef) rfl (by kernel_rfl) (by kernel_rfl) (by kernel_rfl) (fun _ _ _ h => h) (Or.inr ⟨by kernel_rfl, rfl⟩) hHeld ?_
  simp only [Act.put, List.setIfInBounds_toArray, List.set_cons_zero, List.set_cons_succ]
  refine wpAnyH_take (i := 9) (oi := { dst := some 13, op := Op.fieldAddr 75 (Operand.tmp 1) 3, type := 0, pos := "row.go:99", after := #[{ on := 6, ground := Ground.guard }], guard := some (6, false) }) (v := undef) rfl (by kernel_rfl) (by kernel_rfl) (by kernel_rfl) (fun _ _ _ h => h) (Or.inr ⟨by kernel_rfl, rfl⟩) hHeld ?_
  simp only [Act.put, List.setIfInBounds_toArray, List.set_cons_zero, List.set_cons_succ]
  refine wpAnyH_take (i := 10) (oi := { dst := some 14, op := Op.load 3 (Operand.tmp 13), type := 3, pos := "row.go:99", after := #[{ on := 9, ground := Ground.data }, { on := 6, ground := Ground.guard }], guard := some (6, false) }) (v := undef) rfl (by kernel_rfl) (by kernel_rfl) (by kernel_rfl) (fun _ _ _ h => h) (Or.inr ⟨by kernel_rfl, rfl⟩) hHeld ?_
  simp only [Act.put, List.setIfInBounds_toArray, List.set_cons_zero, List.set_cons_succ]
  refine wpAnyH_take (i := 11) (oi := { dst := some 15, op := Op.convert 3 52 (Operand.tmp 14), type := 52, pos := "row.go:99", after := #[{ on := 10, ground := Ground.data }, { on := 6, ground := Ground.guard }], guard := some (6, false) }) (v := undef) rfl (by kernel_rfl) (by kernel_rfl) (by kernel_rfl) (fun _ _ _ h => h) (Or.inr ⟨by kernel_rfl, rfl⟩) hHeld ?_
  simp only [Act.put, List.setIfInBounds_toArray, List.set_cons_zero, List.set_cons_succ]
  refine wpAnyH_take (i := 12) (oi := { dst := some 16, op := Op.binOp BinOp.gtr 52 (Operand.tmp 12) (Operand.tmp 15) 52, type := 4, pos := "row.go:99", after := #[{ on := 8, ground := Ground.data }, { on := 11, ground := Ground.data }, { on := 6, ground := Ground.guard }], guard := some (6, false) }) (v := undef) rfl (by kernel_rfl) (by kernel_rfl) (by kernel_rfl) (fun _ _ _ h => h) (Or.inr ⟨by kernel_rfl, rfl⟩) hHeld ?_
  simp only [Act.put, List.setIfInBounds_toArray, List.set_cons_zero, List.set_cons_succ]
  refine wpAnyH_take (i := 13) (oi := { dst := some 17, op := Op.pick (Operand.tmp 10) (Operand.const (Value.bool true)) (Operand.tmp 16), type := 4, pos := "row.go:99", after := #[{ on := 6, ground := Ground.data }, { on := 12, ground := Ground.data }], guard := none }) (v := .bool true) rfl (by kernel_rfl) (by kernel_rfl) (by kernel_rfl) (fun _ _ _ h => h) (Or.inl ⟨by kernel_rfl, by (intro w hSw; (try dsimp only at hSw); go_simp; try omega)⟩) hHeld ?_
  simp only [Act.put, List.setIfInBounds_toArray, List.set_cons_zero, List.set_cons_succ]
  refine wpAnyH_done (by kernel_rfl) ?_ _
  clear hHeld
  go_wp2
  go_ret
  exact ⟨rfl, HW.out.2.1.trans hk1 fun _ _ e => e⟩

set_option maxHeartbeats 1000000 in
theorem right_cnt (r : Rb w g h n d l) (hN : N = l.length) (hf : fstW h l < d) (hc : ¬ cntW h l ≤ d) :
    Calls Try.prog 60 #[rwv p h n d g N] w fun e w' => e = .returned (.bool false) ∧ Keeps (fun _ => False) w w' := by
  obtain ⟨W, hW, hK, hB⟩ := row_new w p h n d g N
  have hb := r.big
  have rW := r.grown hK
  have hcell := row_cells p g h n d N hB
  have HF := first_on p g h n d N l rW hN
  have HC := count_on p g h n d N l rW hN
  have HZ := size_on p g h n d N l rW hN
  obtain ⟨F, hF⟩ : ∃ v : Nat, v = fstW h l := ⟨_, rfl⟩
  obtain ⟨C, hC⟩ : ∃ v : Nat, v = cntW h l := ⟨_, rfl⟩
  have hF32 : F < 4294967296 := by rw [hF]; unfold fstW; split; (· omega); (· exact (wd l 0).toNat_lt)
  have hC32 : C < 4294967296 := by rw [hC]; exact (wd l (cntI h)).toNat_lt
  rw [← hF] at HF
  rw [← hC] at HC HZ
  have HF : Hid (∀ W1, Keeps (fun _ => False) W W1 → Calls Try.prog 69 #[rwv p h n d g N] W1 fun e w' => e = .returned (.int .u32 F) ∧ Keeps (fun _ => False) W w') := HF
  have HC : Hid (∀ W1, Keeps (fun _ => False) W W1 → Calls Try.prog 65 #[rwv p h n d g N] W1 fun e w' => e = .returned (.int .u32 C) ∧ Keeps (fun _ => False) W w') := HC
  have HZ : Hid (∀ W1, Keeps (fun _ => False) W W1 → Calls Try.prog 47 #[rwv p h n d g N] W1 fun e w' => e = .returned (.int .i64 C) ∧ Keeps (fun _ => False) W w') := HZ
  have hS := hcell W (Keeps.refl _ _)
  have HS : Hid (∀ W1, Keeps (fun _ => False) W W1 → _) := hcell
  obtain ⟨O, hO⟩ : ∃ O, O = w.heap.size := ⟨_, rfl⟩
  rw [← hO] at HS hS
  have HW : Hid (W = _ ∧ Keeps (fun _ => False) w W ∧ O = w.heap.size) := ⟨hW, hK, hO⟩
  have z1 : (d : Int) ≤ 8 := by have := r.d2; omega
  have z0 : 1 ≤ (d : Int) := by have := r.d1; omega
  have z2 : (d : Int) % 4294967296 = (d : Int) := by omega
  have z9 : IntKind.u32.wrap (d : Int) = (d : Int) := by rw [IntKind.wrap_u32]; omega
  rw [← hF] at hf
  rw [← hC] at hc
  have z3 : ¬ (d : Int) ≤ (F : Int) := by omega
  have z4 : (d : Int) < (C : Int) := by omega
  clear hcell hW hK hB hb rW r hN hF hC hO HZ hf hC32 hF32 hc
  go_enter Try.func60, Try.ntmps60
  go_wp2
  rw [← HW.out.1, ← HW.out.2.2]
  refine wp_region_held_drew (S := (fun w' => w'.cell? ⟨O, 0, none⟩ = some (.int .i64 p) ∧ w'.cell? ⟨O, 1, none⟩ = some (.int .i64 h) ∧ w'.cell? ⟨O, 2, none⟩ = some (.int .i64 n) ∧ w'.cell? ⟨O, 3, none⟩ = some (.int .i64 d) ∧ w'.cell? ⟨O, 4, none⟩ = some (.slice (some ⟨g, 0, none⟩) N N))) Try.mixd hS (fun hHeld => ?_)
  simp only [List.size_toArray, List.length_cons, List.length_nil, Nat.reduceAdd, Array.replicate_succ, Array.replicate_zero, List.push_toArray, List.append_toArray, List.nil_append, List.cons_append]
  refine wpAnyH_take (i := 0) (oi := { dst := some 4, op := Op.load 75 (Operand.tmp 1), type := 75, pos := "row.go:99", after := #[], guard := none }) (v := .agg #[.int .i64 p, .int .i64 h, .int .i64 n, .int .i64 d, .slice (some ⟨g, 0, none⟩) N N]) rfl (by kernel_rfl) (by kernel_rfl) (by kernel_rfl) (fun _ _ _ h => h) (Or.inl ⟨by kernel_rfl, by (intro w hSw; (try dsimp only at hSw); go_simp; try omega)⟩) hHeld ?_
  simp only [Act.put, List.setIfInBounds_toArray, List.set_cons_zero, List.set_cons_succ]
  refine wpAnyH_take (i := 2) (oi := { dst := some 6, op := Op.fieldAddr 75 (Operand.tmp 1) 3, type := 0, pos := "row.go:99", after := #[], guard := none }) (v := .pointer (some ⟨O, 3, none⟩)) rfl (by kernel_rfl) (by kernel_rfl) (by kernel_rfl) (fun _ _ _ h => h) (Or.inl ⟨by kernel_rfl, by (intro w hSw; (try dsimp only at hSw); go_simp; try omega)⟩) hHeld ?_
  simp only [Act.put, List.setIfInBounds_toArray, List.set_cons_zero, List.set_cons_succ]
  refine wpAnyH_take (i := 3) (oi := { dst := some 7, op := Op.load 3 (Operand.tmp 6), type := 3, pos := "row.go:99", after := #[{ on := 2, ground := Ground.data }], guard := none }) (v := .int .i64 d) rfl (by kernel_rfl) (by kernel_rfl) (by kernel_rfl) (fun _ _ _ h => h) (Or.inl ⟨by kernel_rfl, by (intro w hSw; (try dsimp only at hSw); go_simp; try omega)⟩) hHeld ?_
  simp only [Act.put, List.setIfInBounds_toArray, List.set_cons_zero, List.set_cons_succ]
  refine wpAnyH_take (i := 4) (oi := { dst := some 8, op := Op.convert 3 52 (Operand.tmp 7), type := 52, pos := "row.go:99", after := #[{ on := 3, ground := Ground.data }], guard := none }) (v := .int .u32 d) rfl (by kernel_rfl) (by kernel_rfl) (by kernel_rfl) (fun _ _ _ h => h) (Or.inl ⟨by kernel_rfl, by (intro w hSw; (try dsimp only at hSw); go_simp; try omega)⟩) hHeld ?_
  simp only [Act.put, List.setIfInBounds_toArray, List.set_cons_zero, List.set_cons_succ]
  refine wpAnyH_ready (rs := [1]) (by kernel_rfl) (by simp) ?_
  refine AllReadyH.cons (o := { dst := some 5, op := Op.call { callee := Callee.value (Operand.func 69), args := #[Operand.tmp 4], argTypes := #[75] }, type := 52, pos := "row.go:99", after := #[{ on := 0, ground := Ground.data }], guard := none }) rfl (fun Kq hK => ?_) AllReadyH.nil
  go_simp
  refine (HF.out _ (Keeps.refl _ W).drew).mono ?_
  rintro e w1 ⟨rfl, hk1⟩
  refine hK.out _ _ (HS.out w1 hk1) (fun hHeld => ?_)
  simp only [Act.put, List.setIfInBounds_toArray, List.set_cons_zero, List.set_cons_succ]
  refine wpAnyH_take (i := 5) (oi := { dst := some 9, op := Op.binOp BinOp.geq 52 (Operand.tmp 5) (Operand.tmp 8) 52, type := 4, pos := "row.go:99", after := #[{ on := 1, ground := Ground.data }, { on := 4, ground := Ground.data }], guard := none }) (v := .bool false) rfl (by kernel_rfl) (by kernel_rfl) (by kernel_rfl) (fun _ _ _ h => h) (Or.inl ⟨by kernel_rfl, by (intro w hSw; (try dsimp only at hSw); go_simp; try omega)⟩) hHeld ?_
  simp only [Act.put, List.setIfInBounds_toArray, List.set_cons_zero, List.set_cons_succ]
  refine wpAnyH_take (i := 6) (oi := { dst := some 10, op := Op.move (Operand.tmp 9), type := 4, pos := "row.go:99", after := #[{ on := 5, ground := Ground.data }, { on := 1, ground := Ground.chain }], guard := none }) (v := .bool false) rfl (by kernel_rfl) (by kernel_rfl) (by kernel_rfl) (fun _ _ _ h => h) (Or.inl ⟨by kernel_rfl, by (intro w hSw; (try dsimp only at hSw); go_simp; try omega)⟩) hHeld ?_
  simp only [Act.put, List.setIfInBounds_toArray, List.set_cons_zero, List.set_cons_succ]
  refine wpAnyH_take (i := 7) (oi := { dst := some 11, op := Op.load 75 (Operand.tmp 1), type := 75, pos := "row.go:99", after := #[{ on := 6, ground := Ground.guard }], guard := some (6, false) }) (v := .agg #[.int .i64 p, .int .i64 h, .int .i64 n, .int .i64 d, .slice (some ⟨g, 0, none⟩) N N]) rfl (by kernel_rfl) (by kernel_rfl) (by kernel_rfl) (fun _ _ _ h => h) (Or.inl ⟨by kernel_rfl, by (intro w hSw; (try dsimp only at hSw); go_simp; try omega)⟩) hHeld ?_
  simp only [Act.put, List.setIfInBounds_toArray, List.set_cons_zero, List.set_cons_succ]
  refine wpAnyH_take (i := 9) (oi := { dst := some 13, op := Op.fieldAddr 75 (Operand.tmp 1) 3, type := 0, pos := "row.go:99", after := #[{ on := 6, ground := Ground.guard }], guard := some (6, false) }) (v := .pointer (some ⟨O, 3, none⟩)) rfl (by kernel_rfl) (by kernel_rfl) (by kernel_rfl) (fun _ _ _ h => h) (Or.inl ⟨by kernel_rfl, by (intro w hSw; (try dsimp only at hSw); go_simp; try omega)⟩) hHeld ?_
  simp only [Act.put, List.setIfInBounds_toArray, List.set_cons_zero, List.set_cons_succ]
  refine wpAnyH_take (i := 10) (oi := { dst := some 14, op := Op.load 3 (Operand.tmp 13), type := 3, pos := "row.go:99", after := #[{ on := 9, ground := Ground.data }, { on := 6, ground := Ground.guard }], guard := some (6, false) }) (v := .int .i64 d) rfl (by kernel_rfl) (by kernel_rfl) (by kernel_rfl) (fun _ _ _ h => h) (Or.inl ⟨by kernel_rfl, by (intro w hSw; (try dsimp only at hSw); go_simp; try omega)⟩) hHeld ?_
  simp only [Act.put, List.setIfInBounds_toArray, List.set_cons_zero, List.set_cons_succ]
  refine wpAnyH_take (i := 11) (oi := { dst := some 15, op := Op.convert 3 52 (Operand.tmp 14), type := 52, pos := "row.go:99", after := #[{ on := 10, ground := Ground.data }, { on := 6, ground := Ground.guard }], guard := some (6, false) }) (v := .int .u32 d) rfl (by kernel_rfl) (by kernel_rfl) (by kernel_rfl) (fun _ _ _ h => h) (Or.inl ⟨by kernel_rfl, by (intro w hSw; (try dsimp only at hSw); go_simp; try omega)⟩) hHeld ?_
  simp only [Act.put, List.setIfInBounds_toArray, List.set_cons_zero, List.set_cons_succ]
  refine wpAnyH_ready (rs := [8]) (by kernel_rfl) (by simp) ?_
  refine AllReadyH.cons (o := { dst := some 12, op := Op.call { callee := Callee.value (Operand.func 65), args := #[Operand.tmp 11], argTypes := #[75] }, type := 52, pos := "row.go:99", after := #[{ on := 7, ground := Ground.data }, { on := 6, ground := Ground.chain }, { on := 6, ground := Ground.guard }], guard := some (6, false) }) rfl (fun Kq hK => ?_) AllReadyH.nil
  go_simp
  refine (HC.out w1 hk1).mono ?_
  rintro e w2 ⟨rfl, hk2⟩
  refine hK.out _ _ (HS.out w2 hk2) (fun hHeld => ?_)
  simp only [Act.put, List.setIfInBounds_toArray, List.set_cons_zero, List.set_cons_succ]
  refine wpAnyH_take (i := 12) (oi := { dst := some 16, op := Op.binOp BinOp.gtr 52 (Operand.tmp 12) (Operand.tmp 15) 52, type := 4, pos := "row.go:99", after := #[{ on := 8, ground := Ground.data }, { on := 11, ground := Ground.data }, { on := 6, ground := Ground.guard }], guard := some (6, false) }) (v := .bool true) rfl (by kernel_rfl) (by kernel_rfl) (by kernel_rfl) (fun _ _ _ h => h) (Or.inl ⟨by kernel_rfl, by (intro w hSw; (try dsimp only at hSw); go_simp; try omega)⟩) hHeld ?_
  simp only [Act.put, List.setIfInBounds_toArray, List.set_cons_zero, List.set_cons_succ]
  refine wpAnyH_take (i := 13) (oi := { dst := some 17, op := Op.pick (Operand.tmp 10) (Operand.const (Value.bool true)) (Operand.tmp 16), type := 4, pos := "row.go:99", after := #[{ on := 6, ground := Ground.data }, { on := 12, ground := Ground.data }], guard := none }) (v := .bool true) rfl (by kernel_rfl) (by kernel_rfl) (by kernel_rfl) (fun _ _ _ h => h) (Or.inl ⟨by kernel_rfl, by (intro w hSw; (try dsimp only at hSw); go_simp; try omega)⟩) hHeld ?_
  simp only [Act.put, List.setIfInBounds_toArray, List.set_cons_zero, List.set_cons_succ]
  refine wpAnyH_done (by kernel_rfl) ?_ _
  clear hHeld
  go_wp2
  go_ret
  exact ⟨rfl, HW.out.2.1.trans hk2 fun _ _ e => e⟩

set_option maxHeartbeats 1000000 in
theorem right_odd (r : Rb w g h n d l) (hN : N = l.length) (hf : fstW h l < d) (hc : cntW h l = 0) (h0 : ¬ fstW h l = 0) :
    Calls Try.prog 60 #[rwv p h n d g N] w fun e w' => e = .returned (.bool false) ∧ Keeps (fun _ => False) w w' := by
  obtain ⟨W, hW, hK, hB⟩ := row_new w p h n d g N
  have hb := r.big
  have rW := r.grown hK
  have hcell := row_cells p g h n d N hB
  have HF := first_on p g h n d N l rW hN
  have HC := count_on p g h n d N l rW hN
  have HZ := size_on p g h n d N l rW hN
  obtain ⟨F, hF⟩ : ∃ v : Nat, v = fstW h l := ⟨_, rfl⟩
  obtain ⟨C, hC⟩ : ∃ v : Nat, v = cntW h l := ⟨_, rfl⟩
  have hF32 : F < 4294967296 := by rw [hF]; unfold fstW; split; (· omega); (· exact (wd l 0).toNat_lt)
  have hC32 : C < 4294967296 := by rw [hC]; exact (wd l (cntI h)).toNat_lt
  rw [← hF] at HF
  rw [← hC] at HC HZ
  have HF : Hid (∀ W1, Keeps (fun _ => False) W W1 → Calls Try.prog 69 #[rwv p h n d g N] W1 fun e w' => e = .returned (.int .u32 F) ∧ Keeps (fun _ => False) W w') := HF
  have HC : Hid (∀ W1, Keeps (fun _ => False) W W1 → Calls Try.prog 65 #[rwv p h n d g N] W1 fun e w' => e = .returned (.int .u32 C) ∧ Keeps (fun _ => False) W w') := HC
  have HZ : Hid (∀ W1, Keeps (fun _ => False) W W1 → Calls Try.prog 47 #[rwv p h n d g N] W1 fun e w' => e = .returned (.int .i64 C) ∧ Keeps (fun _ => False) W w') := HZ
  have hS := hcell W (Keeps.refl _ _)
  have HS : Hid (∀ W1, Keeps (fun _ => False) W W1 → _) := hcell
  obtain ⟨O, hO⟩ : ∃ O, O = w.heap.size := ⟨_, rfl⟩
  rw [← hO] at HS hS
  have HW : Hid (W = _ ∧ Keeps (fun _ => False) w W ∧ O = w.heap.size) := ⟨hW, hK, hO⟩
  have z1 : (d : Int) ≤ 8 := by have := r.d2; omega
  have z0 : 1 ≤ (d : Int) := by have := r.d1; omega
  have z2 : (d : Int) % 4294967296 = (d : Int) := by omega
  have z9 : IntKind.u32.wrap (d : Int) = (d : Int) := by rw [IntKind.wrap_u32]; omega
  rw [← hF] at hf h0
  rw [← hC] at hc
  have z3 : ¬ (d : Int) ≤ (F : Int) := by omega
  have z4 : ¬ (d : Int) < (C : Int) := by omega
  have z5 : ((F : Int) != 0) = true := bne_iff_ne.2 (by omega)
  subst hc
  clear hcell hW hK hB hb rW r hN hF hC hO hf hC32 hF32 h0
  go_enter Try.func60, Try.ntmps60
  go_wp2
  rw [← HW.out.1, ← HW.out.2.2]
  refine wp_region_held_drew (S := (fun w' => w'.cell? ⟨O, 0, none⟩ = some (.int .i64 p) ∧ w'.cell? ⟨O, 1, none⟩ = some (.int .i64 h) ∧ w'.cell? ⟨O, 2, none⟩ = some (.int .i64 n) ∧ w'.cell? ⟨O, 3, none⟩ = some (.int .i64 d) ∧ w'.cell? ⟨O, 4, none⟩ = some (.slice (some ⟨g, 0, none⟩) N N))) Try.mixd hS (fun hHeld => ?_)
  simp only [List.size_toArray, List.length_cons, List.length_nil, Nat.reduceAdd, Array.replicate_succ, Array.replicate_zero, List.push_toArray, List.append_toArray, List.nil_append, List.cons_append]
  refine wpAnyH_take (i := 0) (oi := { dst := some 4, op := Op.load 75 (Operand.tmp 1), type := 75, pos := "row.go:99", after := #[], guard := none }) (v := .agg #[.int .i64 p, .int .i64 h, .int .i64 n, .int .i64 d, .slice (some ⟨g, 0, none⟩) N N]) rfl (by kernel_rfl) (by kernel_rfl) (by kernel_rfl) (fun _ _ _ h => h) (Or.inl ⟨by kernel_rfl, by (intro w hSw; (try dsimp only at hSw); go_simp; try omega)⟩) hHeld ?_
  simp only [Act.put, List.setIfInBounds_toArray, List.set_cons_zero, List.set_cons_succ]
  refine wpAnyH_take (i := 2) (oi := { dst := some 6, op := Op.fieldAddr 75 (Operand.tmp 1) 3, type := 0, pos := "row.go:99", after := #[], guard := none }) (v := .pointer (some ⟨O, 3, none⟩)) rfl (by kernel_rfl) (by kernel_rfl) (by kernel_rfl) (fun _ _ _ h => h) (Or.inl ⟨by kernel_rfl, by (intro w hSw; (try dsimp only at hSw); go_simp; try omega)⟩) hHeld ?_
  simp only [Act.put, List.setIfInBounds_toArray, List.set_cons_zero, List.set_cons_succ]
  refine wpAnyH_take (i := 3) (oi := { dst := some 7, op := Op.load 3 (Operand.tmp 6), type := 3, pos := "row.go:99", after := #[{ on := 2, ground := Ground.data }], guard := none }) (v := .int .i64 d) rfl (by kernel_rfl) (by kernel_rfl) (by kernel_rfl) (fun _ _ _ h => h) (Or.inl ⟨by kernel_rfl, by (intro w hSw; (try dsimp only at hSw); go_simp; try omega)⟩) hHeld ?_
  simp only [Act.put, List.setIfInBounds_toArray, List.set_cons_zero, List.set_cons_succ]
  refine wpAnyH_take (i := 4) (oi := { dst := some 8, op := Op.convert 3 52 (Operand.tmp 7), type := 52, pos := "row.go:99", after := #[{ on := 3, ground := Ground.data }], guard := none }) (v := .int .u32 d) rfl (by kernel_rfl) (by kernel_rfl) (by kernel_rfl) (fun _ _ _ h => h) (Or.inl ⟨by kernel_rfl, by (intro w hSw; (try dsimp only at hSw); go_simp; try omega)⟩) hHeld ?_
  simp only [Act.put, List.setIfInBounds_toArray, List.set_cons_zero, List.set_cons_succ]
  refine wpAnyH_ready (rs := [1]) (by kernel_rfl) (by simp) ?_
  refine AllReadyH.cons (o := { dst := some 5, op := Op.call { callee := Callee.value (Operand.func 69), args := #[Operand.tmp 4], argTypes := #[75] }, type := 52, pos := "row.go:99", after := #[{ on := 0, ground := Ground.data }], guard := none }) rfl (fun Kq hK => ?_) AllReadyH.nil
  go_simp
  refine (HF.out _ (Keeps.refl _ W).drew).mono ?_
  rintro e w1 ⟨rfl, hk1⟩
  refine hK.out _ _ (HS.out w1 hk1) (fun hHeld => ?_)
  simp only [Act.put, List.setIfInBounds_toArray, List.set_cons_zero, List.set_cons_succ]
  refine wpAnyH_take (i := 5) (oi := { dst := some 9, op := Op.binOp BinOp.geq 52 (Operand.tmp 5) (Operand.tmp 8) 52, type := 4, pos := "row.go:99", after := #[{ on := 1, ground := Ground.data }, { on := 4, ground := Ground.data }], guard := none }) (v := .bool false) rfl (by kernel_rfl) (by kernel_rfl) (by kernel_rfl) (fun _ _ _ h => h) (Or.inl ⟨by kernel_rfl, by (intro w hSw; (try dsimp only at hSw); go_simp; try omega)⟩) hHeld ?_
  simp only [Act.put, List.setIfInBounds_toArray, List.set_cons_zero, List.set_cons_succ]
  refine wpAnyH_take (i := 6) (oi := { dst := some 10, op := Op.move (Operand.tmp 9), type := 4, pos := "row.go:99", after := #[{ on := 5, ground := Ground.data }, { on := 1, ground := Ground.chain }], guard := none }) (v := .bool false) rfl (by kernel_rfl) (by kernel_rfl) (by kernel_rfl) (fun _ _ _ h => h) (Or.inl ⟨by kernel_rfl, by (intro w hSw; (try dsimp only at hSw); go_simp; try omega)⟩) hHeld ?_
  simp only [Act.put, List.setIfInBounds_toArray, List.set_cons_zero, List.set_cons_succ]
  refine wpAnyH_take (i := 7) (oi := { dst := some 11, op := Op.load 75 (Operand.tmp 1), type := 75, pos := "row.go:99", after := #[{ on := 6, ground := Ground.guard }], guard := some (6, false) }) (v := .agg #[.int .i64 p, .int .i64 h, .int .i64 n, .int .i64 d, .slice (some ⟨g, 0, none⟩) N N]) rfl (by kernel_rfl) (by kernel_rfl) (by kernel_rfl) (fun _ _ _ h => h) (Or.inl ⟨by kernel_rfl, by (intro w hSw; (try dsimp only at hSw); go_simp; try omega)⟩) hHeld ?_
  simp only [Act.put, List.setIfInBounds_toArray, List.set_cons_zero, List.set_cons_succ]
  refine wpAnyH_take (i := 9) (oi := { dst := some 13, op := Op.fieldAddr 75 (Operand.tmp 1) 3, type := 0, pos := "row.go:99", after := #[{ on := 6, ground := Ground.guard }], guard := some (6, false) }) (v := .pointer (some ⟨O, 3, none⟩)) rfl (by kernel_rfl) (by kernel_rfl) (by kernel_rfl) (fun _ _ _ h => h) (Or.inl ⟨by kernel_rfl, by (intro w hSw; (try dsimp only at hSw); go_simp; try omega)⟩) hHeld ?_
  simp only [Act.put, List.setIfInBounds_toArray, List.set_cons_zero, List.set_cons_succ]
  refine wpAnyH_take (i := 10) (oi := { dst := some 14, op := Op.load 3 (Operand.tmp 13), type := 3, pos := "row.go:99", after := #[{ on := 9, ground := Ground.data }, { on := 6, ground := Ground.guard }], guard := some (6, false) }) (v := .int .i64 d) rfl (by kernel_rfl) (by kernel_rfl) (by kernel_rfl) (fun _ _ _ h => h) (Or.inl ⟨by kernel_rfl, by (intro w hSw; (try dsimp only at hSw); go_simp; try omega)⟩) hHeld ?_
  simp only [Act.put, List.setIfInBounds_toArray, List.set_cons_zero, List.set_cons_succ]
  refine wpAnyH_take (i := 11) (oi := { dst := some 15, op := Op.convert 3 52 (Operand.tmp 14), type := 52, pos := "row.go:99", after := #[{ on := 10, ground := Ground.data }, { on := 6, ground := Ground.guard }], guard := some (6, false) }) (v := .int .u32 d) rfl (by kernel_rfl) (by kernel_rfl) (by kernel_rfl) (fun _ _ _ h => h) (Or.inl ⟨by kernel_rfl, by (intro w hSw; (try dsimp only at hSw); go_simp; try omega)⟩) hHeld ?_
  simp only [Act.put, List.setIfInBounds_toArray, List.set_cons_zero, List.set_cons_succ]
  refine wpAnyH_ready (rs := [8]) (by kernel_rfl) (by simp) ?_
  refine AllReadyH.cons (o := { dst := some 12, op := Op.call { callee := Callee.value (Operand.func 65), args := #[Operand.tmp 11], argTypes := #[75] }, type := 52, pos := "row.go:99", after := #[{ on := 7, ground := Ground.data }, { on := 6, ground := Ground.chain }, { on := 6, ground := Ground.guard }], guard := some (6, false) }) rfl (fun Kq hK => ?_) AllReadyH.nil
  go_simp
  refine (HC.out w1 hk1).mono ?_
  rintro e w2 ⟨rfl, hk2⟩
  refine hK.out _ _ (HS.out w2 hk2) (fun hHeld => ?_)
  simp only [Act.put, List.setIfInBounds_toArray, List.set_cons_zero, List.set_cons_succ]
  refine wpAnyH_take (i := 12) (oi := { dst := some 16, op := Op.binOp BinOp.gtr 52 (Operand.tmp 12) (Operand.tmp 15) 52, type := 4, pos := "row.go:99", after := #[{ on := 8, ground := Ground.data }, { on := 11, ground := Ground.data }, { on := 6, ground := Ground.guard }], guard := some (6, false) }) (v := .bool false) rfl (by kernel_rfl) (by kernel_rfl) (by kernel_rfl) (fun _ _ _ h => h) (Or.inl ⟨by kernel_rfl, by (intro w hSw; (try dsimp only at hSw); go_simp; try omega)⟩) hHeld ?_
  simp only [Act.put, List.setIfInBounds_toArray, List.set_cons_zero, List.set_cons_succ]
  refine wpAnyH_take (i := 13) (oi := { dst := some 17, op := Op.pick (Operand.tmp 10) (Operand.const (Value.bool true)) (Operand.tmp 16), type := 4, pos := "row.go:99", after := #[{ on := 6, ground := Ground.data }, { on := 12, ground := Ground.data }], guard := none }) (v := .bool false) rfl (by kernel_rfl) (by kernel_rfl) (by kernel_rfl) (fun _ _ _ h => h) (Or.inl ⟨by kernel_rfl, by (intro w hSw; (try dsimp only at hSw); go_simp; try omega)⟩) hHeld ?_
  simp only [Act.put, List.setIfInBounds_toArray, List.set_cons_zero, List.set_cons_succ]
  refine wpAnyH_done (by kernel_rfl) ?_ _
  clear hHeld
  obtain ⟨c0, c1, c2, c3, c4⟩ := HS.out w2 hk2
  go_wp2_with fail
  refine (HZ.out w2 hk2).mono ?_
  rintro e w3 ⟨rfl, hk3⟩
  clear c0 c1 c2 c3 c4
  obtain ⟨c0, c1, c2, c3, c4⟩ := HS.out w3 hk3
  go_wp2_with fail
  refine (HF.out w3 hk3).mono ?_
  rintro e w4 ⟨rfl, hk4⟩
  go_wp2
  go_ret
  exact ⟨rfl, HW.out.2.1.trans hk4 fun _ _ e => e⟩
end

end Go.Proofs.Ytekijhhpldnmnaa
