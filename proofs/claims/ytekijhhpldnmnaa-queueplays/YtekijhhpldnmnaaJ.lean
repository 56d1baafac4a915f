import Derived.Test.YtekijhhpldnmnaaI
namespace Go.Proofs.Ytekijhhpldnmnaa
open Go.RowKit
set_option linter.unusedVariables false
set_option linter.unusedSimpArgs false

theorem all_step {P : Nat → Prop} {j : Nat} (h : ∀ i, i < j → P i) (hj : P j) : ∀ i, i < j + 1 → P i := fun i hi => by
  by_cases e : i < j
  · exact h i e
  · rw [show i = j by omega]; exact hj

section
variable (p : Int) (g h n d N : Nat) (l : List UInt32) (w : World)

set_option maxRecDepth 20000 in
set_option maxHeartbeats 4000000 in
theorem right_loop (r : Rb w g h n d l) (hN : N = l.length) (hf : fstW h l < d) (hc : cntW h l ≤ d) (h0 : cntW h l = 0 → fstW h l = 0) :
    Calls Try.prog 60 #[rwv p h n d g N] w fun e w' => e = .returned (.bool ((List.range d).all fun i => rpB (plc h n d l i) (decide (i < cntW h l)))) ∧ Keeps (fun _ => False) w w' := by
  obtain ⟨W, hW, hK, hB⟩ := row_new w p h n d g N
  have hb := r.big
  have rW := r.grown hK
  have hcell := row_cells p g h n d N hB
  have HF := first_on p g h n d N l rW hN
  have HC := count_on p g h n d N l rW hN
  have HZ := size_on p g h n d N l rW hN
  obtain ⟨F, hF⟩ : ∃ v : Nat, v = fstW h l := ⟨_, rfl⟩
  obtain ⟨C, hC⟩ : ∃ v : Nat, v = cntW h l := ⟨_, rfl⟩
  have hF32 : F < 4294967296 := by rw [hF]; unfold fstW; split; (· omega); (· exact (wd l 0).toNat_lt)
  have hC32 : C < 4294967296 := by rw [hC]; exact (wd l (cntI h)).toNat_lt
  rw [← hF] at HF
  rw [← hC] at HC HZ
  have HF : Hid (∀ W1, Keeps (fun _ => False) W W1 → Calls Try.prog 69 #[rwv p h n d g N] W1 fun e w' => e = .returned (.int .u32 F) ∧ Keeps (fun _ => False) W w') := HF
  have HC : Hid (∀ W1, Keeps (fun _ => False) W W1 → Calls Try.prog 65 #[rwv p h n d g N] W1 fun e w' => e = .returned (.int .u32 C) ∧ Keeps (fun _ => False) W w') := HC
  have HZ : Hid (∀ W1, Keeps (fun _ => False) W W1 → Calls Try.prog 47 #[rwv p h n d g N] W1 fun e w' => e = .returned (.int .i64 C) ∧ Keeps (fun _ => False) W w') := HZ
  have hS := hcell W (Keeps.refl _ _)
  have HS : Hid (∀ W1, Keeps (fun _ => False) W W1 → _) := hcell
  obtain ⟨O, hO⟩ : ∃ O, O = w.heap.size := ⟨_, rfl⟩
  rw [← hO] at HS hS
  have HW : Hid (W = _ ∧ Keeps (fun _ => False) w W ∧ O = w.heap.size) := ⟨hW, hK, hO⟩
  have z1 : (d : Int) ≤ 8 := by have := r.d2; omega
  have z0 : 1 ≤ (d : Int) := by have := r.d1; omega
  have z2 : (d : Int) % 4294967296 = (d : Int) := by omega
  have z9 : IntKind.u32.wrap (d : Int) = (d : Int) := by rw [IntKind.wrap_u32]; omega
  have HP : Hid (∀ W1, Keeps (fun _ => False) W W1 → ∀ i : Nat, i < d → Calls Try.prog 61 #[rwv p h n d g N, .int .i64 i] W1 fun e w' => e = .returned (.slice (some ⟨g, plA h n d l i, none⟩) (1 + n) (N - plA h n d l i)) ∧ Keeps (fun _ => False) W w') := place_on p g h n d N l rW hN hf
  have HRP : Hid (∀ W1, Keeps (fun _ => False) W W1 → ∀ i : Nat, i < d → ∀ fl : Bool, Calls Try.prog 70 #[.slice (some ⟨g, plA h n d l i, none⟩) (1 + n) (N - plA h n d l i), .bool fl] W1 fun e w' => e = .returned (.bool (rpB (plc h n d l i) fl)) ∧ w' = W1) := fun W1 k i hi fl => by
    have hfit := plA_fit r hf hi
    exact rightPlace_any g (plA h n d l i) (N - plA h n d l i) (1 + n) _ W1 fl (by rw [plc_win]; exact segW_win (rW.grown k).blk _ _ hfit) (by rw [plc_length r.len hf hi]) (by have := r.n1; omega) (by omega) (by omega)
  rw [← hC]
  have HF2 : Hid (∀ j, j < d → rpB (plc h n d l j) (decide (j < C)) = false → ((List.range d).all fun i => rpB (plc h n d l i) (decide (i < C))) = false) := fun j hj hx => List.all_eq_false.2 ⟨j, by simpa using hj, by simp [hx]⟩
  have HT2 : Hid ((∀ j, j < d → rpB (plc h n d l j) (decide (j < C)) = true) → ((List.range d).all fun i => rpB (plc h n d l i) (decide (i < C))) = true) := fun hx => List.all_eq_true.2 fun j hj => hx j (by simpa using hj)
  rw [← hF] at hf h0
  rw [← hC] at hc h0
  have z3 : ¬ (d : Int) ≤ (F : Int) := by omega
  have z4 : ¬ (d : Int) < (C : Int) := by omega
  obtain ⟨B, hBd⟩ : ∃ B, B = ((List.range d).all fun i => rpB (plc h n d l i) (decide (i < C))) := ⟨_, rfl⟩
  rw [← hBd] at HF2 HT2 ⊢
  have HFZ : Hid (C = 0 → F = 0) := h0
  clear hcell hW hK hB hb rW r hN hF hC hO hf hC32 hF32 h0 hc hBd
  have hLoop : ∀ w2, Keeps (fun _ => False) W w2 → Hid (Keeps (fun _ => False) W w2) := fun _ h => h
  go_enter Try.func60, Try.ntmps60
  go_wp2
  rw [← HW.out.1, ← HW.out.2.2]
  refine wp_region_held_drew (S := (fun w' => w'.cell? ⟨O, 0, none⟩ = some (.int .i64 p) ∧ w'.cell? ⟨O, 1, none⟩ = some (.int .i64 h) ∧ w'.cell? ⟨O, 2, none⟩ = some (.int .i64 n) ∧ w'.cell? ⟨O, 3, none⟩ = some (.int .i64 d) ∧ w'.cell? ⟨O, 4, none⟩ = some (.slice (some ⟨g, 0, none⟩) N N))) Try.mixd hS (fun hHeld => ?_)
  simp only [List.size_toArray, List.length_cons, List.length_nil, Nat.reduceAdd, Array.replicate_succ, Array.replicate_zero, List.push_toArray, List.append_toArray, List.nil_append, List.cons_append]
  refine wpAnyH_take (i := 0) (oi := { dst := some 4, op := Op.load 75 (Operand.tmp 1), type := 75, pos := "row.go:99", after := #[], guard := none }) (v := .agg #[.int .i64 p, .int .i64 h, .int .i64 n, .int .i64 d, .slice (some ⟨g, 0, none⟩) N N]) rfl (by kernel_rfl) (by kernel_rfl) (by kernel_rfl) (fun _ _ _ h => h) (Or.inl ⟨by kernel_rfl, by (intro w hSw; (try dsimp only at hSw); go_simp; try omega)⟩) hHeld ?_
  simp only [Act.put, List.setIfInBounds_toArray, List.set_cons_zero, List.set_cons_succ]
  refine wpAnyH_take (i := 2) (oi := { dst := some 6, op := Op.fieldAddr 75 (Operand.tmp 1) 3, type := 0, pos := "row.go:99", after := #[], guard := none }) (v := .pointer (some ⟨O, 3, none⟩)) rfl (by kernel_rfl) (by kernel_rfl) (by kernel_rfl) (fun _ _ _ h => h) (Or.inl ⟨by kernel_rfl, by (intro w hSw; (try dsimp only at hSw); go_simp; try omega)⟩) hHeld ?_
  simp only [Act.put, List.setIfInBounds_toArray, List.set_cons_zero, List.set_cons_succ]
  refine wpAnyH_take (i := 3) (oi := { dst := some 7, op := Op.load 3 (Operand.tmp 6), type := 3, pos := "row.go:99", after := #[{ on := 2, ground := Ground.data }], guard := none }) (v := .int .i64 d) rfl (by kernel_rfl) (by kernel_rfl) (by kernel_rfl) (fun _ _ _ h => h) (Or.inl ⟨by kernel_rfl, by (intro w hSw; (try dsimp only at hSw); go_simp; try omega)⟩) hHeld ?_
  simp only [Act.put, List.setIfInBounds_toArray, List.set_cons_zero, List.set_cons_succ]
  refine wpAnyH_take (i := 4) (oi := { dst := some 8, op := Op.convert 3 52 (Operand.tmp 7), type := 52, pos := "row.go:99", after := #[{ on := 3, ground := Ground.data }], guard := none }) (v := .int .u32 d) rfl (by kernel_rfl) (by kernel_rfl) (by kernel_rfl) (fun _ _ _ h => h) (Or.inl ⟨by kernel_rfl, by (intro w hSw; (try dsimp only at hSw); go_simp; try omega)⟩) hHeld ?_
  simp only [Act.put, List.setIfInBounds_toArray, List.set_cons_zero, List.set_cons_succ]
  refine wpAnyH_ready (rs := [1]) (by kernel_rfl) (by simp) ?_
  refine AllReadyH.cons (o := { dst := some 5, op := Op.call { callee := Callee.value (Operand.func 69), args := #[Operand.tmp 4], argTypes := #[75] }, type := 52, pos := "row.go:99", after := #[{ on := 0, ground := Ground.data }], guard := none }) rfl (fun Kq hK => ?_) AllReadyH.nil
  go_simp
  refine (HF.out _ (Keeps.refl _ W).drew).mono ?_
  rintro e w1 ⟨rfl, hk1⟩
  refine hK.out _ _ (HS.out w1 hk1) (fun hHeld => ?_)
  simp only [Act.put, List.setIfInBounds_toArray, List.set_cons_zero, List.set_cons_succ]
  refine wpAnyH_take (i := 5) (oi := { dst := some 9, op := Op.binOp BinOp.geq 52 (Operand.tmp 5) (Operand.tmp 8) 52, type := 4, pos := "row.go:99", after := #[{ on := 1, ground := Ground.data }, { on := 4, ground := Ground.data }], guard := none }) (v := .bool false) rfl (by kernel_rfl) (by kernel_rfl) (by kernel_rfl) (fun _ _ _ h => h) (Or.inl ⟨by kernel_rfl, by (intro w hSw; (try dsimp only at hSw); go_simp; try omega)⟩) hHeld ?_
  simp only [Act.put, List.setIfInBounds_toArray, List.set_cons_zero, List.set_cons_succ]
  refine wpAnyH_take (i := 6) (oi := { dst := some 10, op := Op.move (Operand.tmp 9), type := 4, pos := "row.go:99", after := #[{ on := 5, ground := Ground.data }, { on := 1, ground := Ground.chain }], guard := none }) (v := .bool false) rfl (by kernel_rfl) (by kernel_rfl) (by kernel_rfl) (fun _ _ _ h => h) (Or.inl ⟨by kernel_rfl, by (intro w hSw; (try dsimp only at hSw); go_simp; try omega)⟩) hHeld ?_
  simp only [Act.put, List.setIfInBounds_toArray, List.set_cons_zero, List.set_cons_succ]
  refine wpAnyH_take (i := 7) (oi := { dst := some 11, op := Op.load 75 (Operand.tmp 1), type := 75, pos := "row.go:99", after := #[{ on := 6, ground := Ground.guard }], guard := some (6, false) }) (v := .agg #[.int .i64 p, .int .i64 h, .int .i64 n, .int .i64 d, .slice (some ⟨g, 0, none⟩) N N]) rfl (by kernel_rfl) (by kernel_rfl) (by kernel_rfl) (fun _ _ _ h => h) (Or.inl ⟨by kernel_rfl, by (intro w hSw; (try dsimp only at hSw); go_simp; try omega)⟩) hHeld ?_
  simp only [Act.put, List.setIfInBounds_toArray, List.set_cons_zero, List.set_cons_succ]
  refine wpAnyH_take (i := 9) (oi := { dst := some 13, op := Op.fieldAddr 75 (Operand.tmp 1) 3, type := 0, pos := "row.go:99", after := #[{ on := 6, ground := Ground.guard }], guard := some (6, false) }) (v := .pointer (some ⟨O, 3, none⟩)) rfl (by kernel_rfl) (by kernel_rfl) (by kernel_rfl) (fun _ _ _ h => h) (Or.inl ⟨by kernel_rfl, by (intro w hSw; (try dsimp only at hSw); go_simp; try omega)⟩) hHeld ?_
  simp only [Act.put, List.setIfInBounds_toArray, List.set_cons_zero, List.set_cons_succ]
  refine wpAnyH_take (i := 10) (oi := { dst := some 14, op := Op.load 3 (Operand.tmp 13), type := 3, pos := "row.go:99", after := #[{ on := 9, ground := Ground.data }, { on := 6, ground := Ground.guard }], guard := some (6, false) }) (v := .int .i64 d) rfl (by kernel_rfl) (by kernel_rfl) (by kernel_rfl) (fun _ _ _ h => h) (Or.inl ⟨by kernel_rfl, by (intro w hSw; (try dsimp only at hSw); go_simp; try omega)⟩) hHeld ?_
  simp only [Act.put, List.setIfInBounds_toArray, List.set_cons_zero, List.set_cons_succ]
  refine wpAnyH_take (i := 11) (oi := { dst := some 15, op := Op.convert 3 52 (Operand.tmp 14), type := 52, pos := "row.go:99", after := #[{ on := 10, ground := Ground.data }, { on := 6, ground := Ground.guard }], guard := some (6, false) }) (v := .int .u32 d) rfl (by kernel_rfl) (by kernel_rfl) (by kernel_rfl) (fun _ _ _ h => h) (Or.inl ⟨by kernel_rfl, by (intro w hSw; (try dsimp only at hSw); go_simp; try omega)⟩) hHeld ?_
  simp only [Act.put, List.setIfInBounds_toArray, List.set_cons_zero, List.set_cons_succ]
  refine wpAnyH_ready (rs := [8]) (by kernel_rfl) (by simp) ?_
  refine AllReadyH.cons (o := { dst := some 12, op := Op.call { callee := Callee.value (Operand.func 65), args := #[Operand.tmp 11], argTypes := #[75] }, type := 52, pos := "row.go:99", after := #[{ on := 7, ground := Ground.data }, { on := 6, ground := Ground.chain }, { on := 6, ground := Ground.guard }], guard := some (6, false) }) rfl (fun Kq hK => ?_) AllReadyH.nil
  go_simp
  refine (HC.out w1 hk1).mono ?_
  rintro e w2 ⟨rfl, hk2⟩
  refine hK.out _ _ (HS.out w2 hk2) (fun hHeld => ?_)
  simp only [Act.put, List.setIfInBounds_toArray, List.set_cons_zero, List.set_cons_succ]
  refine wpAnyH_take (i := 12) (oi := { dst := some 16, op := Op.binOp BinOp.gtr 52 (Operand.tmp 12) (Operand.tmp 15) 52, type := 4, pos := "row.go:99", after := #[{ on := 8, ground := Ground.data }, { on := 11, ground := Ground.data }, { on := 6, ground := Ground.guard }], guard := some (6, false) }) (v := .bool false) rfl (by kernel_rfl) (by kernel_rfl) (by kernel_rfl) (fun _ _ _ h => h) (Or.inl ⟨by kernel_rfl, by (intro w hSw; (try dsimp only at hSw); go_simp; try omega)⟩) hHeld ?_
  simp only [Act.put, List.setIfInBounds_toArray, List.set_cons_zero, List.set_cons_succ]
  refine wpAnyH_take (i := 13) (oi := { dst := some 17, op := Op.pick (Operand.tmp 10) (Operand.const (Value.bool true)) (Operand.tmp 16), type := 4, pos := "row.go:99", after := #[{ on := 6, ground := Ground.data }, { on := 12, ground := Ground.data }], guard := none }) (v := .bool false) rfl (by kernel_rfl) (by kernel_rfl) (by kernel_rfl) (fun _ _ _ h => h) (Or.inl ⟨by kernel_rfl, by (intro w hSw; (try dsimp only at hSw); go_simp; try omega)⟩) hHeld ?_
  simp only [Act.put, List.setIfInBounds_toArray, List.set_cons_zero, List.set_cons_succ]
  refine wpAnyH_done (by kernel_rfl) ?_ _
  clear hHeld
  obtain ⟨c0, c1, c2, c3, c4⟩ := HS.out w2 hk2
  go_wp2_with fail
  refine (HZ.out w2 hk2).mono ?_
  rintro e w3 ⟨rfl, hk3⟩
  clear c0 c1 c2 c3 c4 hS
  obtain ⟨c0, c1, c2, c3, c4⟩ := HS.out w3 hk3
  by_cases hC0 : C = 0
  · have hF0 := HFZ.out hC0
    subst hC0 hF0
    go_wp2_with fail
    refine (HF.out w3 hk3).mono ?_
    rintro e w4 ⟨rfl, hk4⟩
    clear c0 c1 c2 c3 c4
    obtain ⟨c0, c1, c2, c3, c4⟩ := HS.out w4 hk4
    have HK4 : Hid (Keeps _ _ _) := hk4
    clear hk1 hk2 hk3 hk4
    go_wp2
    go_loopw [28] (fun i wr => ∃ j : Nat, j ≤ d ∧ i = .int .i64 j ∧ (∀ i, i < j → rpB (plc h n d l i) (decide (i < 0)) = true) ∧ Keeps (fun _ => False) W wr) (fun i _ => d - (intOf i).toNat)
    case atStart => exact ⟨0, by omega, rfl, fun i hi => absurd hi (by omega), HK4.out⟩
    case round =>
      obtain ⟨j, hj, rfl, hall, hkr⟩ := hrel
      clear c0 c1 c2 c3 c4
      have hSr := HS.out wr hkr
      have HA : Hid (∀ i, i < j → rpB (plc h n d l i) (decide (i < 0)) = true) := hall
      clear hall
      by_cases hjd : j < d
      · have hjz : (j : Int) < (d : Int) := by omega
        · have hd2 : decide (j < 0) = false := decide_eq_false (by omega)
          by_cases hrb : rpB (plc h n d l j) false = true
          · have HX : Hid (rpB (plc h n d l j) (decide (j < 0)) = true) := by rw [hd2]; exact hrb
            have HR : Hid (∀ W1, Keeps (fun _ => False) W W1 → Calls Try.prog 70 #[.slice (some ⟨g, plA h n d l j, none⟩) (1 + n) (N - plA h n d l j), .bool false] W1 fun e w' => e = .returned (.bool true) ∧ w' = W1) := fun W1 k => by
              have hx := HRP.out W1 k j hjd false
              rw [hrb] at hx
              exact hx
            go_wp2
            refine wp_region_held_drew (S := (fun w' => w'.cell? ⟨O, 0, none⟩ = some (.int .i64 p) ∧ w'.cell? ⟨O, 1, none⟩ = some (.int .i64 h) ∧ w'.cell? ⟨O, 2, none⟩ = some (.int .i64 n) ∧ w'.cell? ⟨O, 3, none⟩ = some (.int .i64 d) ∧ w'.cell? ⟨O, 4, none⟩ = some (.slice (some ⟨g, 0, none⟩) N N))) Try.mixd hSr (fun hHeld => ?_)
            simp only [List.size_toArray, List.length_cons, List.length_nil, Nat.reduceAdd, Array.replicate_succ, Array.replicate_zero, List.push_toArray, List.append_toArray, List.nil_append, List.cons_append]
            refine wpAnyH_take (i := 0) (oi := { dst := some 31, op := Op.load 75 (Operand.tmp 1), type := 75, pos := "row.go:106", after := #[], guard := none }) (v := .agg #[.int .i64 p, .int .i64 h, .int .i64 n, .int .i64 d, .slice (some ⟨g, 0, none⟩) N N]) rfl (by kernel_rfl) (by kernel_rfl) (by kernel_rfl) (fun _ _ _ h => h) (Or.inl ⟨by kernel_rfl, by (intro w hSw; (try dsimp only at hSw); go_simp; try omega)⟩) hHeld ?_
            simp only [Act.put, List.setIfInBounds_toArray, List.set_cons_zero, List.set_cons_succ]
            refine wpAnyH_take (i := 1) (oi := { dst := some 32, op := Op.move (Operand.tmp 3), type := 3, pos := "row.go:106", after := #[], guard := none }) (v := .int .i64 j) rfl (by kernel_rfl) (by kernel_rfl) (by kernel_rfl) (fun _ _ _ h => h) (Or.inl ⟨by kernel_rfl, by (intro w hSw; (try dsimp only at hSw); go_simp; try omega)⟩) hHeld ?_
            simp only [Act.put, List.setIfInBounds_toArray, List.set_cons_zero, List.set_cons_succ]
            refine wpAnyH_take (i := 3) (oi := { dst := some 34, op := Op.move (Operand.tmp 3), type := 3, pos := "row.go:106", after := #[], guard := none }) (v := .int .i64 j) rfl (by kernel_rfl) (by kernel_rfl) (by kernel_rfl) (fun _ _ _ h => h) (Or.inl ⟨by kernel_rfl, by (intro w hSw; (try dsimp only at hSw); go_simp; try omega)⟩) hHeld ?_
            simp only [Act.put, List.setIfInBounds_toArray, List.set_cons_zero, List.set_cons_succ]
            refine wpAnyH_take (i := 4) (oi := { dst := some 35, op := Op.load 75 (Operand.tmp 1), type := 75, pos := "row.go:106", after := #[], guard := none }) (v := .agg #[.int .i64 p, .int .i64 h, .int .i64 n, .int .i64 d, .slice (some ⟨g, 0, none⟩) N N]) rfl (by kernel_rfl) (by kernel_rfl) (by kernel_rfl) (fun _ _ _ h => h) (Or.inl ⟨by kernel_rfl, by (intro w hSw; (try dsimp only at hSw); go_simp; try omega)⟩) hHeld ?_
            simp only [Act.put, List.setIfInBounds_toArray, List.set_cons_zero, List.set_cons_succ]
            refine wpAnyH_ready (rs := [2]) (by kernel_rfl) (by simp) ?_
            refine AllReadyH.cons (o := { dst := some 33, op := Op.call { callee := Callee.value (Operand.func 61), args := #[Operand.tmp 31, Operand.tmp 32], argTypes := #[75, 3] }, type := 22, pos := "row.go:106", after := #[{ on := 0, ground := Ground.data }, { on := 1, ground := Ground.data }], guard := none }) rfl (fun Kq hK => ?_) AllReadyH.nil
            go_simp
            refine (HP.out _ (hkr.trans (Keeps.refl _ wr).drew fun _ _ e => e) j hjd).mono ?_
            rintro e w1 ⟨rfl, hk1⟩
            refine hK.out _ _ (HS.out w1 hk1) (fun hHeld => ?_)
            simp only [Act.put, List.setIfInBounds_toArray, List.set_cons_zero, List.set_cons_succ]
            refine wpAnyH_ready (rs := [5]) (by kernel_rfl) (by simp) ?_
            refine AllReadyH.cons (o := { dst := some 36, op := Op.call { callee := Callee.value (Operand.func 47), args := #[Operand.tmp 35], argTypes := #[75] }, type := 3, pos := "row.go:106", after := #[{ on := 4, ground := Ground.data }, { on := 2, ground := Ground.chain }], guard := none }) rfl (fun Kq hK => ?_) AllReadyH.nil
            go_simp
            refine (HZ.out w1 hk1).mono ?_
            rintro e w2 ⟨rfl, hk2⟩
            refine hK.out _ _ (HS.out w2 hk2) (fun hHeld => ?_)
            simp only [Act.put, List.setIfInBounds_toArray, List.set_cons_zero, List.set_cons_succ]
            refine wpAnyH_take (i := 6) (oi := { dst := some 37, op := Op.binOp BinOp.lss 3 (Operand.tmp 34) (Operand.tmp 36) 3, type := 4, pos := "row.go:106", after := #[{ on := 3, ground := Ground.data }, { on := 5, ground := Ground.data }], guard := none }) (v := .bool false) rfl (by kernel_rfl) (by kernel_rfl) (by kernel_rfl) (fun _ _ _ h => h) (Or.inl ⟨by kernel_rfl, by (intro w hSw; (try dsimp only at hSw); go_simp; try omega)⟩) hHeld ?_
            simp only [Act.put, List.setIfInBounds_toArray, List.set_cons_zero, List.set_cons_succ]
            refine wpAnyH_ready (rs := [7]) (by kernel_rfl) (by simp) ?_
            refine AllReadyH.cons (o := { dst := some 38, op := Op.call { callee := Callee.value (Operand.func 70), args := #[Operand.tmp 33, Operand.tmp 37], argTypes := #[22, 4] }, type := 4, pos := "row.go:106", after := #[{ on := 2, ground := Ground.data }, { on := 6, ground := Ground.data }, { on := 5, ground := Ground.chain }], guard := none }) rfl (fun Kq hK => ?_) AllReadyH.nil
            go_simp
            refine (HR.out w2 hk2).mono ?_
            rintro e w3 ⟨rfl, hw⟩
            obtain rfl := hw.symm
            clear hw
            refine hK.out _ _ (HS.out w2 hk2) (fun hHeld => ?_)
            simp only [Act.put, List.setIfInBounds_toArray, List.set_cons_zero, List.set_cons_succ]
            refine wpAnyH_take (i := 8) (oi := { dst := some 39, op := Op.unOp UnOp.not 4 (Operand.tmp 38), type := 4, pos := "row.go:106", after := #[{ on := 7, ground := Ground.data }], guard := none }) (v := .bool false) rfl (by kernel_rfl) (by kernel_rfl) (by kernel_rfl) (fun _ _ _ h => h) (Or.inl ⟨by kernel_rfl, by (intro w hSw; (try dsimp only at hSw); go_simp; try omega)⟩) hHeld ?_
            simp only [Act.put, List.setIfInBounds_toArray, List.set_cons_zero, List.set_cons_succ]
            refine wpAnyH_done (by kernel_rfl) ?_ _
            clear hHeld
            go_wp2
            go_roundw
            case rel => exact ⟨j + 1, by omega, by go_num, all_step HA.out HX.out, hk2⟩
            case measure => simp [intOf]; omega
          · have hrb : rpB (plc h n d l j) false = false := by simpa using hrb
            have HX : Hid (rpB (plc h n d l j) (decide (j < 0)) = false) := by rw [hd2]; exact hrb
            have HR : Hid (∀ W1, Keeps (fun _ => False) W W1 → Calls Try.prog 70 #[.slice (some ⟨g, plA h n d l j, none⟩) (1 + n) (N - plA h n d l j), .bool false] W1 fun e w' => e = .returned (.bool false) ∧ w' = W1) := fun W1 k => by
              have hx := HRP.out W1 k j hjd false
              rw [hrb] at hx
              exact hx
            go_wp2
            refine wp_region_held_drew (S := (fun w' => w'.cell? ⟨O, 0, none⟩ = some (.int .i64 p) ∧ w'.cell? ⟨O, 1, none⟩ = some (.int .i64 h) ∧ w'.cell? ⟨O, 2, none⟩ = some (.int .i64 n) ∧ w'.cell? ⟨O, 3, none⟩ = some (.int .i64 d) ∧ w'.cell? ⟨O, 4, none⟩ = some (.slice (some ⟨g, 0, none⟩) N N))) Try.mixd hSr (fun hHeld => ?_)
            simp only [List.size_toArray, List.length_cons, List.length_nil, Nat.reduceAdd, Array.replicate_succ, Array.replicate_zero, List.push_toArray, List.append_toArray, List.nil_append, List.cons_append]
            refine wpAnyH_take (i := 0) (oi := { dst := some 31, op := Op.load 75 (Operand.tmp 1), type := 75, pos := "row.go:106", after := #[], guard := none }) (v := .agg #[.int .i64 p, .int .i64 h, .int .i64 n, .int .i64 d, .slice (some ⟨g, 0, none⟩) N N]) rfl (by kernel_rfl) (by kernel_rfl) (by kernel_rfl) (fun _ _ _ h => h) (Or.inl ⟨by kernel_rfl, by (intro w hSw; (try dsimp only at hSw); go_simp; try omega)⟩) hHeld ?_
            simp only [Act.put, List.setIfInBounds_toArray, List.set_cons_zero, List.set_cons_succ]
            refine wpAnyH_take (i := 1) (oi := { dst := some 32, op := Op.move (Operand.tmp 3), type := 3, pos := "row.go:106", after := #[], guard := none }) (v := .int .i64 j) rfl (by kernel_rfl) (by kernel_rfl) (by kernel_rfl) (fun _ _ _ h => h) (Or.inl ⟨by kernel_rfl, by (intro w hSw; (try dsimp only at hSw); go_simp; try omega)⟩) hHeld ?_
            simp only [Act.put, List.setIfInBounds_toArray, List.set_cons_zero, List.set_cons_succ]
            refine wpAnyH_take (i := 3) (oi := { dst := some 34, op := Op.move (Operand.tmp 3), type := 3, pos := "row.go:106", after := #[], guard := none }) (v := .int .i64 j) rfl (by kernel_rfl) (by kernel_rfl) (by kernel_rfl) (fun _ _ _ h => h) (Or.inl ⟨by kernel_rfl, by (intro w hSw; (try dsimp only at hSw); go_simp; try omega)⟩) hHeld ?_
            simp only [Act.put, List.setIfInBounds_toArray, List.set_cons_zero, List.set_cons_succ]
            refine wpAnyH_take (i := 4) (oi := { dst := some 35, op := Op.load 75 (Operand.tmp 1), type := 75, pos := "row.go:106", after := #[], guard := none }) (v := .agg #[.int .i64 p, .int .i64 h, .int .i64 n, .int .i64 d, .slice (some ⟨g, 0, none⟩) N N]) rfl (by kernel_rfl) (by kernel_rfl) (by kernel_rfl) (fun _ _ _ h => h) (Or.inl ⟨by kernel_rfl, by (intro w hSw; (try dsimp only at hSw); go_simp; try omega)⟩) hHeld ?_
            simp only [Act.put, List.setIfInBounds_toArray, List.set_cons_zero, List.set_cons_succ]
            refine wpAnyH_ready (rs := [2]) (by kernel_rfl) (by simp) ?_
            refine AllReadyH.cons (o := { dst := some 33, op := Op.call { callee := Callee.value (Operand.func 61), args := #[Operand.tmp 31, Operand.tmp 32], argTypes := #[75, 3] }, type := 22, pos := "row.go:106", after := #[{ on := 0, ground := Ground.data }, { on := 1, ground := Ground.data }], guard := none }) rfl (fun Kq hK => ?_) AllReadyH.nil
            go_simp
            refine (HP.out _ (hkr.trans (Keeps.refl _ wr).drew fun _ _ e => e) j hjd).mono ?_
            rintro e w1 ⟨rfl, hk1⟩
            refine hK.out _ _ (HS.out w1 hk1) (fun hHeld => ?_)
            simp only [Act.put, List.setIfInBounds_toArray, List.set_cons_zero, List.set_cons_succ]
            refine wpAnyH_ready (rs := [5]) (by kernel_rfl) (by simp) ?_
            refine AllReadyH.cons (o := { dst := some 36, op := Op.call { callee := Callee.value (Operand.func 47), args := #[Operand.tmp 35], argTypes := #[75] }, type := 3, pos := "row.go:106", after := #[{ on := 4, ground := Ground.data }, { on := 2, ground := Ground.chain }], guard := none }) rfl (fun Kq hK => ?_) AllReadyH.nil
            go_simp
            refine (HZ.out w1 hk1).mono ?_
            rintro e w2 ⟨rfl, hk2⟩
            refine hK.out _ _ (HS.out w2 hk2) (fun hHeld => ?_)
            simp only [Act.put, List.setIfInBounds_toArray, List.set_cons_zero, List.set_cons_succ]
            refine wpAnyH_take (i := 6) (oi := { dst := some 37, op := Op.binOp BinOp.lss 3 (Operand.tmp 34) (Operand.tmp 36) 3, type := 4, pos := "row.go:106", after := #[{ on := 3, ground := Ground.data }, { on := 5, ground := Ground.data }], guard := none }) (v := .bool false) rfl (by kernel_rfl) (by kernel_rfl) (by kernel_rfl) (fun _ _ _ h => h) (Or.inl ⟨by kernel_rfl, by (intro w hSw; (try dsimp only at hSw); go_simp; try omega)⟩) hHeld ?_
            simp only [Act.put, List.setIfInBounds_toArray, List.set_cons_zero, List.set_cons_succ]
            refine wpAnyH_ready (rs := [7]) (by kernel_rfl) (by simp) ?_
            refine AllReadyH.cons (o := { dst := some 38, op := Op.call { callee := Callee.value (Operand.func 70), args := #[Operand.tmp 33, Operand.tmp 37], argTypes := #[22, 4] }, type := 4, pos := "row.go:106", after := #[{ on := 2, ground := Ground.data }, { on := 6, ground := Ground.data }, { on := 5, ground := Ground.chain }], guard := none }) rfl (fun Kq hK => ?_) AllReadyH.nil
            go_simp
            refine (HR.out w2 hk2).mono ?_
            rintro e w3 ⟨rfl, hw⟩
            obtain rfl := hw.symm
            clear hw
            refine hK.out _ _ (HS.out w2 hk2) (fun hHeld => ?_)
            simp only [Act.put, List.setIfInBounds_toArray, List.set_cons_zero, List.set_cons_succ]
            refine wpAnyH_take (i := 8) (oi := { dst := some 39, op := Op.unOp UnOp.not 4 (Operand.tmp 38), type := 4, pos := "row.go:106", after := #[{ on := 7, ground := Ground.data }], guard := none }) (v := .bool true) rfl (by kernel_rfl) (by kernel_rfl) (by kernel_rfl) (fun _ _ _ h => h) (Or.inl ⟨by kernel_rfl, by (intro w hSw; (try dsimp only at hSw); go_simp; try omega)⟩) hHeld ?_
            simp only [Act.put, List.setIfInBounds_toArray, List.set_cons_zero, List.set_cons_succ]
            refine wpAnyH_done (by kernel_rfl) ?_ _
            clear hHeld
            go_wp2
            go_ret
            exact ⟨ret_bool (HF2.out j hjd HX.out).symm, HW.out.2.1.trans hk2 fun _ _ e => e⟩
      · obtain rfl : j = d := by omega
        go_wp2
        go_ret
        exact ⟨ret_bool (HT2.out HA.out).symm, HW.out.2.1.trans hkr fun _ _ e => e⟩
  · have hC1 : ((C : Int) == 0) = false := beq_eq_false_iff_ne.2 (by omega)
    have HK4 : Hid (Keeps _ _ _) := hk3
    clear hk1 hk2 hk3 hC0
    go_wp2
    go_loopw [28] (fun i wr => ∃ j : Nat, j ≤ d ∧ i = .int .i64 j ∧ (∀ i, i < j → rpB (plc h n d l i) (decide (i < C)) = true) ∧ Keeps (fun _ => False) W wr) (fun i _ => d - (intOf i).toNat)
    case atStart => exact ⟨0, by omega, rfl, fun i hi => absurd hi (by omega), HK4.out⟩
    case round =>
      obtain ⟨j, hj, rfl, hall, hkr⟩ := hrel
      clear c0 c1 c2 c3 c4
      have hSr := HS.out wr hkr
      have HA : Hid (∀ i, i < j → rpB (plc h n d l i) (decide (i < C)) = true) := hall
      clear hall
      by_cases hjd : j < d
      · have hjz : (j : Int) < (d : Int) := by omega
        by_cases hjc : j < C
        · have hd2 : decide (j < C) = true := decide_eq_true hjc
          by_cases hrb : rpB (plc h n d l j) true = true
          · have HX : Hid (rpB (plc h n d l j) (decide (j < C)) = true) := by rw [hd2]; exact hrb
            have HR : Hid (∀ W1, Keeps (fun _ => False) W W1 → Calls Try.prog 70 #[.slice (some ⟨g, plA h n d l j, none⟩) (1 + n) (N - plA h n d l j), .bool true] W1 fun e w' => e = .returned (.bool true) ∧ w' = W1) := fun W1 k => by
              have hx := HRP.out W1 k j hjd true
              rw [hrb] at hx
              exact hx
            go_wp2
            refine wp_region_held_drew (S := (fun w' => w'.cell? ⟨O, 0, none⟩ = some (.int .i64 p) ∧ w'.cell? ⟨O, 1, none⟩ = some (.int .i64 h) ∧ w'.cell? ⟨O, 2, none⟩ = some (.int .i64 n) ∧ w'.cell? ⟨O, 3, none⟩ = some (.int .i64 d) ∧ w'.cell? ⟨O, 4, none⟩ = some (.slice (some ⟨g, 0, none⟩) N N))) Try.mixd hSr (fun hHeld => ?_)
            simp only [List.size_toArray, List.length_cons, List.length_nil, Nat.reduceAdd, Array.replicate_succ, Array.replicate_zero, List.push_toArray, List.append_toArray, List.nil_append, List.cons_append]
            refine wpAnyH_take (i := 0) (oi := { dst := some 31, op := Op.load 75 (Operand.tmp 1), type := 75, pos := "row.go:106", after := #[], guard := none }) (v := .agg #[.int .i64 p, .int .i64 h, .int .i64 n, .int .i64 d, .slice (some ⟨g, 0, none⟩) N N]) rfl (by kernel_rfl) (by kernel_rfl) (by kernel_rfl) (fun _ _ _ h => h) (Or.inl ⟨by kernel_rfl, by (intro w hSw; (try dsimp only at hSw); go_simp; try omega)⟩) hHeld ?_
            simp only [Act.put, List.setIfInBounds_toArray, List.set_cons_zero, List.set_cons_succ]
            refine wpAnyH_take (i := 1) (oi := { dst := some 32, op := Op.move (Operand.tmp 3), type := 3, pos := "row.go:106", after := #[], guard := none }) (v := .int .i64 j) rfl (by kernel_rfl) (by kernel_rfl) (by kernel_rfl) (fun _ _ _ h => h) (Or.inl ⟨by kernel_rfl, by (intro w hSw; (try dsimp only at hSw); go_simp; try omega)⟩) hHeld ?_
            simp only [Act.put, List.setIfInBounds_toArray, List.set_cons_zero, List.set_cons_succ]
            refine wpAnyH_take (i := 3) (oi := { dst := some 34, op := Op.move (Operand.tmp 3), type := 3, pos := "row.go:106", after := #[], guard := none }) (v := .int .i64 j) rfl (by kernel_rfl) (by kernel_rfl) (by kernel_rfl) (fun _ _ _ h => h) (Or.inl ⟨by kernel_rfl, by (intro w hSw; (try dsimp only at hSw); go_simp; try omega)⟩) hHeld ?_
            simp only [Act.put, List.setIfInBounds_toArray, List.set_cons_zero, List.set_cons_succ]
            refine wpAnyH_take (i := 4) (oi := { dst := some 35, op := Op.load 75 (Operand.tmp 1), type := 75, pos := "row.go:106", after := #[], guard := none }) (v := .agg #[.int .i64 p, .int .i64 h, .int .i64 n, .int .i64 d, .slice (some ⟨g, 0, none⟩) N N]) rfl (by kernel_rfl) (by kernel_rfl) (by kernel_rfl) (fun _ _ _ h => h) (Or.inl ⟨by kernel_rfl, by (intro w hSw; (try dsimp only at hSw); go_simp; try omega)⟩) hHeld ?_
            simp only [Act.put, List.setIfInBounds_toArray, List.set_cons_zero, List.set_cons_succ]
            refine wpAnyH_ready (rs := [2]) (by kernel_rfl) (by simp) ?_
            refine AllReadyH.cons (o := { dst := some 33, op := Op.call { callee := Callee.value (Operand.func 61), args := #[Operand.tmp 31, Operand.tmp 32], argTypes := #[75, 3] }, type := 22, pos := "row.go:106", after := #[{ on := 0, ground := Ground.data }, { on := 1, ground := Ground.data }], guard := none }) rfl (fun Kq hK => ?_) AllReadyH.nil
            go_simp
            refine (HP.out _ (hkr.trans (Keeps.refl _ wr).drew fun _ _ e => e) j hjd).mono ?_
            rintro e w1 ⟨rfl, hk1⟩
            refine hK.out _ _ (HS.out w1 hk1) (fun hHeld => ?_)
            simp only [Act.put, List.setIfInBounds_toArray, List.set_cons_zero, List.set_cons_succ]
            refine wpAnyH_ready (rs := [5]) (by kernel_rfl) (by simp) ?_
            refine AllReadyH.cons (o := { dst := some 36, op := Op.call { callee := Callee.value (Operand.func 47), args := #[Operand.tmp 35], argTypes := #[75] }, type := 3, pos := "row.go:106", after := #[{ on := 4, ground := Ground.data }, { on := 2, ground := Ground.chain }], guard := none }) rfl (fun Kq hK => ?_) AllReadyH.nil
            go_simp
            refine (HZ.out w1 hk1).mono ?_
            rintro e w2 ⟨rfl, hk2⟩
            refine hK.out _ _ (HS.out w2 hk2) (fun hHeld => ?_)
            simp only [Act.put, List.setIfInBounds_toArray, List.set_cons_zero, List.set_cons_succ]
            refine wpAnyH_take (i := 6) (oi := { dst := some 37, op := Op.binOp BinOp.lss 3 (Operand.tmp 34) (Operand.tmp 36) 3, type := 4, pos := "row.go:106", after := #[{ on := 3, ground := Ground.data }, { on := 5, ground := Ground.data }], guard := none }) (v := .bool true) rfl (by kernel_rfl) (by kernel_rfl) (by kernel_rfl) (fun _ _ _ h => h) (Or.inl ⟨by kernel_rfl, by (intro w hSw; (try dsimp only at hSw); go_simp; try omega)⟩) hHeld ?_
            simp only [Act.put, List.setIfInBounds_toArray, List.set_cons_zero, List.set_cons_succ]
            refine wpAnyH_ready (rs := [7]) (by kernel_rfl) (by simp) ?_
            refine AllReadyH.cons (o := { dst := some 38, op := Op.call { callee := Callee.value (Operand.func 70), args := #[Operand.tmp 33, Operand.tmp 37], argTypes := #[22, 4] }, type := 4, pos := "row.go:106", after := #[{ on := 2, ground := Ground.data }, { on := 6, ground := Ground.data }, { on := 5, ground := Ground.chain }], guard := none }) rfl (fun Kq hK => ?_) AllReadyH.nil
            go_simp
            refine (HR.out w2 hk2).mono ?_
            rintro e w3 ⟨rfl, hw⟩
            obtain rfl := hw.symm
            clear hw
            refine hK.out _ _ (HS.out w2 hk2) (fun hHeld => ?_)
            simp only [Act.put, List.setIfInBounds_toArray, List.set_cons_zero, List.set_cons_succ]
            refine wpAnyH_take (i := 8) (oi := { dst := some 39, op := Op.unOp UnOp.not 4 (Operand.tmp 38), type := 4, pos := "row.go:106", after := #[{ on := 7, ground := Ground.data }], guard := none }) (v := .bool false) rfl (by kernel_rfl) (by kernel_rfl) (by kernel_rfl) (fun _ _ _ h => h) (Or.inl ⟨by kernel_rfl, by (intro w hSw; (try dsimp only at hSw); go_simp; try omega)⟩) hHeld ?_
            simp only [Act.put, List.setIfInBounds_toArray, List.set_cons_zero, List.set_cons_succ]
            refine wpAnyH_done (by kernel_rfl) ?_ _
            clear hHeld
            go_wp2
            go_roundw
            case rel => exact ⟨j + 1, by omega, by go_num, all_step HA.out HX.out, hk2⟩
            case measure => simp [intOf]; omega
          · have hrb : rpB (plc h n d l j) true = false := by simpa using hrb
            have HX : Hid (rpB (plc h n d l j) (decide (j < C)) = false) := by rw [hd2]; exact hrb
            have HR : Hid (∀ W1, Keeps (fun _ => False) W W1 → Calls Try.prog 70 #[.slice (some ⟨g, plA h n d l j, none⟩) (1 + n) (N - plA h n d l j), .bool true] W1 fun e w' => e = .returned (.bool false) ∧ w' = W1) := fun W1 k => by
              have hx := HRP.out W1 k j hjd true
              rw [hrb] at hx
              exact hx
            go_wp2
            refine wp_region_held_drew (S := (fun w' => w'.cell? ⟨O, 0, none⟩ = some (.int .i64 p) ∧ w'.cell? ⟨O, 1, none⟩ = some (.int .i64 h) ∧ w'.cell? ⟨O, 2, none⟩ = some (.int .i64 n) ∧ w'.cell? ⟨O, 3, none⟩ = some (.int .i64 d) ∧ w'.cell? ⟨O, 4, none⟩ = some (.slice (some ⟨g, 0, none⟩) N N))) Try.mixd hSr (fun hHeld => ?_)
            simp only [List.size_toArray, List.length_cons, List.length_nil, Nat.reduceAdd, Array.replicate_succ, Array.replicate_zero, List.push_toArray, List.append_toArray, List.nil_append, List.cons_append]
            refine wpAnyH_take (i := 0) (oi := { dst := some 31, op := Op.load 75 (Operand.tmp 1), type := 75, pos := "row.go:106", after := #[], guard := none }) (v := .agg #[.int .i64 p, .int .i64 h, .int .i64 n, .int .i64 d, .slice (some ⟨g, 0, none⟩) N N]) rfl (by kernel_rfl) (by kernel_rfl) (by kernel_rfl) (fun _ _ _ h => h) (Or.inl ⟨by kernel_rfl, by (intro w hSw; (try dsimp only at hSw); go_simp; try omega)⟩) hHeld ?_
            simp only [Act.put, List.setIfInBounds_toArray, List.set_cons_zero, List.set_cons_succ]
            refine wpAnyH_take (i := 1) (oi := { dst := some 32, op := Op.move (Operand.tmp 3), type := 3, pos := "row.go:106", after := #[], guard := none }) (v := .int .i64 j) rfl (by kernel_rfl) (by kernel_rfl) (by kernel_rfl) (fun _ _ _ h => h) (Or.inl ⟨by kernel_rfl, by (intro w hSw; (try dsimp only at hSw); go_simp; try omega)⟩) hHeld ?_
            simp only [Act.put, List.setIfInBounds_toArray, List.set_cons_zero, List.set_cons_succ]
            refine wpAnyH_take (i := 3) (oi := { dst := some 34, op := Op.move (Operand.tmp 3), type := 3, pos := "row.go:106", after := #[], guard := none }) (v := .int .i64 j) rfl (by kernel_rfl) (by kernel_rfl) (by kernel_rfl) (fun _ _ _ h => h) (Or.inl ⟨by kernel_rfl, by (intro w hSw; (try dsimp only at hSw); go_simp; try omega)⟩) hHeld ?_
            simp only [Act.put, List.setIfInBounds_toArray, List.set_cons_zero, List.set_cons_succ]
            refine wpAnyH_take (i := 4) (oi := { dst := some 35, op := Op.load 75 (Operand.tmp 1), type := 75, pos := "row.go:106", after := #[], guard := none }) (v := .agg #[.int .i64 p, .int .i64 h, .int .i64 n, .int .i64 d, .slice (some ⟨g, 0, none⟩) N N]) rfl (by kernel_rfl) (by kernel_rfl) (by kernel_rfl) (fun _ _ _ h => h) (Or.inl ⟨by kernel_rfl, by (intro w hSw; (try dsimp only at hSw); go_simp; try omega)⟩) hHeld ?_
            simp only [Act.put, List.setIfInBounds_toArray, List.set_cons_zero, List.set_cons_succ]
            refine wpAnyH_ready (rs := [2]) (by kernel_rfl) (by simp) ?_
            refine AllReadyH.cons (o := { dst := some 33, op := Op.call { callee := Callee.value (Operand.func 61), args := #[Operand.tmp 31, Operand.tmp 32], argTypes := #[75, 3] }, type := 22, pos := "row.go:106", after := #[{ on := 0, ground := Ground.data }, { on := 1, ground := Ground.data }], guard := none }) rfl (fun Kq hK => ?_) AllReadyH.nil
            go_simp
            refine (HP.out _ (hkr.trans (Keeps.refl _ wr).drew fun _ _ e => e) j hjd).mono ?_
            rintro e w1 ⟨rfl, hk1⟩
            refine hK.out _ _ (HS.out w1 hk1) (fun hHeld => ?_)
            simp only [Act.put, List.setIfInBounds_toArray, List.set_cons_zero, List.set_cons_succ]
            refine wpAnyH_ready (rs := [5]) (by kernel_rfl) (by simp) ?_
            refine AllReadyH.cons (o := { dst := some 36, op := Op.call { callee := Callee.value (Operand.func 47), args := #[Operand.tmp 35], argTypes := #[75] }, type := 3, pos := "row.go:106", after := #[{ on := 4, ground := Ground.data }, { on := 2, ground := Ground.chain }], guard := none }) rfl (fun Kq hK => ?_) AllReadyH.nil
            go_simp
            refine (HZ.out w1 hk1).mono ?_
            rintro e w2 ⟨rfl, hk2⟩
            refine hK.out _ _ (HS.out w2 hk2) (fun hHeld => ?_)
            simp only [Act.put, List.setIfInBounds_toArray, List.set_cons_zero, List.set_cons_succ]
            refine wpAnyH_take (i := 6) (oi := { dst := some 37, op := Op.binOp BinOp.lss 3 (Operand.tmp 34) (Operand.tmp 36) 3, type := 4, pos := "row.go:106", after := #[{ on := 3, ground := Ground.data }, { on := 5, ground := Ground.data }], guard := none }) (v := .bool true) rfl (by kernel_rfl) (by kernel_rfl) (by kernel_rfl) (fun _ _ _ h => h) (Or.inl ⟨by kernel_rfl, by (intro w hSw; (try dsimp only at hSw); go_simp; try omega)⟩) hHeld ?_
            simp only [Act.put, List.setIfInBounds_toArray, List.set_cons_zero, List.set_cons_succ]
            refine wpAnyH_ready (rs := [7]) (by kernel_rfl) (by simp) ?_
            refine AllReadyH.cons (o := { dst := some 38, op := Op.call { callee := Callee.value (Operand.func 70), args := #[Operand.tmp 33, Operand.tmp 37], argTypes := #[22, 4] }, type := 4, pos := "row.go:106", after := #[{ on := 2, ground := Ground.data }, { on := 6, ground := Ground.data }, { on := 5, ground := Ground.chain }], guard := none }) rfl (fun Kq hK => ?_) AllReadyH.nil
            go_simp
            refine (HR.out w2 hk2).mono ?_
            rintro e w3 ⟨rfl, hw⟩
            obtain rfl := hw.symm
            clear hw
            refine hK.out _ _ (HS.out w2 hk2) (fun hHeld => ?_)
            simp only [Act.put, List.setIfInBounds_toArray, List.set_cons_zero, List.set_cons_succ]
            refine wpAnyH_take (i := 8) (oi := { dst := some 39, op := Op.unOp UnOp.not 4 (Operand.tmp 38), type := 4, pos := "row.go:106", after := #[{ on := 7, ground := Ground.data }], guard := none }) (v := .bool true) rfl (by kernel_rfl) (by kernel_rfl) (by kernel_rfl) (fun _ _ _ h => h) (Or.inl ⟨by kernel_rfl, by (intro w hSw; (try dsimp only at hSw); go_simp; try omega)⟩) hHeld ?_
            simp only [Act.put, List.setIfInBounds_toArray, List.set_cons_zero, List.set_cons_succ]
            refine wpAnyH_done (by kernel_rfl) ?_ _
            clear hHeld
            go_wp2
            go_ret
            exact ⟨ret_bool (HF2.out j hjd HX.out).symm, HW.out.2.1.trans hk2 fun _ _ e => e⟩
        · have hd2 : decide (j < C) = false := decide_eq_false hjc
          by_cases hrb : rpB (plc h n d l j) false = true
          · have HX : Hid (rpB (plc h n d l j) (decide (j < C)) = true) := by rw [hd2]; exact hrb
            have HR : Hid (∀ W1, Keeps (fun _ => False) W W1 → Calls Try.prog 70 #[.slice (some ⟨g, plA h n d l j, none⟩) (1 + n) (N - plA h n d l j), .bool false] W1 fun e w' => e = .returned (.bool true) ∧ w' = W1) := fun W1 k => by
              have hx := HRP.out W1 k j hjd false
              rw [hrb] at hx
              exact hx
            go_wp2
            refine wp_region_held_drew (S := (fun w' => w'.cell? ⟨O, 0, none⟩ = some (.int .i64 p) ∧ w'.cell? ⟨O, 1, none⟩ = some (.int .i64 h) ∧ w'.cell? ⟨O, 2, none⟩ = some (.int .i64 n) ∧ w'.cell? ⟨O, 3, none⟩ = some (.int .i64 d) ∧ w'.cell? ⟨O, 4, none⟩ = some (.slice (some ⟨g, 0, none⟩) N N))) Try.mixd hSr (fun hHeld => ?_)
            simp only [List.size_toArray, List.length_cons, List.length_nil, Nat.reduceAdd, Array.replicate_succ, Array.replicate_zero, List.push_toArray, List.append_toArray, List.nil_append, List.cons_append]
            refine wpAnyH_take (i := 0) (oi := { dst := some 31, op := Op.load 75 (Operand.tmp 1), type := 75, pos := "row.go:106", after := #[], guard := none }) (v := .agg #[.int .i64 p, .int .i64 h, .int .i64 n, .int .i64 d, .slice (some ⟨g, 0, none⟩) N N]) rfl (by kernel_rfl) (by kernel_rfl) (by kernel_rfl) (fun _ _ _ h => h) (Or.inl ⟨by kernel_rfl, by (intro w hSw; (try dsimp only at hSw); go_simp; try omega)⟩) hHeld ?_
            simp only [Act.put, List.setIfInBounds_toArray, List.set_cons_zero, List.set_cons_succ]
            refine wpAnyH_take (i := 1) (oi := { dst := some 32, op := Op.move (Operand.tmp 3), type := 3, pos := "row.go:106", after := #[], guard := none }) (v := .int .i64 j) rfl (by kernel_rfl) (by kernel_rfl) (by kernel_rfl) (fun _ _ _ h => h) (Or.inl ⟨by kernel_rfl, by (intro w hSw; (try dsimp only at hSw); go_simp; try omega)⟩) hHeld ?_
            simp only [Act.put, List.setIfInBounds_toArray, List.set_cons_zero, List.set_cons_succ]
            refine wpAnyH_take (i := 3) (oi := { dst := some 34, op := Op.move (Operand.tmp 3), type := 3, pos := "row.go:106", after := #[], guard := none }) (v := .int .i64 j) rfl (by kernel_rfl) (by kernel_rfl) (by kernel_rfl) (fun _ _ _ h => h) (Or.inl ⟨by kernel_rfl, by (intro w hSw; (try dsimp only at hSw); go_simp; try omega)⟩) hHeld ?_
            simp only [Act.put, List.setIfInBounds_toArray, List.set_cons_zero, List.set_cons_succ]
            refine wpAnyH_take (i := 4) (oi := { dst := some 35, op := Op.load 75 (Operand.tmp 1), type := 75, pos := "row.go:106", after := #[], guard := none }) (v := .agg #[.int .i64 p, .int .i64 h, .int .i64 n, .int .i64 d, .slice (some ⟨g, 0, none⟩) N N]) rfl (by kernel_rfl) (by kernel_rfl) (by kernel_rfl) (fun _ _ _ h => h) (Or.inl ⟨by kernel_rfl, by (intro w hSw; (try dsimp only at hSw); go_simp; try omega)⟩) hHeld ?_
            simp only [Act.put, List.setIfInBounds_toArray, List.set_cons_zero, List.set_cons_succ]
            refine wpAnyH_ready (rs := [2]) (by kernel_rfl) (by simp) ?_
            refine AllReadyH.cons (o := { dst := some 33, op := Op.call { callee := Callee.value (Operand.func 61), args := #[Operand.tmp 31, Operand.tmp 32], argTypes := #[75, 3] }, type := 22, pos := "row.go:106", after := #[{ on := 0, ground := Ground.data }, { on := 1, ground := Ground.data }], guard := none }) rfl (fun Kq hK => ?_) AllReadyH.nil
            go_simp
            refine (HP.out _ (hkr.trans (Keeps.refl _ wr).drew fun _ _ e => e) j hjd).mono ?_
            rintro e w1 ⟨rfl, hk1⟩
            refine hK.out _ _ (HS.out w1 hk1) (fun hHeld => ?_)
            simp only [Act.put, List.setIfInBounds_toArray, List.set_cons_zero, List.set_cons_succ]
            refine wpAnyH_ready (rs := [5]) (by kernel_rfl) (by simp) ?_
            refine AllReadyH.cons (o := { dst := some 36, op := Op.call { callee := Callee.value (Operand.func 47), args := #[Operand.tmp 35], argTypes := #[75] }, type := 3, pos := "row.go:106", after := #[{ on := 4, ground := Ground.data }, { on := 2, ground := Ground.chain }], guard := none }) rfl (fun Kq hK => ?_) AllReadyH.nil
            go_simp
            refine (HZ.out w1 hk1).mono ?_
            rintro e w2 ⟨rfl, hk2⟩
            refine hK.out _ _ (HS.out w2 hk2) (fun hHeld => ?_)
            simp only [Act.put, List.setIfInBounds_toArray, List.set_cons_zero, List.set_cons_succ]
            refine wpAnyH_take (i := 6) (oi := { dst := some 37, op := Op.binOp BinOp.lss 3 (Operand.tmp 34) (Operand.tmp 36) 3, type := 4, pos := "row.go:106", after := #[{ on := 3, ground := Ground.data }, { on := 5, ground := Ground.data }], guard := none }) (v := .bool false) rfl (by kernel_rfl) (by kernel_rfl) (by kernel_rfl) (fun _ _ _ h => h) (Or.inl ⟨by kernel_rfl, by (intro w hSw; (try dsimp only at hSw); go_simp; try omega)⟩) hHeld ?_
            simp only [Act.put, List.setIfInBounds_toArray, List.set_cons_zero, List.set_cons_succ]
            refine wpAnyH_ready (rs := [7]) (by kernel_rfl) (by simp) ?_
            refine AllReadyH.cons (o := { dst := some 38, op := Op.call { callee := Callee.value (Operand.func 70), args := #[Operand.tmp 33, Operand.tmp 37], argTypes := #[22, 4] }, type := 4, pos := "row.go:106", after := #[{ on := 2, ground := Ground.data }, { on := 6, ground := Ground.data }, { on := 5, ground := Ground.chain }], guard := none }) rfl (fun Kq hK => ?_) AllReadyH.nil
            go_simp
            refine (HR.out w2 hk2).mono ?_
            rintro e w3 ⟨rfl, hw⟩
            obtain rfl := hw.symm
            clear hw
            refine hK.out _ _ (HS.out w2 hk2) (fun hHeld => ?_)
            simp only [Act.put, List.setIfInBounds_toArray, List.set_cons_zero, List.set_cons_succ]
            refine wpAnyH_take (i := 8) (oi := { dst := some 39, op := Op.unOp UnOp.not 4 (Operand.tmp 38), type := 4, pos := "row.go:106", after := #[{ on := 7, ground := Ground.data }], guard := none }) (v := .bool false) rfl (by kernel_rfl) (by kernel_rfl) (by kernel_rfl) (fun _ _ _ h => h) (Or.inl ⟨by kernel_rfl, by (intro w hSw; (try dsimp only at hSw); go_simp; try omega)⟩) hHeld ?_
            simp only [Act.put, List.setIfInBounds_toArray, List.set_cons_zero, List.set_cons_succ]
            refine wpAnyH_done (by kernel_rfl) ?_ _
            clear hHeld
            go_wp2
            go_roundw
            case rel => exact ⟨j + 1, by omega, by go_num, all_step HA.out HX.out, hk2⟩
            case measure => simp [intOf]; omega
          · have hrb : rpB (plc h n d l j) false = false := by simpa using hrb
            have HX : Hid (rpB (plc h n d l j) (decide (j < C)) = false) := by rw [hd2]; exact hrb
            have HR : Hid (∀ W1, Keeps (fun _ => False) W W1 → Calls Try.prog 70 #[.slice (some ⟨g, plA h n d l j, none⟩) (1 + n) (N - plA h n d l j), .bool false] W1 fun e w' => e = .returned (.bool false) ∧ w' = W1) := fun W1 k => by
              have hx := HRP.out W1 k j hjd false
              rw [hrb] at hx
              exact hx
            go_wp2
            refine wp_region_held_drew (S := (fun w' => w'.cell? ⟨O, 0, none⟩ = some (.int .i64 p) ∧ w'.cell? ⟨O, 1, none⟩ = some (.int .i64 h) ∧ w'.cell? ⟨O, 2, none⟩ = some (.int .i64 n) ∧ w'.cell? ⟨O, 3, none⟩ = some (.int .i64 d) ∧ w'.cell? ⟨O, 4, none⟩ = some (.slice (some ⟨g, 0, none⟩) N N))) Try.mixd hSr (fun hHeld => ?_)
            simp only [List.size_toArray, List.length_cons, List.length_nil, Nat.reduceAdd, Array.replicate_succ, Array.replicate_zero, List.push_toArray, List.append_toArray, List.nil_append, List.cons_append]
            refine wpAnyH_take (i := 0) (oi := { dst := some 31, op := Op.load 75 (Operand.tmp 1), type := 75, pos := "row.go:106", after := #[], guard := none }) (v := .agg #[.int .i64 p, .int .i64 h, .int .i64 n, .int .i64 d, .slice (some ⟨g, 0, none⟩) N N]) rfl (by kernel_rfl) (by kernel_rfl) (by kernel_rfl) (fun _ _ _ h => h) (Or.inl ⟨by kernel_rfl, by (intro w hSw; (try dsimp only at hSw); go_simp; try omega)⟩) hHeld ?_
            simp only [Act.put, List.setIfInBounds_toArray, List.set_cons_zero, List.set_cons_succ]
            refine wpAnyH_take (i := 1) (oi := { dst := some 32, op := Op.move (Operand.tmp 3), type := 3, pos := "row.go:106", after := #[], guard := none }) (v := .int .i64 j) rfl (by kernel_rfl) (by kernel_rfl) (by kernel_rfl) (fun _ _ _ h => h) (Or.inl ⟨by kernel_rfl, by (intro w hSw; (try dsimp only at hSw); go_simp; try omega)⟩) hHeld ?_
            simp only [Act.put, List.setIfInBounds_toArray, List.set_cons_zero, List.set_cons_succ]
            refine wpAnyH_take (i := 3) (oi := { dst := some 34, op := Op.move (Operand.tmp 3), type := 3, pos := "row.go:106", after := #[], guard := none }) (v := .int .i64 j) rfl (by kernel_rfl) (by kernel_rfl) (by kernel_rfl) (fun _ _ _ h => h) (Or.inl ⟨by kernel_rfl, by (intro w hSw; (try dsimp only at hSw); go_simp; try omega)⟩) hHeld ?_
            simp only [Act.put, List.setIfInBounds_toArray, List.set_cons_zero, List.set_cons_succ]
            refine wpAnyH_take (i := 4) (oi := { dst := some 35, op := Op.load 75 (Operand.tmp 1), type := 75, pos := "row.go:106", after := #[], guard := none }) (v := .agg #[.int .i64 p, .int .i64 h, .int .i64 n, .int .i64 d, .slice (some ⟨g, 0, none⟩) N N]) rfl (by kernel_rfl) (by kernel_rfl) (by kernel_rfl) (fun _ _ _ h => h) (Or.inl ⟨by kernel_rfl, by (intro w hSw; (try dsimp only at hSw); go_simp; try omega)⟩) hHeld ?_
            simp only [Act.put, List.setIfInBounds_toArray, List.set_cons_zero, List.set_cons_succ]
            refine wpAnyH_ready (rs := [2]) (by kernel_rfl) (by simp) ?_
            refine AllReadyH.cons (o := { dst := some 33, op := Op.call { callee := Callee.value (Operand.func 61), args := #[Operand.tmp 31, Operand.tmp 32], argTypes := #[75, 3] }, type := 22, pos := "row.go:106", after := #[{ on := 0, ground := Ground.data }, { on := 1, ground := Ground.data }], guard := none }) rfl (fun Kq hK => ?_) AllReadyH.nil
            go_simp
            refine (HP.out _ (hkr.trans (Keeps.refl _ wr).drew fun _ _ e => e) j hjd).mono ?_
            rintro e w1 ⟨rfl, hk1⟩
            refine hK.out _ _ (HS.out w1 hk1) (fun hHeld => ?_)
            simp only [Act.put, List.setIfInBounds_toArray, List.set_cons_zero, List.set_cons_succ]
            refine wpAnyH_ready (rs := [5]) (by kernel_rfl) (by simp) ?_
            refine AllReadyH.cons (o := { dst := some 36, op := Op.call { callee := Callee.value (Operand.func 47), args := #[Operand.tmp 35], argTypes := #[75] }, type := 3, pos := "row.go:106", after := #[{ on := 4, ground := Ground.data }, { on := 2, ground := Ground.chain }], guard := none }) rfl (fun Kq hK => ?_) AllReadyH.nil
            go_simp
            refine (HZ.out w1 hk1).mono ?_
            rintro e w2 ⟨rfl, hk2⟩
            refine hK.out _ _ (HS.out w2 hk2) (fun hHeld => ?_)
            simp only [Act.put, List.setIfInBounds_toArray, List.set_cons_zero, List.set_cons_succ]
            refine wpAnyH_take (i := 6) (oi := { dst := some 37, op := Op.binOp BinOp.lss 3 (Operand.tmp 34) (Operand.tmp 36) 3, type := 4, pos := "row.go:106", after := #[{ on := 3, ground := Ground.data }, { on := 5, ground := Ground.data }], guard := none }) (v := .bool false) rfl (by kernel_rfl) (by kernel_rfl) (by kernel_rfl) (fun _ _ _ h => h) (Or.inl ⟨by kernel_rfl, by (intro w hSw; (try dsimp only at hSw); go_simp; try omega)⟩) hHeld ?_
            simp only [Act.put, List.setIfInBounds_toArray, List.set_cons_zero, List.set_cons_succ]
            refine wpAnyH_ready (rs := [7]) (by kernel_rfl) (by simp) ?_
            refine AllReadyH.cons (o := { dst := some 38, op := Op.call { callee := Callee.value (Operand.func 70), args := #[Operand.tmp 33, Operand.tmp 37], argTypes := #[22, 4] }, type := 4, pos := "row.go:106", after := #[{ on := 2, ground := Ground.data }, { on := 6, ground := Ground.data }, { on := 5, ground := Ground.chain }], guard := none }) rfl (fun Kq hK => ?_) AllReadyH.nil
            go_simp
            refine (HR.out w2 hk2).mono ?_
            rintro e w3 ⟨rfl, hw⟩
            obtain rfl := hw.symm
            clear hw
            refine hK.out _ _ (HS.out w2 hk2) (fun hHeld => ?_)
            simp only [Act.put, List.setIfInBounds_toArray, List.set_cons_zero, List.set_cons_succ]
            refine wpAnyH_take (i := 8) (oi := { dst := some 39, op := Op.unOp UnOp.not 4 (Operand.tmp 38), type := 4, pos := "row.go:106", after := #[{ on := 7, ground := Ground.data }], guard := none }) (v := .bool true) rfl (by kernel_rfl) (by kernel_rfl) (by kernel_rfl) (fun _ _ _ h => h) (Or.inl ⟨by kernel_rfl, by (intro w hSw; (try dsimp only at hSw); go_simp; try omega)⟩) hHeld ?_
            simp only [Act.put, List.setIfInBounds_toArray, List.set_cons_zero, List.set_cons_succ]
            refine wpAnyH_done (by kernel_rfl) ?_ _
            clear hHeld
            go_wp2
            go_ret
            exact ⟨ret_bool (HF2.out j hjd HX.out).symm, HW.out.2.1.trans hk2 fun _ _ e => e⟩
      · obtain rfl : j = d := by omega
        go_wp2
        go_ret
        exact ⟨ret_bool (HT2.out HA.out).symm, HW.out.2.1.trans hkr fun _ _ e => e⟩

theorem right_any (r : Rb w g h n d l) (hN : N = l.length) :
    Calls Try.prog 60 #[rwv p h n d g N] w fun e w' => e = .returned (.bool (rightB h n d l)) ∧ Keeps (fun _ => False) w w' := by
  unfold rightB
  by_cases h1 : fstW h l < d
  · rw [decide_eq_true h1]
    by_cases h2 : cntW h l ≤ d
    · rw [decide_eq_true h2]
      by_cases h3 : cntW h l = 0 → fstW h l = 0
      · have e : (!(decide (cntW h l = 0) && !decide (fstW h l = 0))) = true := by
          by_cases h4 : cntW h l = 0
          · simp [h4, h3 h4]
          · simp [h4]
        rw [e, Bool.true_and, Bool.true_and, Bool.true_and]
        exact right_loop p g h n d N l w r hN h1 h2 h3
      · have h4 : cntW h l = 0 := Classical.byContradiction fun h5 => h3 fun h6 => absurd h6 h5
        have h5 : ¬ fstW h l = 0 := fun h6 => h3 fun _ => h6
        have e : (!(decide (cntW h l = 0) && !decide (fstW h l = 0))) = false := by simp [h4, h5]
        rw [e, Bool.false_and, Bool.and_false, Bool.and_false]
        exact right_odd p g h n d N l w r hN h1 h4 h5
    · rw [decide_eq_false h2, Bool.false_and, Bool.and_false]
      exact right_cnt p g h n d N l w r hN h1 h2
  · rw [decide_eq_false h1, Bool.false_and]
    exact right_fst p g h n d N l w r hN h1
end

end Go.Proofs.Ytekijhhpldnmnaa
