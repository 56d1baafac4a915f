import Derived.Test.YtnkfdmlpjgmckaaT
namespace Go.Proofs.Ytnkfdmlpjgmckaa
open Go.RowKit
set_option linter.unusedVariables false
set_option maxRecDepth 6000

theorem rpartition_any (x : Cfg) (p : Int) (w : World) :
    Calls Try.prog 36 #[x.v, .int .i64 p] w fun e w' => e = .returned (.bool (decide (0 ≤ p) && decide (p < x.ps.length))) ∧ Keeps (fun _ => False) w w' := by
  go_enter Try.func36, Try.ntmps36
  by_cases h1 : 0 ≤ p
  · have e1 : decide (0 ≤ p) = true := by simp [h1]
    go_wp2
    go_ret
    refine ⟨?_, (Keeps.refl _ _).alloc _⟩
    simp [h1]
  · have e1 : decide (0 ≤ p) = false := by simp [h1]
    go_wp2
    go_ret
    refine ⟨?_, (Keeps.refl _ _).alloc _⟩
    simp

set_option maxHeartbeats 1000000 in
theorem rall_any (x : Cfg) (w : World) (N : Nat) (hi : x.In w N) (hN : N ≤ w.heap.size) :
    Calls Try.prog 37 #[x.v] w fun e w' => e = .returned (.bool (allMay x.cs)) ∧ Keeps (fun _ => False) w w' := by
  obtain ⟨W, hW⟩ : ∃ W, W = x.laid w := ⟨_, rfl⟩
  obtain ⟨C, hC⟩ : ∃ C, C = w.heap.size := ⟨_, rfl⟩
  have HO : Hid (One w x C N W) := by rw [hW, hC]; exact One.mk' hi hN
  have hcc : (x.cs.length : Int) ≤ x.cc ∧ (x.cc : Int) ≤ 9223372036854775807 := by have := hi.clen; unfold maxLen at this; omega
  clear hi hN
  unfold Cfg.laid at hW
  go_enter Try.func37, Try.ntmps37
  go_upto_region 1 with fail
  rw [← hW, ← hC]
  clear hW hC
  go_wp2
  go_loopw [3] (fun i wr => ∃ j : Nat, j ≤ x.cs.length ∧ i = .int .i64 j ∧ allMay (x.cs.take j) = true ∧ One w x C N wr) (fun i _ => x.cs.length - (intOf i).toNat)
  case atStart => exact ⟨0, by omega, rfl, rfl, HO.out⟩
  case round =>
    obtain ⟨j, hj, rfl, hall, hO⟩ := hrel
    clear HO
    have c4 := hO.cells.2.2.2.2.1
    by_cases hlt : j < x.cs.length
    · obtain ⟨X, hX⟩ : ∃ X, x.cs[j]? = some X := ⟨_, List.getElem?_eq_getElem hlt⟩
      obtain ⟨g, o, ha, hc⟩ := hO.cin.core hX
      have HX := hO.cin.cin X (List.mem_of_getElem? hX)
      have HC : Hid (Calls Try.prog 33 #[X.v] wr fun e w' => e = .returned (.bool (may X.ws)) ∧ w' = wr) := rmay_any X.a X.c X.ws wr HX.seg HX.len
      have HK : Hid (One w x C N wr ∧ x.cs[j]? = some X ∧ allMay (x.cs.take j) = true) := ⟨hO, hX, hall⟩
      have hlt' : (j : Int) < x.cs.length := by omega
      clear hO hX hall HX
      rw [ha] at c4
      go_wp2_with fail
      refine HC.out.mono ?_
      rintro e w1 ⟨rfl, hw⟩
      obtain rfl := hw
      clear hc c4
      obtain ⟨b, hb⟩ : ∃ b, may X.ws = b := ⟨_, rfl⟩
      rw [hb]
      have HB : Hid (may X.ws = b) := hb
      clear hb HC
      cases b with
      | false =>
        go_wp2
        go_ret
        rw [allMay_false HK.out.2.1 HB.out]
        exact ⟨rfl, HK.out.1.keeps⟩
      | true =>
        go_wp2
        go_roundw
        case rel => exact ⟨j + 1, by omega, by go_num, allMay_take HK.out.2.1 HK.out.2.2 HB.out, HK.out.1⟩
        case measure => simp [intOf]; omega
    · obtain hjl : j = x.cs.length := by omega
      have hlt' : ¬ (j : Int) < x.cs.length := by omega
      have HK : Hid (One w x C N wr ∧ allMay (x.cs.take j) = true ∧ j = x.cs.length) := ⟨hO, hall, hjl⟩
      clear hO hall hjl
      go_wp2
      go_ret
      have := HK.out.2.1
      rw [List.take_of_length_le (by rw [HK.out.2.2]; exact Nat.le_refl _)] at this
      rw [this]
      exact ⟨rfl, HK.out.1.keeps⟩
end Go.Proofs.Ytnkfdmlpjgmckaa
namespace Go.Proofs.Ytnkfdmlpjgmckaa
open Go.RowKit
set_option linter.unusedVariables false
set_option linter.unusedSimpArgs false
set_option maxRecDepth 6000

set_option maxHeartbeats 2000000 in
theorem rfills_any (x : Cfg) (w : World) (N : Nat) (hi : x.In w N) (hN : N ≤ w.heap.size) :
    Calls Try.prog 54 #[x.v] w fun e w' => e = .returned (.bool (fills x.major x.cs)) ∧ Keeps (fun _ => False) w w' := by
  obtain ⟨W, hW⟩ : ∃ W, W = x.laid w := ⟨_, rfl⟩
  obtain ⟨C, hC⟩ : ∃ C, C = w.heap.size := ⟨_, rfl⟩
  have HO : Hid (One w x C N W) := by rw [hW, hC]; exact One.mk' hi hN
  have hcc : (x.cs.length : Int) ≤ x.cc ∧ (x.cc : Int) ≤ 9223372036854775807 := by have := hi.clen; unfold maxLen at this; omega
  clear hi hN
  unfold Cfg.laid at hW
  go_enter Try.func54, Try.ntmps54
  go_wp2_with fail
  rw [← hW, ← hC]
  clear hW hC
  refine (rall_any x W N HO.out.cin HO.out.nn).mono ?_
  rintro e w1 ⟨rfl, hK⟩
  have HO1 : Hid (One w x C N w1) := HO.out.kept hK
  clear hK HO
  have c1 := HO1.out.cells.2.1
  obtain ⟨b, hb⟩ : ∃ b, allMay x.cs = b := ⟨_, rfl⟩
  rw [hb]
  have HB : Hid (allMay x.cs = b) := hb
  clear hb
  cases b with
  | false =>
    have e0 : fills x.major x.cs = false := by
      cases h : fills x.major x.cs with
      | false => rfl
      | true => have := fills_may h; rw [HB.out] at this; cases this
    have E0 : Hid (fills x.major x.cs = false) := e0
    clear e0
    go_wp2
    go_ret
    rw [E0.out]
    exact ⟨rfl, HO1.out.keeps⟩
  | true =>
    by_cases h1 : x.major < 1
    · have h1' : decide (x.major < 1) = true := by simp [h1]
      have E0 : Hid (fills x.major x.cs = false) := by unfold Hid fills; rw [decide_eq_false (by omega : ¬ 1 ≤ x.major)]; rfl
      go_wp2
      go_ret
      rw [E0.out]
      exact ⟨rfl, HO1.out.keeps⟩
    have h1' : decide (x.major < 1) = false := by simp [h1]
    by_cases h2 : 16384 < x.major
    · have h2' : decide (16384 < x.major) = true := by simp [h2]
      have E0 : Hid (fills x.major x.cs = false) := by unfold Hid fills; rw [decide_eq_false (by omega : ¬ x.major ≤ 16384)]; simp
      go_wp2
      go_ret
      rw [E0.out]
      exact ⟨rfl, HO1.out.keeps⟩
    have h2' : decide (16384 < x.major) = false := by simp [h2]
    go_wp2
    clear c1
    go_loopw [3] (fun i wr => ∃ j : Nat, j ≤ x.cs.length ∧ i = .int .i64 j ∧ fillsC x.major (x.cs.take j) = true ∧ One w x C N wr) (fun i _ => x.cs.length - (intOf i).toNat)
    case atStart => exact ⟨0, by omega, rfl, rfl, HO1.out⟩
    case round =>
      obtain ⟨j, hj, rfl, hall, hO⟩ := hrel
      clear HO1
      have c4 := hO.cells.2.2.2.2.1
      by_cases hlt : j < x.cs.length
      · obtain ⟨X, hX⟩ : ∃ X, x.cs[j]? = some X := ⟨_, List.getElem?_eq_getElem hlt⟩
        obtain ⟨g, o, ha, hc⟩ := hO.cin.core hX
        have hXi := hO.cin.cin X (List.mem_of_getElem? hX)
        have hm : may X.ws = true := by have h := HB.out; unfold allMay at h; rw [List.all_eq_true] at h; exact h X (List.mem_of_getElem? hX)
        have hlt' : (j : Int) < x.cs.length := by omega
        obtain ⟨XL, hXL⟩ : ∃ XL, X.ws.length = XL := ⟨_, rfl⟩
        have hv : Core.v X = .slice X.a XL X.c := by unfold Core.v; rw [hXL]
        have HK : Hid (One w x C N wr ∧ x.cs[j]? = some X ∧ fillsC x.major (x.cs.take j) = true ∧ may X.ws = true ∧ X.ws.length = XL) := ⟨hO, hX, hall, hm, hXL⟩
        obtain ⟨Z, hZ⟩ : ∃ Z, beg X.ws XL = Z := ⟨_, rfl⟩
        have HZ : Hid (beg X.ws XL = Z) := hZ
        have HC : Hid (∀ w', Keeps (fun _ => False) wr w' → Calls Try.prog 34 #[.slice X.a XL X.c, .int .i64 XL] w' fun e w'' => e = .returned (.int .i64 Z) ∧ Keeps (fun _ => False) w' w'' ∧ w''.heap.size = w'.heap.size) := by
          intro w' hK
          have hXi := (hO.kept hK).cin.cin X (List.mem_of_getElem? hX)
          have h := rbegin_any X.a X.c X.ws X.ws.length (Nat.le_refl _) w' hXi.seg hXi.len hm
          rw [hXL, hZ] at h
          exact h
        have HSS : Hid (∀ w', Keeps (fun _ => False) wr w' → w'.cell? ⟨C, 1, none⟩ = some (.int .i64 x.major) ∧ w'.cell? ⟨C, 4, none⟩ = some (.slice (some ⟨g, o, none⟩) x.cs.length x.cc) ∧ w'.cell? ⟨g, o + j, none⟩ = some (.slice X.a XL X.c)) := by
          intro w' hK
          have h1 := hO.kept hK
          have h4 := h1.cells.2.2.2.2.1
          rw [ha] at h4
          obtain ⟨g', o', ha', hc'⟩ := h1.cin.core hX
          rw [ha] at ha'
          cases ha'
          rw [hv] at hc'
          exact ⟨h1.cells.2.1, h4, hc'⟩
        rw [ha] at c4
        clear hO hX hall hXi hm hXL hZ hc
        go_upto_region 6 with fail
        have hS0 := HSS.out wr.drew ((Keeps.refl _ _).drew)
        clear c4
        refine wp_region_held_drew (S := (fun w' => w'.cell? ⟨C, 1, none⟩ = some (.int .i64 x.major) ∧ w'.cell? ⟨C, 4, none⟩ = some (.slice (some ⟨g, o, none⟩) x.cs.length x.cc) ∧ w'.cell? ⟨g, o + j, none⟩ = some (.slice X.a XL X.c))) Try.mixed hS0 (fun hHeld => ?_)
        simp only [List.size_toArray, List.length_cons, List.length_nil, Nat.reduceAdd, Array.replicate_succ, Array.replicate_zero, List.push_toArray, List.append_toArray, List.nil_append, List.cons_append]
        refine wpAnyH_take (i := 0) (oi := { dst := some 24, op := Op.fieldAddr 27 (Operand.tmp 1) 4, type := 0, pos := "ref.go:44", after := #[], guard := none }) (v := .pointer (some ⟨C, 4, none⟩)) rfl (by kernel_rfl) (by kernel_rfl) (by kernel_rfl) (fun _ _ _ h => h) (Or.inl ⟨by kernel_rfl, by (intro w hSw; (try dsimp only at hSw); go_simp)⟩) hHeld ?_
        simp only [Act.put, List.setIfInBounds_toArray, List.set_cons_zero, List.set_cons_succ]
        refine wpAnyH_take (i := 1) (oi := { dst := some 25, op := Op.load 23 (Operand.tmp 24), type := 23, pos := "ref.go:44", after := #[{ on := 0, ground := Ground.data }], guard := none }) (v := .slice (some ⟨g, o, none⟩) x.cs.length x.cc) rfl (by kernel_rfl) (by kernel_rfl) (by kernel_rfl) (fun _ _ _ h => h) (Or.inl ⟨by kernel_rfl, by (intro w hSw; (try dsimp only at hSw); go_simp)⟩) hHeld ?_
        simp only [Act.put, List.setIfInBounds_toArray, List.set_cons_zero, List.set_cons_succ]
        refine wpAnyH_take (i := 2) (oi := { dst := some 26, op := Op.move (Operand.tmp 3), type := 3, pos := "ref.go:44", after := #[], guard := none }) (v := .int .i64 j) rfl (by kernel_rfl) (by kernel_rfl) (by kernel_rfl) (fun _ _ _ h => h) (Or.inl ⟨by kernel_rfl, by (intro w hSw; (try dsimp only at hSw); go_simp)⟩) hHeld ?_
        simp only [Act.put, List.setIfInBounds_toArray, List.set_cons_zero, List.set_cons_succ]
        refine wpAnyH_take (i := 3) (oi := { dst := some 27, op := Op.indexAddr 23 (Operand.tmp 25) (Operand.tmp 26), type := 0, pos := "ref.go:44", after := #[{ on := 1, ground := Ground.data }, { on := 2, ground := Ground.data }], guard := none }) (v := .pointer (some ⟨g, o + j, none⟩)) rfl (by kernel_rfl) (by kernel_rfl) (by kernel_rfl) (fun _ _ _ h => h) (Or.inl ⟨by kernel_rfl, by (intro w hSw; (try dsimp only at hSw); go_simp)⟩) hHeld ?_
        simp only [Act.put, List.setIfInBounds_toArray, List.set_cons_zero, List.set_cons_succ]
        refine wpAnyH_take (i := 4) (oi := { dst := some 28, op := Op.load 38 (Operand.tmp 27), type := 38, pos := "ref.go:44", after := #[{ on := 3, ground := Ground.data }], guard := none }) (v := .slice X.a XL X.c) rfl (by kernel_rfl) (by kernel_rfl) (by kernel_rfl) (fun _ _ _ h => h) (Or.inl ⟨by kernel_rfl, by (intro w hSw; (try dsimp only at hSw); go_simp)⟩) hHeld ?_
        simp only [Act.put, List.setIfInBounds_toArray, List.set_cons_zero, List.set_cons_succ]
        refine wpAnyH_take (i := 5) (oi := { dst := some 29, op := Op.fieldAddr 27 (Operand.tmp 1) 4, type := 0, pos := "ref.go:44", after := #[], guard := none }) (v := .pointer (some ⟨C, 4, none⟩)) rfl (by kernel_rfl) (by kernel_rfl) (by kernel_rfl) (fun _ _ _ h => h) (Or.inl ⟨by kernel_rfl, by (intro w hSw; (try dsimp only at hSw); go_simp)⟩) hHeld ?_
        simp only [Act.put, List.setIfInBounds_toArray, List.set_cons_zero, List.set_cons_succ]
        refine wpAnyH_take (i := 6) (oi := { dst := some 30, op := Op.load 23 (Operand.tmp 29), type := 23, pos := "ref.go:44", after := #[{ on := 5, ground := Ground.data }], guard := none }) (v := .slice (some ⟨g, o, none⟩) x.cs.length x.cc) rfl (by kernel_rfl) (by kernel_rfl) (by kernel_rfl) (fun _ _ _ h => h) (Or.inl ⟨by kernel_rfl, by (intro w hSw; (try dsimp only at hSw); go_simp)⟩) hHeld ?_
        simp only [Act.put, List.setIfInBounds_toArray, List.set_cons_zero, List.set_cons_succ]
        refine wpAnyH_take (i := 7) (oi := { dst := some 31, op := Op.move (Operand.tmp 3), type := 3, pos := "ref.go:44", after := #[], guard := none }) (v := .int .i64 j) rfl (by kernel_rfl) (by kernel_rfl) (by kernel_rfl) (fun _ _ _ h => h) (Or.inl ⟨by kernel_rfl, by (intro w hSw; (try dsimp only at hSw); go_simp)⟩) hHeld ?_
        simp only [Act.put, List.setIfInBounds_toArray, List.set_cons_zero, List.set_cons_succ]
        refine wpAnyH_take (i := 8) (oi := { dst := some 32, op := Op.indexAddr 23 (Operand.tmp 30) (Operand.tmp 31), type := 0, pos := "ref.go:44", after := #[{ on := 6, ground := Ground.data }, { on := 7, ground := Ground.data }], guard := none }) (v := .pointer (some ⟨g, o + j, none⟩)) rfl (by kernel_rfl) (by kernel_rfl) (by kernel_rfl) (fun _ _ _ h => h) (Or.inl ⟨by kernel_rfl, by (intro w hSw; (try dsimp only at hSw); go_simp)⟩) hHeld ?_
        simp only [Act.put, List.setIfInBounds_toArray, List.set_cons_zero, List.set_cons_succ]
        refine wpAnyH_take (i := 9) (oi := { dst := some 33, op := Op.load 38 (Operand.tmp 32), type := 38, pos := "ref.go:44", after := #[{ on := 8, ground := Ground.data }], guard := none }) (v := .slice X.a XL X.c) rfl (by kernel_rfl) (by kernel_rfl) (by kernel_rfl) (fun _ _ _ h => h) (Or.inl ⟨by kernel_rfl, by (intro w hSw; (try dsimp only at hSw); go_simp)⟩) hHeld ?_
        simp only [Act.put, List.setIfInBounds_toArray, List.set_cons_zero, List.set_cons_succ]
        refine wpAnyH_take (i := 10) (oi := { dst := some 34, op := Op.call { callee := Callee.builtin Builtin.len, args := #[Operand.tmp 33], argTypes := #[38] }, type := 3, pos := "ref.go:44", after := #[{ on := 9, ground := Ground.data }], guard := none }) (v := .int .i64 XL) rfl (by kernel_rfl) (by kernel_rfl) (by kernel_rfl) (fun _ _ _ h => h) (Or.inl ⟨by kernel_rfl, by (intro w hSw; (try dsimp only at hSw); go_simp)⟩) hHeld ?_
        simp only [Act.put, List.setIfInBounds_toArray, List.set_cons_zero, List.set_cons_succ]
        refine wpAnyH_take (i := 12) (oi := { dst := some 36, op := Op.fieldAddr 27 (Operand.tmp 1) 1, type := 0, pos := "ref.go:44", after := #[], guard := none }) (v := .pointer (some ⟨C, 1, none⟩)) rfl (by kernel_rfl) (by kernel_rfl) (by kernel_rfl) (fun _ _ _ h => h) (Or.inl ⟨by kernel_rfl, by (intro w hSw; (try dsimp only at hSw); go_simp)⟩) hHeld ?_
        simp only [Act.put, List.setIfInBounds_toArray, List.set_cons_zero, List.set_cons_succ]
        refine wpAnyH_take (i := 13) (oi := { dst := some 37, op := Op.load 3 (Operand.tmp 36), type := 3, pos := "ref.go:44", after := #[{ on := 12, ground := Ground.data }], guard := none }) (v := .int .i64 x.major) rfl (by kernel_rfl) (by kernel_rfl) (by kernel_rfl) (fun _ _ _ h => h) (Or.inl ⟨by kernel_rfl, by (intro w hSw; (try dsimp only at hSw); go_simp)⟩) hHeld ?_
        simp only [Act.put, List.setIfInBounds_toArray, List.set_cons_zero, List.set_cons_succ]
        refine wpAnyH_ready (rs := [11]) (by kernel_rfl) (by simp) ?_
        refine AllReadyH.cons (o := { dst := some 35, op := Op.call { callee := Callee.value (Operand.func 34), args := #[Operand.tmp 28, Operand.tmp 34], argTypes := #[38, 3] }, type := 3, pos := "ref.go:44", after := #[{ on := 4, ground := Ground.data }, { on := 10, ground := Ground.data }], guard := none }) rfl (fun K hK => ?_) AllReadyH.nil
        go_simp
        refine (HC.out _ ((Keeps.refl _ _).drew)).mono ?_
        rintro r w6 ⟨rfl, hK6, _⟩
        have hK5 : Keeps (fun _ => False) wr w6 := ((Keeps.refl _ _).drew).trans hK6 (fun _ _ h => h)
        have hS := HSS.out w6 hK5
        have HO6 : Hid (One w x C N w6) := HK.out.1.kept hK5
        clear hK6 hK5
        refine hK.out _ _ hS (fun hHeld => ?_)
        simp only [Act.put, List.setIfInBounds_toArray, List.set_cons_zero, List.set_cons_succ]
        refine wpAnyH_take (i := 14) (oi := { dst := some 38, op := Op.binOp BinOp.neq 3 (Operand.tmp 35) (Operand.tmp 37) 3, type := 4, pos := "ref.go:44", after := #[{ on := 11, ground := Ground.data }, { on := 13, ground := Ground.data }], guard := none }) (v := .bool (Z != x.major)) rfl (by kernel_rfl) (by kernel_rfl) (by kernel_rfl) (fun _ _ _ h => h) (Or.inl ⟨by kernel_rfl, by (intro w hSw; (try dsimp only at hSw); go_simp)⟩) hHeld ?_
        simp only [Act.put, List.setIfInBounds_toArray, List.set_cons_zero, List.set_cons_succ]
        refine wpAnyH_done (by kernel_rfl) ?_ _
        clear hS hS0 hHeld hK
        by_cases hz : Z = x.major
        · have hz' : (Z != x.major) = false := by simp [hz]
          go_wp2
          go_roundw
          case rel => exact ⟨j + 1, by omega, by go_num, fills_take HK.out.2.1 HK.out.2.2.1 HK.out.2.2.2.1 (by rw [HK.out.2.2.2.2, HZ.out]; exact hz), HO6.out⟩
          case measure => simp [intOf]; omega
        · have hz' : (Z != x.major) = true := by simp [hz]
          go_wp2
          go_ret
          rw [fills_false HK.out.2.1 (.inr (by rw [HK.out.2.2.2.2, HZ.out]; exact hz))]
          exact ⟨rfl, HO6.out.keeps⟩
      · obtain hjl : j = x.cs.length := by omega
        have hlt' : ¬ (j : Int) < x.cs.length := by omega
        have HK : Hid (One w x C N wr ∧ fillsC x.major (x.cs.take j) = true ∧ j = x.cs.length) := ⟨hO, hall, hjl⟩
        clear hO hall hjl
        go_wp2
        go_ret
        have := HK.out.2.1
        rw [List.take_of_length_le (by rw [HK.out.2.2]; exact Nat.le_refl _)] at this
        unfold fills
        rw [this, decide_eq_true (by omega : 1 ≤ x.major), decide_eq_true (by omega : x.major ≤ 16384)]
        exact ⟨rfl, HK.out.1.keeps⟩
end Go.Proofs.Ytnkfdmlpjgmckaa
