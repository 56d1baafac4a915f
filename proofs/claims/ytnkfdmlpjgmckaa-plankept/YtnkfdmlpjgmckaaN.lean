import Derived.Test.YtnkfdmlpjgmckaaM
namespace Go.Proofs.Ytnkfdmlpjgmckaa
open Go.RowKit
set_option linter.unusedVariables false
set_option linter.unusedSimpArgs false
set_option maxRecDepth 6000

theorem Try.mixed : Try.prog.follows Departure.mixedOrders = true := by kernel_rfl
/-- The plans of all cores fill the frame. -/
def fillsC (mj : Int) (cs : List Core) : Bool := cs.all fun X => may X.ws && decide (beg X.ws X.ws.length = mj)
def fills (mj : Int) (cs : List Core) : Bool := decide (1 ≤ mj) && decide (mj ≤ 16384) && fillsC mj cs
theorem fillsC_false {mj : Int} {cs : List Core} {j : Nat} {X : Core} (hX : cs[j]? = some X) (h : may X.ws = false ∨ ¬ beg X.ws X.ws.length = mj) : fillsC mj cs = false := by
  rw [Bool.eq_false_iff]
  intro h2
  unfold fillsC at h2
  rw [List.all_eq_true] at h2
  have := h2 X (List.mem_of_getElem? hX)
  rw [Bool.and_eq_true, decide_eq_true_eq] at this
  rcases h with h | h
  · rw [this.1] at h; cases h
  · exact h this.2
theorem fills_false {mj : Int} {cs : List Core} {j : Nat} {X : Core} (hX : cs[j]? = some X) (h : may X.ws = false ∨ ¬ beg X.ws X.ws.length = mj) : fills mj cs = false := by
  unfold fills; rw [fillsC_false hX h, Bool.and_false]
theorem fills_take {mj : Int} {cs : List Core} {j : Nat} {X : Core} (hX : cs[j]? = some X) (hj : fillsC mj (cs.take j) = true) (h : may X.ws = true) (h2 : beg X.ws X.ws.length = mj) : fillsC mj (cs.take (j + 1)) = true := by
  unfold fillsC at *
  rw [List.take_add_one, hX]
  simp only [Option.toList_some, List.all_append, hj, List.all_cons, h, List.all_nil, Bool.and_self, h2, decide_true]
theorem fills_may {mj : Int} {cs : List Core} (h : fills mj cs = true) : allMay cs = true := by
  unfold fills fillsC at h
  unfold allMay
  rw [Bool.and_eq_true, List.all_eq_true] at h
  rw [List.all_eq_true]
  intro X hX
  have := h.2 X hX
  rw [Bool.and_eq_true] at this
  exact this.1

set_option maxHeartbeats 2000000 in
theorem allFill_any (x : Cfg) (w : World) (N : Nat) (hi : x.In w N) (hN : N ≤ w.heap.size) :
    Calls Try.prog 48 #[x.v] w fun e w' => e = .returned (.bool (fills x.major x.cs)) ∧ Keeps (fun _ => False) w w' := by
  obtain ⟨f, mj, kn, rm, ca, cc, cs, pa, pc, ps, qa, qc, qs⟩ := x
  have HO := One.mk' hi hN
  obtain ⟨W, hW⟩ : ∃ W, W = Cfg.laid w ⟨f, mj, kn, rm, ca, cc, cs, pa, pc, ps, qa, qc, qs⟩ := ⟨_, rfl⟩
  obtain ⟨C, hC⟩ : ∃ C, C = w.heap.size := ⟨_, rfl⟩
  rw [← hW, ← hC] at HO
  have HO : Hid (One w ⟨f, mj, kn, rm, ca, cc, cs, pa, pc, ps, qa, qc, qs⟩ C N W) := HO
  obtain ⟨L, hL⟩ : ∃ L, cs.length = L := ⟨_, rfl⟩
  have HL : Hid (cs.length = L) := hL
  have hcc : (L : Int) ≤ cc ∧ (cc : Int) ≤ 9223372036854775807 := by have := hi.clen; unfold maxLen at this; dsimp only at this; omega
  simp only [Cfg.v, Cfg.laid, hL] at hW ⊢
  have c1 : W.cell? ⟨C, 1, none⟩ = some (.int .i64 mj) := HO.out.cfg.cell (i := 1) rfl
  have c4 : W.cell? ⟨C, 4, none⟩ = some (.slice ca L cc) := by have := HO.out.cfg.cell (i := 4) rfl; rw [← hL]; exact this
  clear hi hN hL
  go_enter Try.func48, Try.ntmps48
  go_upto_region 1 with fail
  rw [← hW, ← hC]
  clear hW hC
  by_cases h1 : mj < 1
  · have h1' : decide (mj < 1) = true := by simp [h1]
    have e0 : fills mj cs = false := by unfold fills; rw [decide_eq_false (by omega : ¬ 1 ≤ mj)]; rfl
    go_wp2
    go_ret
    (try rw [e0])
    exact ⟨rfl, HO.out.keeps⟩
  have h1' : decide (mj < 1) = false := by simp [h1]
  by_cases h2 : 16384 < mj
  · have h2' : decide (16384 < mj) = true := by simp [h2]
    have e0 : fills mj cs = false := by unfold fills; rw [decide_eq_false (by omega : ¬ mj ≤ 16384)]; simp
    go_wp2
    go_ret
    (try rw [e0])
    exact ⟨rfl, HO.out.keeps⟩
  have h2' : decide (16384 < mj) = false := by simp [h2]
  go_wp2
  go_loopw [16] (fun i wr => ∃ j : Nat, j ≤ L ∧ i = .int .i64 j ∧ fillsC mj (cs.take j) = true ∧ One w ⟨f, mj, kn, rm, ca, cc, cs, pa, pc, ps, qa, qc, qs⟩ C N wr) (fun i _ => L - (intOf i).toNat)
  case atStart => exact ⟨0, by omega, rfl, rfl, HO.out⟩
  case round =>
    obtain ⟨k, hk, rfl, hall, hO⟩ := hrel
    clear c1 c4 HO
    by_cases hlt : k < L
    · obtain ⟨X, hX⟩ : ∃ X, cs[k]? = some X := ⟨_, List.getElem?_eq_getElem (by have := HL.out; omega)⟩
      obtain ⟨g0, o0, e, hc⟩ := hO.cin.core hX
      dsimp only at e
      subst e
      have hXi := hO.cin.cin X (List.mem_of_getElem? hX)
      obtain ⟨XL, hXL⟩ : ∃ XL, X.ws.length = XL := ⟨_, rfl⟩
      have HC : Hid (∀ w', Keeps (fun _ => False) wr w' → Calls Try.prog 51 #[.slice X.a XL X.c] w' fun e w'' => e = .returned (.bool (may X.ws)) ∧ Keeps (fun _ => False) w' w'') := by
        intro w' hK
        rw [← hXL]
        have hXi := (hO.kept hK).cin.cin X (List.mem_of_getElem? hX)
        exact mayBe_any X.a X.c X.ws w' hXi.seg hXi.len
      have hxv : Core.v X = .slice X.a XL X.c := by unfold Core.v; rw [hXL]
      rw [hxv] at hc
      have hxc : (XL : Int) ≤ X.c ∧ (X.c : Int) ≤ 9223372036854775807 := by have := hXi.len; unfold maxLen at this; omega
      have HK : Hid (One w ⟨f, mj, kn, rm, some ⟨g0, o0, none⟩, cc, cs, pa, pc, ps, qa, qc, qs⟩ C N wr ∧ cs[k]? = some X ∧ fillsC mj (cs.take k) = true ∧ X.ws.length = XL) := ⟨hO, hX, hall, hXL⟩
      clear hO hX hall hXi hXL hxv
      go_upto_region 6 with fail
      have hS0 : wr.drew.cell? ⟨C, 1, none⟩ = some (.int .i64 mj) := HK.out.1.cfg.cell rfl
      clear hc
      obtain ⟨b, hb⟩ : ∃ b, may X.ws = b := ⟨_, rfl⟩
      have HB : Hid (may X.ws = b) := hb
      cases b with
      | false =>
        clear hb
        refine wp_region_held_drew (S := (fun w' => w'.cell? ⟨C, 1, none⟩ = some (.int .i64 mj))) Try.mixed hS0 (fun hHeld => ?_)
        simp only [List.size_toArray, List.length_cons, List.length_nil, Nat.reduceAdd, Array.replicate_succ, Array.replicate_zero, List.push_toArray, List.append_toArray, List.nil_append, List.cons_append]
        refine wpAnyH_take (i := 0) (oi := { dst := some 21, op := Op.move (Operand.tmp 4), type := 38, pos := "windows.go:101", after := #[], guard := none }) (v := .slice X.a XL X.c) rfl (by kernel_rfl) (by kernel_rfl) (by kernel_rfl) (fun _ _ _ h => h) (Or.inl ⟨by kernel_rfl, by (intro w hSw; (try dsimp only at hSw); go_simp)⟩) hHeld ?_
        simp only [Act.put, List.setIfInBounds_toArray, List.set_cons_zero, List.set_cons_succ]
        refine wpAnyH_ready (rs := [1]) (by kernel_rfl) (by simp) ?_
        refine AllReadyH.cons (o := { dst := some 22, op := Op.call { callee := Callee.value (Operand.func 51), args := #[Operand.tmp 21], argTypes := #[38] }, type := 4, pos := "windows.go:101", after := #[{ on := 0, ground := Ground.data }], guard := none }) rfl (fun K hK => ?_) AllReadyH.nil
        go_simp
        refine (HC.out _ ((Keeps.refl _ _).drew)).mono ?_
        rintro r w1 ⟨rfl, hK1⟩
        have HO1 : Hid (One w ⟨f, mj, kn, rm, some ⟨g0, o0, none⟩, cc, cs, pa, pc, ps, qa, qc, qs⟩ C N w1) := HK.out.1.kept (((Keeps.refl _ _).drew).trans hK1 fun _ _ h => h)
        have hS1 : w1.cell? ⟨C, 1, none⟩ = some (.int .i64 mj) := HO1.out.cfg.cell rfl
        clear hK1
        rw [HB.out]
        refine hK.out _ _ hS1 (fun hHeld => ?_)
        simp only [Act.put, List.setIfInBounds_toArray, List.set_cons_zero, List.set_cons_succ]
        refine wpAnyH_take (i := 2) (oi := { dst := some 23, op := Op.unOp UnOp.not 4 (Operand.tmp 22), type := 4, pos := "windows.go:101", after := #[{ on := 1, ground := Ground.data }], guard := none }) (v := .bool true) rfl (by kernel_rfl) (by kernel_rfl) (by kernel_rfl) (fun _ _ _ h => h) (Or.inl ⟨by kernel_rfl, by (intro w hSw; (try dsimp only at hSw); go_simp)⟩) hHeld ?_
        simp only [Act.put, List.setIfInBounds_toArray, List.set_cons_zero, List.set_cons_succ]
        refine wpAnyH_take (i := 3) (oi := { dst := some 24, op := Op.move (Operand.tmp 23), type := 4, pos := "windows.go:101", after := #[{ on := 2, ground := Ground.data }, { on := 1, ground := Ground.chain }], guard := none }) (v := .bool true) rfl (by kernel_rfl) (by kernel_rfl) (by kernel_rfl) (fun _ _ _ h => h) (Or.inl ⟨by kernel_rfl, by (intro w hSw; (try dsimp only at hSw); go_simp)⟩) hHeld ?_
        simp only [Act.put, List.setIfInBounds_toArray, List.set_cons_zero, List.set_cons_succ]
        refine wpAnyH_take (i := 4) (oi := { dst := some 25, op := Op.move (Operand.tmp 3), type := 3, pos := "windows.go:101", after := #[{ on := 3, ground := Ground.guard }], guard := some (3, false) }) (v := undef) rfl (by kernel_rfl) (by kernel_rfl) (by kernel_rfl) (fun _ _ _ h => h) (Or.inr ⟨by kernel_rfl, rfl⟩) hHeld ?_
        simp only [Act.put, List.setIfInBounds_toArray, List.set_cons_zero, List.set_cons_succ]
        refine wpAnyH_take (i := 5) (oi := { dst := some 26, op := Op.move (Operand.tmp 4), type := 38, pos := "windows.go:101", after := #[{ on := 3, ground := Ground.guard }], guard := some (3, false) }) (v := undef) rfl (by kernel_rfl) (by kernel_rfl) (by kernel_rfl) (fun _ _ _ h => h) (Or.inr ⟨by kernel_rfl, rfl⟩) hHeld ?_
        simp only [Act.put, List.setIfInBounds_toArray, List.set_cons_zero, List.set_cons_succ]
        refine wpAnyH_take (i := 6) (oi := { dst := some 27, op := Op.call { callee := Callee.value (Operand.func 52), args := #[Operand.tmp 25, Operand.tmp 26], argTypes := #[3, 38] }, type := 44, pos := "windows.go:101", after := #[{ on := 4, ground := Ground.data }, { on := 5, ground := Ground.data }, { on := 3, ground := Ground.chain }, { on := 3, ground := Ground.guard }], guard := some (3, false) }) (v := undef) rfl (by kernel_rfl) (by kernel_rfl) (by kernel_rfl) (fun _ _ _ h => h) (Or.inr ⟨by kernel_rfl, rfl⟩) hHeld ?_
        simp only [Act.put, List.setIfInBounds_toArray, List.set_cons_zero, List.set_cons_succ]
        refine wpAnyH_take (i := 7) (oi := { dst := some 28, op := Op.move (Operand.tmp 4), type := 38, pos := "windows.go:101", after := #[{ on := 3, ground := Ground.guard }], guard := some (3, false) }) (v := undef) rfl (by kernel_rfl) (by kernel_rfl) (by kernel_rfl) (fun _ _ _ h => h) (Or.inr ⟨by kernel_rfl, rfl⟩) hHeld ?_
        simp only [Act.put, List.setIfInBounds_toArray, List.set_cons_zero, List.set_cons_succ]
        refine wpAnyH_take (i := 8) (oi := { dst := some 29, op := Op.call { callee := Callee.builtin Builtin.len, args := #[Operand.tmp 28], argTypes := #[38] }, type := 3, pos := "windows.go:101", after := #[{ on := 7, ground := Ground.data }, { on := 3, ground := Ground.guard }], guard := some (3, false) }) (v := undef) rfl (by kernel_rfl) (by kernel_rfl) (by kernel_rfl) (fun _ _ _ h => h) (Or.inr ⟨by kernel_rfl, rfl⟩) hHeld ?_
        simp only [Act.put, List.setIfInBounds_toArray, List.set_cons_zero, List.set_cons_succ]
        refine wpAnyH_take (i := 9) (oi := { dst := some 30, op := Op.binOp BinOp.sub 3 (Operand.tmp 29) (Operand.const (Value.int IntKind.i64 1)) 3, type := 3, pos := "windows.go:101", after := #[{ on := 8, ground := Ground.data }, { on := 3, ground := Ground.guard }], guard := some (3, false) }) (v := undef) rfl (by kernel_rfl) (by kernel_rfl) (by kernel_rfl) (fun _ _ _ h => h) (Or.inr ⟨by kernel_rfl, rfl⟩) hHeld ?_
        simp only [Act.put, List.setIfInBounds_toArray, List.set_cons_zero, List.set_cons_succ]
        refine wpAnyH_take (i := 10) (oi := { dst := some 31, op := Op.indexAddr 44 (Operand.tmp 27) (Operand.tmp 30), type := 0, pos := "windows.go:101", after := #[{ on := 6, ground := Ground.data }, { on := 9, ground := Ground.data }, { on := 3, ground := Ground.guard }], guard := some (3, false) }) (v := undef) rfl (by kernel_rfl) (by kernel_rfl) (by kernel_rfl) (fun _ _ _ h => h) (Or.inr ⟨by kernel_rfl, rfl⟩) hHeld ?_
        simp only [Act.put, List.setIfInBounds_toArray, List.set_cons_zero, List.set_cons_succ]
        refine wpAnyH_take (i := 11) (oi := { dst := some 32, op := Op.fieldAddr 69 (Operand.tmp 31) 3, type := 0, pos := "windows.go:101", after := #[{ on := 10, ground := Ground.data }, { on := 3, ground := Ground.guard }], guard := some (3, false) }) (v := undef) rfl (by kernel_rfl) (by kernel_rfl) (by kernel_rfl) (fun _ _ _ h => h) (Or.inr ⟨by kernel_rfl, rfl⟩) hHeld ?_
        simp only [Act.put, List.setIfInBounds_toArray, List.set_cons_zero, List.set_cons_succ]
        refine wpAnyH_take (i := 12) (oi := { dst := some 33, op := Op.load 3 (Operand.tmp 32), type := 3, pos := "windows.go:101", after := #[{ on := 11, ground := Ground.data }, { on := 3, ground := Ground.guard }], guard := some (3, false) }) (v := undef) rfl (by kernel_rfl) (by kernel_rfl) (by kernel_rfl) (fun _ _ _ h => h) (Or.inr ⟨by kernel_rfl, rfl⟩) hHeld ?_
        simp only [Act.put, List.setIfInBounds_toArray, List.set_cons_zero, List.set_cons_succ]
        refine wpAnyH_take (i := 13) (oi := { dst := some 34, op := Op.fieldAddr 27 (Operand.tmp 1) 1, type := 0, pos := "windows.go:101", after := #[{ on := 3, ground := Ground.guard }], guard := some (3, false) }) (v := undef) rfl (by kernel_rfl) (by kernel_rfl) (by kernel_rfl) (fun _ _ _ h => h) (Or.inr ⟨by kernel_rfl, rfl⟩) hHeld ?_
        simp only [Act.put, List.setIfInBounds_toArray, List.set_cons_zero, List.set_cons_succ]
        refine wpAnyH_take (i := 14) (oi := { dst := some 35, op := Op.load 3 (Operand.tmp 34), type := 3, pos := "windows.go:101", after := #[{ on := 13, ground := Ground.data }, { on := 3, ground := Ground.guard }], guard := some (3, false) }) (v := undef) rfl (by kernel_rfl) (by kernel_rfl) (by kernel_rfl) (fun _ _ _ h => h) (Or.inr ⟨by kernel_rfl, rfl⟩) hHeld ?_
        simp only [Act.put, List.setIfInBounds_toArray, List.set_cons_zero, List.set_cons_succ]
        refine wpAnyH_take (i := 15) (oi := { dst := some 36, op := Op.binOp BinOp.neq 3 (Operand.tmp 33) (Operand.tmp 35) 3, type := 4, pos := "windows.go:101", after := #[{ on := 12, ground := Ground.data }, { on := 14, ground := Ground.data }, { on := 3, ground := Ground.guard }], guard := some (3, false) }) (v := undef) rfl (by kernel_rfl) (by kernel_rfl) (by kernel_rfl) (fun _ _ _ h => h) (Or.inr ⟨by kernel_rfl, rfl⟩) hHeld ?_
        simp only [Act.put, List.setIfInBounds_toArray, List.set_cons_zero, List.set_cons_succ]
        refine wpAnyH_take (i := 16) (oi := { dst := some 37, op := Op.pick (Operand.tmp 24) (Operand.const (Value.bool true)) (Operand.tmp 36), type := 4, pos := "windows.go:101", after := #[{ on := 3, ground := Ground.data }, { on := 15, ground := Ground.data }], guard := none }) (v := .bool true) rfl (by kernel_rfl) (by kernel_rfl) (by kernel_rfl) (fun _ _ _ h => h) (Or.inl ⟨by kernel_rfl, by (intro w hSw; (try dsimp only at hSw); go_simp)⟩) hHeld ?_
        simp only [Act.put, List.setIfInBounds_toArray, List.set_cons_zero, List.set_cons_succ]
        refine wpAnyH_done (by kernel_rfl) ?_ _
        clear hS1 hHeld hK hS0
        go_wp2
        go_ret
        rw [fills_false HK.out.2.1 (.inl HB.out)]
        exact ⟨rfl, HO1.out.keeps⟩
      | true =>
        have hpos : 1 ≤ XL ∧ XL ≤ 16 := by have := may_iff.1 hb; have := HK.out.2.2.2; omega
        have hq : IntKind.i64.wrap ((XL : Int) - 1) = (XL : Int) - 1 := by rw [IntKind.wrap_i64]; omega
        have hq2 : ((XL : Int) - 1).toNat = XL - 1 := by omega
        have hx1 : (1 : Int) ≤ XL := by omega
        have hx2 : ¬ ((XL : Int) ≤ XL - 1) := by omega
        clear hb
        refine wp_region_held_drew (S := (fun w' => w'.cell? ⟨C, 1, none⟩ = some (.int .i64 mj))) Try.mixed hS0 (fun hHeld => ?_)
        simp only [List.size_toArray, List.length_cons, List.length_nil, Nat.reduceAdd, Array.replicate_succ, Array.replicate_zero, List.push_toArray, List.append_toArray, List.nil_append, List.cons_append]
        refine wpAnyH_take (i := 0) (oi := { dst := some 21, op := Op.move (Operand.tmp 4), type := 38, pos := "windows.go:101", after := #[], guard := none }) (v := .slice X.a XL X.c) rfl (by kernel_rfl) (by kernel_rfl) (by kernel_rfl) (fun _ _ _ h => h) (Or.inl ⟨by kernel_rfl, by (intro w hSw; (try dsimp only at hSw); go_simp)⟩) hHeld ?_
        simp only [Act.put, List.setIfInBounds_toArray, List.set_cons_zero, List.set_cons_succ]
        refine wpAnyH_ready (rs := [1]) (by kernel_rfl) (by simp) ?_
        refine AllReadyH.cons (o := { dst := some 22, op := Op.call { callee := Callee.value (Operand.func 51), args := #[Operand.tmp 21], argTypes := #[38] }, type := 4, pos := "windows.go:101", after := #[{ on := 0, ground := Ground.data }], guard := none }) rfl (fun K hK => ?_) AllReadyH.nil
        go_simp
        refine (HC.out _ ((Keeps.refl _ _).drew)).mono ?_
        rintro r w1 ⟨rfl, hK1⟩
        have HO1 : Hid (One w ⟨f, mj, kn, rm, some ⟨g0, o0, none⟩, cc, cs, pa, pc, ps, qa, qc, qs⟩ C N w1) := HK.out.1.kept (((Keeps.refl _ _).drew).trans hK1 fun _ _ h => h)
        have hS1 : w1.cell? ⟨C, 1, none⟩ = some (.int .i64 mj) := HO1.out.cfg.cell rfl
        clear hK1
        rw [HB.out]
        refine hK.out _ _ hS1 (fun hHeld => ?_)
        simp only [Act.put, List.setIfInBounds_toArray, List.set_cons_zero, List.set_cons_succ]
        refine wpAnyH_take (i := 2) (oi := { dst := some 23, op := Op.unOp UnOp.not 4 (Operand.tmp 22), type := 4, pos := "windows.go:101", after := #[{ on := 1, ground := Ground.data }], guard := none }) (v := .bool false) rfl (by kernel_rfl) (by kernel_rfl) (by kernel_rfl) (fun _ _ _ h => h) (Or.inl ⟨by kernel_rfl, by (intro w hSw; (try dsimp only at hSw); go_simp)⟩) hHeld ?_
        simp only [Act.put, List.setIfInBounds_toArray, List.set_cons_zero, List.set_cons_succ]
        refine wpAnyH_take (i := 3) (oi := { dst := some 24, op := Op.move (Operand.tmp 23), type := 4, pos := "windows.go:101", after := #[{ on := 2, ground := Ground.data }, { on := 1, ground := Ground.chain }], guard := none }) (v := .bool false) rfl (by kernel_rfl) (by kernel_rfl) (by kernel_rfl) (fun _ _ _ h => h) (Or.inl ⟨by kernel_rfl, by (intro w hSw; (try dsimp only at hSw); go_simp)⟩) hHeld ?_
        simp only [Act.put, List.setIfInBounds_toArray, List.set_cons_zero, List.set_cons_succ]
        refine wpAnyH_take (i := 4) (oi := { dst := some 25, op := Op.move (Operand.tmp 3), type := 3, pos := "windows.go:101", after := #[{ on := 3, ground := Ground.guard }], guard := some (3, false) }) (v := .int .i64 k) rfl (by kernel_rfl) (by kernel_rfl) (by kernel_rfl) (fun _ _ _ h => h) (Or.inl ⟨by kernel_rfl, by (intro w hSw; (try dsimp only at hSw); go_simp)⟩) hHeld ?_
        simp only [Act.put, List.setIfInBounds_toArray, List.set_cons_zero, List.set_cons_succ]
        refine wpAnyH_take (i := 5) (oi := { dst := some 26, op := Op.move (Operand.tmp 4), type := 38, pos := "windows.go:101", after := #[{ on := 3, ground := Ground.guard }], guard := some (3, false) }) (v := .slice X.a XL X.c) rfl (by kernel_rfl) (by kernel_rfl) (by kernel_rfl) (fun _ _ _ h => h) (Or.inl ⟨by kernel_rfl, by (intro w hSw; (try dsimp only at hSw); go_simp)⟩) hHeld ?_
        simp only [Act.put, List.setIfInBounds_toArray, List.set_cons_zero, List.set_cons_succ]
        refine wpAnyH_take (i := 7) (oi := { dst := some 28, op := Op.move (Operand.tmp 4), type := 38, pos := "windows.go:101", after := #[{ on := 3, ground := Ground.guard }], guard := some (3, false) }) (v := .slice X.a XL X.c) rfl (by kernel_rfl) (by kernel_rfl) (by kernel_rfl) (fun _ _ _ h => h) (Or.inl ⟨by kernel_rfl, by (intro w hSw; (try dsimp only at hSw); go_simp)⟩) hHeld ?_
        simp only [Act.put, List.setIfInBounds_toArray, List.set_cons_zero, List.set_cons_succ]
        refine wpAnyH_take (i := 8) (oi := { dst := some 29, op := Op.call { callee := Callee.builtin Builtin.len, args := #[Operand.tmp 28], argTypes := #[38] }, type := 3, pos := "windows.go:101", after := #[{ on := 7, ground := Ground.data }, { on := 3, ground := Ground.guard }], guard := some (3, false) }) (v := .int .i64 XL) rfl (by kernel_rfl) (by kernel_rfl) (by kernel_rfl) (fun _ _ _ h => h) (Or.inl ⟨by kernel_rfl, by (intro w hSw; (try dsimp only at hSw); go_simp)⟩) hHeld ?_
        simp only [Act.put, List.setIfInBounds_toArray, List.set_cons_zero, List.set_cons_succ]
        refine wpAnyH_take (i := 9) (oi := { dst := some 30, op := Op.binOp BinOp.sub 3 (Operand.tmp 29) (Operand.const (Value.int IntKind.i64 1)) 3, type := 3, pos := "windows.go:101", after := #[{ on := 8, ground := Ground.data }, { on := 3, ground := Ground.guard }], guard := some (3, false) }) (v := .int .i64 ((XL : Int) - 1)) rfl (by kernel_rfl) (by kernel_rfl) (by kernel_rfl) (fun _ _ _ h => h) (Or.inl ⟨by kernel_rfl, by (intro w hSw; (try dsimp only at hSw); go_simp)⟩) hHeld ?_
        simp only [Act.put, List.setIfInBounds_toArray, List.set_cons_zero, List.set_cons_succ]
        refine wpAnyH_take (i := 13) (oi := { dst := some 34, op := Op.fieldAddr 27 (Operand.tmp 1) 1, type := 0, pos := "windows.go:101", after := #[{ on := 3, ground := Ground.guard }], guard := some (3, false) }) (v := .pointer (some ⟨C, 1, none⟩)) rfl (by kernel_rfl) (by kernel_rfl) (by kernel_rfl) (fun _ _ _ h => h) (Or.inl ⟨by kernel_rfl, by (intro w hSw; (try dsimp only at hSw); go_simp)⟩) hHeld ?_
        simp only [Act.put, List.setIfInBounds_toArray, List.set_cons_zero, List.set_cons_succ]
        refine wpAnyH_take (i := 14) (oi := { dst := some 35, op := Op.load 3 (Operand.tmp 34), type := 3, pos := "windows.go:101", after := #[{ on := 13, ground := Ground.data }, { on := 3, ground := Ground.guard }], guard := some (3, false) }) (v := .int .i64 mj) rfl (by kernel_rfl) (by kernel_rfl) (by kernel_rfl) (fun _ _ _ h => h) (Or.inl ⟨by kernel_rfl, by (intro w hSw; (try dsimp only at hSw); go_simp)⟩) hHeld ?_
        simp only [Act.put, List.setIfInBounds_toArray, List.set_cons_zero, List.set_cons_succ]
        refine wpAnyH_ready (rs := [6]) (by kernel_rfl) (by simp) ?_
        refine AllReadyH.cons (o := { dst := some 27, op := Op.call { callee := Callee.value (Operand.func 52), args := #[Operand.tmp 25, Operand.tmp 26], argTypes := #[3, 38] }, type := 44, pos := "windows.go:101", after := #[{ on := 4, ground := Ground.data }, { on := 5, ground := Ground.data }, { on := 3, ground := Ground.chain }, { on := 3, ground := Ground.guard }], guard := some (3, false) }) rfl (fun K hK => ?_) AllReadyH.nil
        go_simp
        have hXi := HO1.out.cin.cin X (List.mem_of_getElem? HK.out.2.1)
        have HCL := lay_any k X.a X.c X.ws w1 hXi.seg hXi.len HB.out
        rw [HK.out.2.2.2] at HCL
        refine HCL.mono ?_
        rintro r w2 ⟨g, rfl, hg1, hg2, hg3, hK2⟩
        have HO2 : Hid (One w ⟨f, mj, kn, rm, some ⟨g0, o0, none⟩, cc, cs, pa, pc, ps, qa, qc, qs⟩ C N w2) := HO1.out.kept hK2
        have hS2 : w2.cell? ⟨C, 1, none⟩ = some (.int .i64 mj) := HO2.out.cfg.cell rfl
        obtain ⟨gg, oo, eg, hgg⟩ := hg3.at (laid_get (core := k) (j := XL - 1) (by rw [HK.out.2.2.2]; omega))
        cases eg
        have z3 := hgg 3 _ rfl
        dsimp only at z3
        rw [Nat.zero_add, show XL - 1 + 1 = XL from by omega] at z3
        clear hgg hg1 hg2 hg3 hK2 hXi HCL
        obtain ⟨Z, hZ⟩ : ∃ Z, beg X.ws XL = Z := ⟨_, rfl⟩
        rw [hZ] at z3
        have HZ : Hid (beg X.ws XL = Z) := hZ
        clear hZ
        refine hK.out _ _ hS2 (fun hHeld => ?_)
        simp only [Act.put, List.setIfInBounds_toArray, List.set_cons_zero, List.set_cons_succ]
        refine wpAnyH_take (i := 10) (oi := { dst := some 31, op := Op.indexAddr 44 (Operand.tmp 27) (Operand.tmp 30), type := 0, pos := "windows.go:101", after := #[{ on := 6, ground := Ground.data }, { on := 9, ground := Ground.data }, { on := 3, ground := Ground.guard }], guard := some (3, false) }) (v := .pointer (some ⟨g, (XL - 1) * 4, none⟩)) rfl (by kernel_rfl) (by kernel_rfl) (by kernel_rfl) (fun _ _ _ h => h) (Or.inl ⟨by kernel_rfl, by (intro w hSw; (try dsimp only at hSw); go_simp)⟩) hHeld ?_
        simp only [Act.put, List.setIfInBounds_toArray, List.set_cons_zero, List.set_cons_succ]
        refine wpAnyH_take (i := 11) (oi := { dst := some 32, op := Op.fieldAddr 69 (Operand.tmp 31) 3, type := 0, pos := "windows.go:101", after := #[{ on := 10, ground := Ground.data }, { on := 3, ground := Ground.guard }], guard := some (3, false) }) (v := .pointer (some ⟨g, (XL - 1) * 4 + 3, none⟩)) rfl (by kernel_rfl) (by kernel_rfl) (by kernel_rfl) (fun _ _ _ h => h) (Or.inl ⟨by kernel_rfl, by (intro w hSw; (try dsimp only at hSw); go_simp)⟩) hHeld ?_
        simp only [Act.put, List.setIfInBounds_toArray, List.set_cons_zero, List.set_cons_succ]
        refine wpAnyH_ready (rs := [12]) (by kernel_rfl) (by simp) ?_
        refine AllReadyH.cons (o := { dst := some 33, op := Op.load 3 (Operand.tmp 32), type := 3, pos := "windows.go:101", after := #[{ on := 11, ground := Ground.data }, { on := 3, ground := Ground.guard }], guard := some (3, false) }) rfl (fun K hK => ?_) AllReadyH.nil
        go_simp
        refine hK.out _ _ hS2 (fun hHeld => ?_)
        simp only [Act.put, List.setIfInBounds_toArray, List.set_cons_zero, List.set_cons_succ]
        by_cases hz : Z = mj
        · refine wpAnyH_take (i := 15) (oi := { dst := some 36, op := Op.binOp BinOp.neq 3 (Operand.tmp 33) (Operand.tmp 35) 3, type := 4, pos := "windows.go:101", after := #[{ on := 12, ground := Ground.data }, { on := 14, ground := Ground.data }, { on := 3, ground := Ground.guard }], guard := some (3, false) }) (v := .bool false) rfl (by kernel_rfl) (by kernel_rfl) (by kernel_rfl) (fun _ _ _ h => h) (Or.inl ⟨by kernel_rfl, by (intro w hSw; (try dsimp only at hSw); go_simp)⟩) hHeld ?_
          simp only [Act.put, List.setIfInBounds_toArray, List.set_cons_zero, List.set_cons_succ]
          refine wpAnyH_take (i := 16) (oi := { dst := some 37, op := Op.pick (Operand.tmp 24) (Operand.const (Value.bool true)) (Operand.tmp 36), type := 4, pos := "windows.go:101", after := #[{ on := 3, ground := Ground.data }, { on := 15, ground := Ground.data }], guard := none }) (v := .bool false) rfl (by kernel_rfl) (by kernel_rfl) (by kernel_rfl) (fun _ _ _ h => h) (Or.inl ⟨by kernel_rfl, by (intro w hSw; (try dsimp only at hSw); go_simp)⟩) hHeld ?_
          simp only [Act.put, List.setIfInBounds_toArray, List.set_cons_zero, List.set_cons_succ]
          refine wpAnyH_done (by kernel_rfl) ?_ _
          clear hS1 hS2 hHeld hK hS0 z3
          go_wp2
          go_roundw
          case rel => exact ⟨k + 1, by omega, by go_num, fills_take HK.out.2.1 HK.out.2.2.1 HB.out (by rw [HK.out.2.2.2, HZ.out]; exact hz), HO2.out⟩
          case measure => simp [intOf]; omega
        · refine wpAnyH_take (i := 15) (oi := { dst := some 36, op := Op.binOp BinOp.neq 3 (Operand.tmp 33) (Operand.tmp 35) 3, type := 4, pos := "windows.go:101", after := #[{ on := 12, ground := Ground.data }, { on := 14, ground := Ground.data }, { on := 3, ground := Ground.guard }], guard := some (3, false) }) (v := .bool true) rfl (by kernel_rfl) (by kernel_rfl) (by kernel_rfl) (fun _ _ _ h => h) (Or.inl ⟨by kernel_rfl, by (intro w hSw; (try dsimp only at hSw); go_simp)⟩) hHeld ?_
          simp only [Act.put, List.setIfInBounds_toArray, List.set_cons_zero, List.set_cons_succ]
          refine wpAnyH_take (i := 16) (oi := { dst := some 37, op := Op.pick (Operand.tmp 24) (Operand.const (Value.bool true)) (Operand.tmp 36), type := 4, pos := "windows.go:101", after := #[{ on := 3, ground := Ground.data }, { on := 15, ground := Ground.data }], guard := none }) (v := .bool true) rfl (by kernel_rfl) (by kernel_rfl) (by kernel_rfl) (fun _ _ _ h => h) (Or.inl ⟨by kernel_rfl, by (intro w hSw; (try dsimp only at hSw); go_simp)⟩) hHeld ?_
          simp only [Act.put, List.setIfInBounds_toArray, List.set_cons_zero, List.set_cons_succ]
          refine wpAnyH_done (by kernel_rfl) ?_ _
          clear hS1 hS2 hHeld hK hS0 z3
          go_wp2
          go_ret
          rw [fills_false HK.out.2.1 (.inr (by rw [HK.out.2.2.2, HZ.out]; exact hz))]
          exact ⟨rfl, HO2.out.keeps⟩
    · obtain rfl : k = L := by omega
      have HK : Hid (One w ⟨f, mj, kn, rm, ca, cc, cs, pa, pc, ps, qa, qc, qs⟩ C N wr ∧ fillsC mj (cs.take k) = true) := ⟨hO, hall⟩
      clear hO hall
      go_wp2
      go_ret
      have := HK.out.2
      rw [List.take_of_length_le (by rw [HL.out]; exact Nat.le_refl _)] at this
      unfold fills
      rw [this, decide_eq_true (by omega : 1 ≤ mj), decide_eq_true (by omega : mj ≤ 16384)]
      exact ⟨rfl, HK.out.1.keeps⟩
end Go.Proofs.Ytnkfdmlpjgmckaa
