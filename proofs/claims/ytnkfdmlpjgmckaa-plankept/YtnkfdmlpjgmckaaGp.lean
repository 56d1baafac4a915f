import Derived.Test.YtnkfdmlpjgmckaaAc
namespace Go.Proofs.Ytnkfdmlpjgmckaa
open Go.RowKit
set_option linter.unusedVariables false
set_option linter.unusedSimpArgs false
set_option maxRecDepth 6000

theorem all4 (a b c d : Int) : (#[Value.int .i64 a, Value.int .i64 b, Value.int .i64 c, Value.int .i64 d].all (·.oneCell')) = true := by kernel_rfl
theorem Try.size69 : (Try.prog.info? 69).map (·.size) = some 4 := by kernel_rfl
theorem gap_no (x : Cfg) (p : Int) (w : World) (N : Nat) (hi : x.In w N) (hN : N ≤ w.heap.size) (hp : ¬ (0 ≤ p ∧ p < x.ps.length)) :
    Calls Try.prog 29 #[x.v, .int .i64 p] w (GpP w x p) := by
  have HR : Hid (GpR x p 0 142) := by unfold Hid GpR; rw [if_neg hp]; exact ⟨rfl, rfl⟩
  obtain ⟨W, hW⟩ : ∃ W, W = x.laid w := ⟨_, rfl⟩
  obtain ⟨C, hC⟩ : ∃ C, C = w.heap.size := ⟨_, rfl⟩
  have HO : Hid (One w x C N W) := by rw [hW, hC]; exact One.mk' hi hN
  have HC : Hid (Calls Try.prog 38 #[x.v, .int .i64 p] W fun e w' => e = .returned (.bool false) ∧ Keeps (fun _ => False) W w') := by
    have h := isPartition_any x p W
    rw [part_false hp] at h
    exact h
  clear hi hN hp
  go_enter Try.func29, Try.ntmps29
  go_wp2_with fail
  unfold Cfg.laid at hW
  rw [← hW, ← hC]
  clear hW hC
  refine HC.out.mono ?_
  rintro e w1 ⟨rfl, hK⟩
  have HO1 : Hid (One w x C N w1) := HO.out.kept hK
  clear hK HC
  go_wp2
  go_ret2
  exact ⟨0, 142, rfl, HR.out, HO1.out.keeps⟩

theorem gap_bad (x : Cfg) (p : Int) (w : World) (N : Nat) (hi : x.In w N) (hN : N ≤ w.heap.size) (hp : 0 ≤ p ∧ p < x.ps.length) (hf : fills x.major x.cs = false) :
    Calls Try.prog 29 #[x.v, .int .i64 p] w (GpP w x p) := by
  have HR : Hid (GpR x p 0 1) := by unfold Hid GpR; rw [if_pos hp, if_neg (by rw [hf]; simp)]; exact ⟨rfl, rfl⟩
  obtain ⟨W, hW⟩ : ∃ W, W = x.laid w := ⟨_, rfl⟩
  obtain ⟨C, hC⟩ : ∃ C, C = w.heap.size := ⟨_, rfl⟩
  have HO : Hid (One w x C N W) := by rw [hW, hC]; exact One.mk' hi hN
  have HC : Hid (Calls Try.prog 38 #[x.v, .int .i64 p] W fun e w' => e = .returned (.bool true) ∧ Keeps (fun _ => False) W w') := by
    have h := isPartition_any x p W
    rw [part_true hp] at h
    exact h
  have HF : Hid (fills x.major x.cs = false) := hf
  clear hi hN hp hf
  go_enter Try.func29, Try.ntmps29
  go_wp2_with fail
  unfold Cfg.laid at hW
  rw [← hW, ← hC]
  clear hW hC
  refine HC.out.mono ?_
  rintro e w1 ⟨rfl, hK⟩
  have HO1 : Hid (One w x C N w1) := HO.out.kept hK
  clear hK HC
  obtain ⟨c0, c1, c2, c3, c4, c5, c6⟩ := HO1.out.cells
  go_wp2_with fail
  refine (allFill_any x w1 N HO1.out.cin HO1.out.nn).mono ?_
  rw [HF.out]
  rintro e w2 ⟨rfl, hK⟩
  have HO2 : Hid (One w x C N w2) := HO1.out.kept hK
  clear hK c0 c1 c2 c3 c4 c5 c6
  go_wp2
  go_ret2
  exact ⟨0, 1, rfl, HR.out, HO2.out.keeps⟩

set_option maxHeartbeats 2000000 in
theorem gap_ok (x : Cfg) (p : Int) (w : World) (N : Nat) (hi : x.In w N) (hN : N ≤ w.heap.size) (hp : 0 ≤ p ∧ p < x.ps.length) (hf : fills x.major x.cs = true) (ht : tot x.cs x.cs.length ≤ 2147483647) :
    Calls Try.prog 29 #[x.v, .int .i64 p] w (GpP w x p) := by
  have hmj : 1 ≤ x.major ∧ x.major ≤ 16384 := by unfold fills at hf; simp at hf; exact hf.1
  have HR : Hid (∀ r e, GpL (pickAll p x.cs x.cs.length) x.major r e → GpR x p r e) := by intro r e h; unfold GpR; rw [if_pos hp, if_pos hf]; exact h
  obtain ⟨W, hW⟩ : ∃ W, W = x.laid w := ⟨_, rfl⟩
  obtain ⟨C, hC⟩ : ∃ C, C = w.heap.size := ⟨_, rfl⟩
  have HO : Hid (One w x C N W) := by rw [hW, hC]; exact One.mk' hi hN
  have HC : Hid (Calls Try.prog 38 #[x.v, .int .i64 p] W fun e w' => e = .returned (.bool true) ∧ Keeps (fun _ => False) W w') := by
    have h := isPartition_any x p W
    rw [part_true hp] at h
    exact h
  have HF : Hid (fills x.major x.cs = true ∧ tot x.cs x.cs.length ≤ 2147483647) := ⟨hf, ht⟩
  clear hi hN hp hf ht
  go_enter Try.func29, Try.ntmps29
  go_wp2_with fail
  unfold Cfg.laid at hW
  rw [← hW, ← hC]
  clear hW hC
  refine HC.out.mono ?_
  rintro e w1 ⟨rfl, hK⟩
  have HO1 : Hid (One w x C N w1) := HO.out.kept hK
  clear hK HC
  obtain ⟨c0, c1, c2, c3, c4, c5, c6⟩ := HO1.out.cells
  go_wp2_with fail
  refine (allFill_any x w1 N HO1.out.cin HO1.out.nn).mono ?_
  rw [HF.out.1]
  rintro e w2 ⟨rfl, hK⟩
  have HO2 : Hid (One w x C N w2) := HO1.out.kept hK
  clear hK c0 c1 c2 c3 c4 c5 c6
  obtain ⟨c0, c1, c2, c3, c4, c5, c6⟩ := HO2.out.cells
  go_wp2_with fail
  refine (spansOf_any x p w2 N HO2.out.cin HO2.out.nn (fills_may HF.out.1) HF.out.2).mono ?_
  rintro e w3 ⟨u, rfl, hRow, hK⟩
  obtain ⟨ad, cp, rfl, hLst⟩ := hRow.lst
  obtain ⟨l, hl⟩ : ∃ l, pickAll p x.cs x.cs.length = l := ⟨_, rfl⟩
  have hsm := fun i s => pickAll_small (p := p) (fills_may HF.out.1) (i := i) (s := s)
  have hso := fun i j a b => pickAll_sorted (p := p) (cs := x.cs) x.cs.length (i := i) (j := j) (a := a) (b := b)
  have hnt : l.length ≤ 2147483647 := by have h1 := pickAll_len p x.cs x.cs.length; have := HF.out.2; rw [hl] at h1; omega
  rw [hl] at hLst HR hsm hso ⊢
  obtain ⟨n, hn⟩ : ∃ n, l.length = n := ⟨_, rfl⟩
  have HU : Hid (l.length = n ∧ (∀ (i : Nat) (s : Spn), l[i]? = some s → 0 ≤ s.fr ∧ s.fr ≤ 524288 ∧ 0 ≤ s.til ∧ s.til ≤ 524288) ∧ (∀ (i j : Nat) (a b : Spn), i ≤ j → l[i]? = some a → l[j]? = some b → a.core ≤ b.core)) := ⟨hn, hsm, hso⟩
  have hcp : (n : Int) ≤ cp ∧ (cp : Int) ≤ 9223372036854775807 := by have := hLst.len; unfold maxLen at this; omega
  have HO3 : Hid (One w x C N w3 ∧ SegA Spn.vs 4 w3 ad l) := ⟨HO2.out.kept hK, hLst.seg⟩
  rw [hn] at hnt ⊢
  clear hK c0 c1 c2 c3 c4 c5 c6 hRow hLst hn hsm hso hl
  by_cases h0 : n = 0
  · subst h0
    have c1 := HO3.out.1.cells.2.1
    go_wp2
    go_ret2
    exact ⟨x.major, 0, rfl, HR.out _ _ (.inl ⟨List.eq_nil_of_length_eq_zero HU.out.1, rfl, rfl⟩), HO3.out.1.keeps⟩
  · have h0' : ((n : Int) == 0) = false := by simp; omega
    obtain ⟨a, ha⟩ : ∃ a, l[0]? = some a := ⟨_, List.getElem?_eq_getElem (by have := HU.out.1; omega)⟩
    obtain ⟨b, hb⟩ : ∃ b, l[n - 1]? = some b := ⟨_, List.getElem?_eq_getElem (by have := HU.out.1; omega)⟩
    have HAB : Hid (l[0]? = some a ∧ l[n - 1]? = some b) := ⟨ha, hb⟩
    obtain ⟨g, o, rfl, _⟩ := HO3.out.2.at ha
    have HSS : Hid (∀ w', Keeps (fun _ => False) w3 w' → w'.cell? ⟨g, o, none⟩ = some (.int .i64 a.core) ∧ w'.cell? ⟨g, o + 1, none⟩ = some (.int .i64 a.win) ∧ w'.cell? ⟨g, o + 2, none⟩ = some (.int .i64 a.fr) ∧ w'.cell? ⟨g, o + 3, none⟩ = some (.int .i64 a.til) ∧ w'.cell? ⟨g, o + (n - 1) * 4, none⟩ = some (.int .i64 b.core) ∧ w'.cell? ⟨g, o + (n - 1) * 4 + 1, none⟩ = some (.int .i64 b.win) ∧ w'.cell? ⟨g, o + (n - 1) * 4 + 2, none⟩ = some (.int .i64 b.fr) ∧ w'.cell? ⟨g, o + (n - 1) * 4 + 3, none⟩ = some (.int .i64 b.til)) := by
      intro w' hK
      have h1 := HO3.out.2.kept hK fun _ _ _ h => h
      obtain ⟨g1, o1, e1, h2⟩ := h1.at HAB.out.1
      cases e1
      obtain ⟨g1, o1, e1, h3⟩ := h1.at HAB.out.2
      cases e1
      have z0 := h2 0 _ rfl
      have z1 := h2 1 _ rfl
      have z2 := h2 2 _ rfl
      have z3 := h2 3 _ rfl
      have y0 := h3 0 _ rfl
      simp only [Nat.zero_mul, Nat.add_zero] at z0 z1 z2 z3 y0
      exact ⟨z0, z1, z2, z3, y0, h3 1 _ rfl, h3 2 _ rfl, h3 3 _ rfl⟩
    have hS0 := HSS.out w3.drew ((Keeps.refl _ _).drew)
    have hq : IntKind.i64.wrap ((n : Int) - 1) = (n : Int) - 1 := by rw [IntKind.wrap_i64]; omega
    have hq2 : ((n : Int) - 1).toNat = n - 1 := by omega
    have hx1 : (1 : Int) ≤ n := by omega
    have hx2 : ¬ ((n : Int) ≤ n - 1) := by omega
    have hx3 : (0 : Int) < n := by omega
    clear ha hb
    go_upto_region 8 with fail
    refine wp_region_held_drew (S := (fun w' => w'.cell? ⟨g, o, none⟩ = some (.int .i64 a.core) ∧ w'.cell? ⟨g, o + 1, none⟩ = some (.int .i64 a.win) ∧ w'.cell? ⟨g, o + 2, none⟩ = some (.int .i64 a.fr) ∧ w'.cell? ⟨g, o + 3, none⟩ = some (.int .i64 a.til) ∧ w'.cell? ⟨g, o + (n - 1) * 4, none⟩ = some (.int .i64 b.core) ∧ w'.cell? ⟨g, o + (n - 1) * 4 + 1, none⟩ = some (.int .i64 b.win) ∧ w'.cell? ⟨g, o + (n - 1) * 4 + 2, none⟩ = some (.int .i64 b.fr) ∧ w'.cell? ⟨g, o + (n - 1) * 4 + 3, none⟩ = some (.int .i64 b.til))) Try.mixed hS0 (fun hHeld => ?_)
    simp only [List.size_toArray, List.length_cons, List.length_nil, Nat.reduceAdd, Array.replicate_succ, Array.replicate_zero, List.push_toArray, List.append_toArray, List.nil_append, List.cons_append]
    refine wpAnyH_take (i := 0) (oi := { dst := some 27, op := Op.move (Operand.tmp 6), type := 44, pos := "plan.go:90", after := #[], guard := none }) (v := .slice (some ⟨g, o, none⟩) n cp) rfl (by kernel_rfl) (by kernel_rfl) (by kernel_rfl) (fun _ _ _ h => h) (Or.inl ⟨by kernel_rfl, by (intro w hSw; (try dsimp only at hSw); go_simp)⟩) hHeld ?_
    simp only [Act.put, List.setIfInBounds_toArray, List.set_cons_zero, List.set_cons_succ]
    refine wpAnyH_take (i := 1) (oi := { dst := some 28, op := Op.indexAddr 44 (Operand.tmp 27) (Operand.const (Value.int IntKind.i64 0)), type := 0, pos := "plan.go:90", after := #[{ on := 0, ground := Ground.data }], guard := none }) (v := .pointer (some ⟨g, o, none⟩)) rfl (by kernel_rfl) (by kernel_rfl) (by kernel_rfl) (fun _ _ _ h => h) (Or.inl ⟨by kernel_rfl, by (intro w hSw; (try dsimp only at hSw); go_simp)⟩) hHeld ?_
    simp only [Act.put, List.setIfInBounds_toArray, List.set_cons_zero, List.set_cons_succ]
    refine wpAnyH_take (i := 2) (oi := { dst := some 29, op := Op.load 69 (Operand.tmp 28), type := 69, pos := "plan.go:90", after := #[{ on := 1, ground := Ground.data }], guard := none }) (v := .agg #[.int .i64 a.core, .int .i64 a.win, .int .i64 a.fr, .int .i64 a.til]) rfl (by kernel_rfl) (by kernel_rfl) (by kernel_rfl) (fun _ _ _ h => h) (Or.inl ⟨by kernel_rfl, by (intro w hSw; (try dsimp only at hSw); go_simp)⟩) hHeld ?_
    simp only [Act.put, List.setIfInBounds_toArray, List.set_cons_zero, List.set_cons_succ]
    refine wpAnyH_take (i := 3) (oi := { dst := some 30, op := Op.move (Operand.tmp 6), type := 44, pos := "plan.go:90", after := #[{ on := 11, ground := Ground.gcOnly Departure.lateStores }], guard := none }) (v := .slice (some ⟨g, o, none⟩) n cp) rfl (by kernel_rfl) (by kernel_rfl) (by kernel_rfl) (fun _ _ _ h => h) (Or.inl ⟨by kernel_rfl, by (intro w hSw; (try dsimp only at hSw); go_simp)⟩) hHeld ?_
    simp only [Act.put, List.setIfInBounds_toArray, List.set_cons_zero, List.set_cons_succ]
    refine wpAnyH_take (i := 4) (oi := { dst := some 31, op := Op.move (Operand.tmp 6), type := 44, pos := "plan.go:90", after := #[], guard := none }) (v := .slice (some ⟨g, o, none⟩) n cp) rfl (by kernel_rfl) (by kernel_rfl) (by kernel_rfl) (fun _ _ _ h => h) (Or.inl ⟨by kernel_rfl, by (intro w hSw; (try dsimp only at hSw); go_simp)⟩) hHeld ?_
    simp only [Act.put, List.setIfInBounds_toArray, List.set_cons_zero, List.set_cons_succ]
    refine wpAnyH_take (i := 5) (oi := { dst := some 32, op := Op.call { callee := Callee.builtin Builtin.len, args := #[Operand.tmp 31], argTypes := #[44] }, type := 3, pos := "plan.go:90", after := #[{ on := 4, ground := Ground.data }], guard := none }) (v := .int .i64 n) rfl (by kernel_rfl) (by kernel_rfl) (by kernel_rfl) (fun _ _ _ h => h) (Or.inl ⟨by kernel_rfl, by (intro w hSw; (try dsimp only at hSw); go_simp)⟩) hHeld ?_
    simp only [Act.put, List.setIfInBounds_toArray, List.set_cons_zero, List.set_cons_succ]
    refine wpAnyH_take (i := 6) (oi := { dst := some 33, op := Op.binOp BinOp.sub 3 (Operand.tmp 32) (Operand.const (Value.int IntKind.i64 1)) 3, type := 3, pos := "plan.go:90", after := #[{ on := 5, ground := Ground.data }, { on := 11, ground := Ground.gcOnly Departure.lateStores }], guard := none }) (v := .int .i64 ((n : Int) - 1)) rfl (by kernel_rfl) (by kernel_rfl) (by kernel_rfl) (fun _ _ _ h => h) (Or.inl ⟨by kernel_rfl, by (intro w hSw; (try dsimp only at hSw); go_simp)⟩) hHeld ?_
    simp only [Act.put, List.setIfInBounds_toArray, List.set_cons_zero, List.set_cons_succ]
    refine wpAnyH_take (i := 7) (oi := { dst := some 34, op := Op.indexAddr 44 (Operand.tmp 30) (Operand.tmp 33), type := 0, pos := "plan.go:90", after := #[{ on := 3, ground := Ground.data }, { on := 6, ground := Ground.data }, { on := 11, ground := Ground.gcOnly Departure.lateStores }], guard := none }) (v := .pointer (some ⟨g, o + (n - 1) * 4, none⟩)) rfl (by kernel_rfl) (by kernel_rfl) (by kernel_rfl) (fun _ _ _ h => h) (Or.inl ⟨by kernel_rfl, by (intro w hSw; (try dsimp only at hSw); go_simp)⟩) hHeld ?_
    simp only [Act.put, List.setIfInBounds_toArray, List.set_cons_zero, List.set_cons_succ]
    refine wpAnyH_take (i := 8) (oi := { dst := some 35, op := Op.load 69 (Operand.tmp 34), type := 69, pos := "plan.go:90", after := #[{ on := 7, ground := Ground.data }, { on := 11, ground := Ground.gcOnly Departure.lateStores }], guard := none }) (v := .agg #[.int .i64 b.core, .int .i64 b.win, .int .i64 b.fr, .int .i64 b.til]) rfl (by kernel_rfl) (by kernel_rfl) (by kernel_rfl) (fun _ _ _ h => h) (Or.inl ⟨by kernel_rfl, by (intro w hSw; (try dsimp only at hSw); go_simp)⟩) hHeld ?_
    simp only [Act.put, List.setIfInBounds_toArray, List.set_cons_zero, List.set_cons_succ]
    refine wpAnyH_ready (rs := [9, 10]) (by kernel_rfl) (by simp) ?_
    refine AllReadyH.cons (o := { dst := some 7, op := Op.alloc 69, type := 0, pos := "plan.go:90", after := #[], guard := none }) rfl (fun K hK => ?_) (AllReadyH.cons (o := { dst := some 8, op := Op.alloc 69, type := 0, pos := "plan.go:90", after := #[], guard := none }) rfl (fun K hK => ?_) AllReadyH.nil)
    · go_simp
      have hS1 := HSS.out (w3.drew.alloc (.cells #[.int .i64 0, .int .i64 0, .int .i64 0, .int .i64 0] 69)) (((Keeps.refl _ _).drew).alloc _)
      refine hK.out _ _ hS1 (fun hHeld => ?_)
      simp only [Act.put, List.setIfInBounds_toArray, List.set_cons_zero, List.set_cons_succ]
      refine wpAnyH_ready (rs := [10]) (by kernel_rfl) (by simp) ?_
      refine AllReadyH.cons (o := { dst := some 8, op := Op.alloc 69, type := 0, pos := "plan.go:90", after := #[], guard := none }) rfl (fun K hK => ?_) AllReadyH.nil
      go_simp
      have hS2 := HSS.out ((w3.drew.alloc (.cells #[.int .i64 0, .int .i64 0, .int .i64 0, .int .i64 0] 69)).alloc (.cells #[.int .i64 0, .int .i64 0, .int .i64 0, .int .i64 0] 69)) ((((Keeps.refl _ _).drew).alloc _).alloc _)
      refine hK.out _ _ hS2 (fun hHeld => ?_)
      simp only [Act.put, List.setIfInBounds_toArray, List.set_cons_zero, List.set_cons_succ]
      obtain ⟨D, hD⟩ : ∃ D, D = w3.heap.size := ⟨_, rfl⟩
      obtain ⟨W2, hW2⟩ : ∃ W2, W2 = ((w3.alloc (.cells #[.int .i64 0, .int .i64 0, .int .i64 0, .int .i64 0] 69)).alloc (.cells #[.int .i64 0, .int .i64 0, .int .i64 0, .int .i64 0] 69)).drew := ⟨_, rfl⟩
      have hd0 : Blk W2 D #[.int .i64 0, .int .i64 0, .int .i64 0, .int .i64 0].toList 69 := by rw [hW2, hD]; exact ((Blk.new w3 _ _).alloc _).drew
      have hd1 : Blk W2 (D + 1) #[.int .i64 0, .int .i64 0, .int .i64 0, .int .i64 0].toList 69 := by
        have := (Blk.new (w3.alloc (.cells #[.int .i64 0, .int .i64 0, .int .i64 0, .int .i64 0] 69)) #[.int .i64 0, .int .i64 0, .int .i64 0, .int .i64 0] 69).drew
        rw [show (w3.alloc (.cells #[.int .i64 0, .int .i64 0, .int .i64 0, .int .i64 0] 69)).heap.size = w3.heap.size + 1 from by simp] at this
        rw [hW2, hD]; exact this
      have hK2 : Keeps (fun _ => False) w3 W2 := by rw [hW2]; exact (((Keeps.refl _ _).alloc _).alloc _).drew
      have hDw : w.heap.size ≤ D := by rw [hD]; exact HO3.out.1.keeps.size
      have hD3 : w3.heap.size ≤ D := by rw [hD]; exact Nat.le_refl _
      rw [← hW2, ← hD]
      have HD : Hid (w3.heap.size ≤ D) := hD3
      clear hW2 hD hS1 hS2 hS0 hD3
      refine wpAnyH_ready (rs := [11]) (by kernel_rfl) (by simp) ?_
      refine AllReadyH.cons (o := { dst := none, op := Op.store 69 (Operand.tmp 7) (Operand.tmp 29), type := 0, pos := "plan.go:90", after := #[{ on := 9, ground := Ground.data }, { on := 2, ground := Ground.data }, { on := 0, ground := Ground.phase }, { on := 1, ground := Ground.phase }, { on := 2, ground := Ground.phase }, { on := 3, ground := Ground.textOnly Departure.lateStores }, { on := 4, ground := Ground.textOnly Departure.lateStores }, { on := 5, ground := Ground.textOnly Departure.lateStoresUnsure }, { on := 6, ground := Ground.textOnly Departure.lateStores }, { on := 7, ground := Ground.textOnly Departure.lateStores }, { on := 8, ground := Ground.textOnly Departure.lateStores }, { on := 9, ground := Ground.phase }, { on := 10, ground := Ground.phase }], guard := none }) rfl (fun K hK => ?_) AllReadyH.nil
      rw [if_pos (by rfl)]
      refine wp_store_row 69 _ _ rfl (D) #[.int .i64 a.core, .int .i64 a.win, .int .i64 a.fr, .int .i64 a.til] (by rfl) (by rfl) 69 _ hd0 Try.size69 rfl (all4 ..) ?_
      have hS3 := HSS.out (W2.setRow (D) #[.int .i64 a.core, .int .i64 a.win, .int .i64 a.fr, .int .i64 a.til]) (hK2.setRow _ _ fun h => absurd h (by have := HD.out; omega))
      refine hK.out _ _ hS3 (fun hHeld => ?_)
      simp only [Act.put, List.setIfInBounds_toArray, List.set_cons_zero, List.set_cons_succ]
      refine wpAnyH_ready (rs := [12]) (by kernel_rfl) (by simp) ?_
      refine AllReadyH.cons (o := { dst := none, op := Op.store 69 (Operand.tmp 8) (Operand.tmp 35), type := 0, pos := "plan.go:90", after := #[{ on := 10, ground := Ground.data }, { on := 8, ground := Ground.data }, { on := 11, ground := Ground.chain }, { on := 0, ground := Ground.phase }, { on := 1, ground := Ground.phase }, { on := 2, ground := Ground.phase }, { on := 3, ground := Ground.phase }, { on := 4, ground := Ground.phase }, { on := 5, ground := Ground.phase }, { on := 6, ground := Ground.phase }, { on := 7, ground := Ground.phase }, { on := 8, ground := Ground.phase }, { on := 9, ground := Ground.phase }, { on := 10, ground := Ground.phase }, { on := 11, ground := Ground.phase }], guard := none }) rfl (fun K hK => ?_) AllReadyH.nil
      rw [if_pos (by rfl)]
      refine wp_store_row 69 _ _ rfl (D + 1) #[.int .i64 b.core, .int .i64 b.win, .int .i64 b.fr, .int .i64 b.til] (by rfl) (by rfl) 69 _ (Blk.setRow_ne hd1 (by omega) _) Try.size69 rfl (all4 ..) ?_
      have hS4 := HSS.out ((W2.setRow (D) #[.int .i64 a.core, .int .i64 a.win, .int .i64 a.fr, .int .i64 a.til]).setRow (D + 1) #[.int .i64 b.core, .int .i64 b.win, .int .i64 b.fr, .int .i64 b.til]) ((hK2.setRow _ _ fun h => absurd h (by have := HD.out; omega)).setRow _ _ fun h => absurd h (by have := HD.out; omega))
      refine hK.out _ _ hS4 (fun hHeld => ?_)
      simp only [Act.put, List.setIfInBounds_toArray, List.set_cons_zero, List.set_cons_succ]
      refine wpAnyH_done (by kernel_rfl) ?_ _
      obtain ⟨W4, hW4⟩ : ∃ W4, W4 = (W2.setRow (D) #[.int .i64 a.core, .int .i64 a.win, .int .i64 a.fr, .int .i64 a.til]).setRow (D + 1) #[.int .i64 b.core, .int .i64 b.win, .int .i64 b.fr, .int .i64 b.til] := ⟨_, rfl⟩
      have HW4 : Hid (Blk W4 (D) a.vs 69 ∧ Blk W4 (D + 1) b.vs 69 ∧ Keeps (fun _ => False) w3 W4) := by
        rw [hW4]
        exact ⟨(hd0.setRow a.vs).setRow_ne (by omega) _, (Blk.setRow_ne hd1 (by omega) _).setRow b.vs, (hK2.setRow _ _ fun h => absurd h (by have := HD.out; omega)).setRow _ _ fun h => absurd h (by have := HD.out; omega)⟩
      rw [← hW4]
      clear hW4 hS3 hS4 hd0 hd1 hK2 hHeld hK
      obtain ⟨PB, hPB⟩ : ∃ PB, D + 1 = PB := ⟨_, rfl⟩
      rw [hPB] at HW4 ⊢
      clear hPB HD hDw
      have HO4 : Hid (One w x C N W4 ∧ SegA Spn.vs 4 W4 (some ⟨g, o, none⟩) l) := ⟨HO3.out.1.kept HW4.out.2.2, HO3.out.2.kept HW4.out.2.2 fun _ _ _ h => h⟩
      have c1 := HO4.out.1.cells.2.1
      have d0 := HW4.out.1.cell (i := 0) rfl
      have d2 := HW4.out.1.cell (i := 2) rfl
      have b0 := HW4.out.2.1.cell (i := 0) rfl
      have b3 := HW4.out.2.1.cell (i := 3) rfl
      have hsa := HU.out.2.1 0 a HAB.out.1
      have hsb := HU.out.2.1 (n - 1) b HAB.out.2
      clear HO3
      by_cases hab : a.core = b.core
      · have hab' : (a.core != b.core) = false := by simp [hab]
        have q1 : IntKind.i64.wrap (a.fr + x.major) = a.fr + x.major := by rw [IntKind.wrap_i64]; omega
        have q2 : IntKind.i64.wrap (a.fr + x.major - b.til) = a.fr + x.major - b.til := by rw [IntKind.wrap_i64]; omega
        obtain ⟨G0, hG0⟩ : ∃ G0, a.fr + x.major - b.til = G0 := ⟨_, rfl⟩
        have HG : Hid (∀ r, r = gapL l G0 n → GpL l x.major r 0) := by
          intro r hr
          exact .inr ⟨a, b, HAB.out.1, by rw [HU.out.1]; exact HAB.out.2, .inl ⟨hab, by rw [hG0, HU.out.1]; exact hr, rfl⟩⟩
        have HG0 : Hid (a.fr + x.major - b.til = G0) := hG0
        clear hab hG0
        go_upto_region 12 with fail
        rw [HG0.out]
        clear c1 d0 d2 b0 b3 q1 q2
        by_cases hn1 : n = 1
        · subst hn1
          have HG1 : Hid (GpL l x.major G0 0) := HG.out G0 rfl
          by_cases hc1 : cp = 1
          · subst hc1
            go_wp2
            go_loopw [9, 52] (fun z i wr => z = .int .i64 G0 ∧ i = .int .i64 0 ∧ One w x C N wr) (fun _ _ _ => 0)
            case atStart => exact ⟨rfl, rfl, HO4.out.1⟩
            case round =>
              obtain ⟨rfl, rfl, hO⟩ := hrel
              have HO5 : Hid (One w x C N wr) := hO
              clear hO
              go_wp2
              go_ret2
              exact ⟨G0, 0, rfl, HR.out _ _ HG1.out, HO5.out.keeps⟩
          · go_wp2
            go_loopw [9, 52] (fun z i wr => z = .int .i64 G0 ∧ i = .int .i64 0 ∧ One w x C N wr) (fun _ _ _ => 0)
            case atStart => exact ⟨rfl, rfl, HO4.out.1⟩
            case round =>
              obtain ⟨rfl, rfl, hO⟩ := hrel
              have HO5 : Hid (One w x C N wr) := hO
              clear hO
              go_wp2
              go_ret2
              exact ⟨G0, 0, rfl, HR.out _ _ HG1.out, HO5.out.keeps⟩
        · go_wp2
          go_loopw [9, 52] (fun z i wr => ∃ j : Nat, j ≤ n - 1 ∧ i = .int .i64 j ∧ z = .int .i64 (gapL l G0 (j + 1)) ∧ One w x C N wr ∧ SegA Spn.vs 4 wr (some ⟨g, o, none⟩) l) (fun _ i _ => n - 1 - (intOf i).toNat)
          case atStart => exact ⟨0, by omega, rfl, rfl, HO4.out.1, HO4.out.2⟩
          case round =>
            obtain ⟨j, hj, rfl, rfl, hO, hS⟩ := hrel
            clear HO4
            obtain ⟨M, hM⟩ : ∃ M, gapL l G0 (j + 1) = M := ⟨_, rfl⟩
            rw [hM]
            by_cases hlt : j < n - 1
            · obtain ⟨c, hc⟩ : ∃ c, l[j]? = some c := ⟨_, List.getElem?_eq_getElem (by have := HU.out.1; omega)⟩
              obtain ⟨d, hd⟩ : ∃ d, l[j + 1]? = some d := ⟨_, List.getElem?_eq_getElem (by have := HU.out.1; omega)⟩
              have hsc := HU.out.2.1 j c hc
              have hsd := HU.out.2.1 (j + 1) d hd
              have HN : Hid (gapL l G0 (j + 2) = max M (d.fr - c.til)) := by
                show max (gapL l G0 (j + 1)) ((l[j + 1]?.getD ⟨0, 0, 0, 0⟩).fr - (l[j]?.getD ⟨0, 0, 0, 0⟩).til) = _
                rw [hM, hc, hd]; rfl
              obtain ⟨g1, o1, e1, h1⟩ := hS.at hd
              cases e1
              have s0 := h1 0 _ rfl
              have s1 := h1 1 _ rfl
              have s2 := h1 2 _ rfl
              have s3 := h1 3 _ rfl
              rw [show o + (j + 1) * 4 = o + 4 + j * 4 from by omega] at s0 s1 s2 s3
              rw [Nat.add_zero] at s0
              obtain ⟨W5, hW5⟩ : ∃ W5, W5 = wr.alloc (.cells #[.int .i64 d.core, .int .i64 d.win, .int .i64 d.fr, .int .i64 d.til] 69) := ⟨_, rfl⟩
              obtain ⟨E, hE⟩ : ∃ E, E = wr.heap.size := ⟨_, rfl⟩
              have HW5 : Hid (Blk W5 E d.vs 69 ∧ One w x C N W5 ∧ SegA Spn.vs 4 W5 (some ⟨g, o, none⟩) l ∧ l[j]? = some c) := by
                rw [hW5, hE]; exact ⟨Blk.new _ _ _, hO.kept ((Keeps.refl _ _).alloc _), hS.kept ((Keeps.refl (fun _ => False) _).alloc _) (fun _ _ _ h => h), hc⟩
              have q3 : IntKind.i64.wrap (d.fr - c.til) = d.fr - c.til := by rw [IntKind.wrap_i64]; omega
              have hj1 : (j : Int) < ((n - 1 : Nat) : Int) := by omega
              have hj2 : (j : Int) < n := by omega
              clear hO hS hc hd h1 hM
              go_upto_region 15 with fail
              rw [← hW5, ← hE]
              clear hW5 hE s0 s1 s2 s3
              have t2 := HW5.out.1.cell (i := 2) rfl
              obtain ⟨g1, o1, e1, h1⟩ := HW5.out.2.2.1.at HW5.out.2.2.2
              cases e1
              have t3 := h1 3 _ rfl
              clear h1
              go_quiet (fail)
              clear t2 t3
              go_wp2
              go_roundw
              case rel => exact ⟨j + 1, by omega, by go_num, by rw [HN.out]; congr 1; split <;> omega, HW5.out.2.1.kept ((Keeps.refl _ _).drewN _), HW5.out.2.2.1.kept ((Keeps.refl (fun _ => False) _).drewN _) (fun _ _ _ h => h)⟩
              case measure => simp [intOf]; omega
            · have hjn : j + 1 = n := by omega
              have HM : Hid (gapL l G0 n = M) := by rw [← hjn]; exact hM
              have hlt' : ¬ (j : Int) < ((n - 1 : Nat) : Int) := by omega
              have HO5 : Hid (One w x C N wr) := hO
              clear hO hS hM
              go_wp2
              go_ret2
              exact ⟨M, 0, rfl, HR.out _ _ (HG.out M HM.out.symm), HO5.out.keeps⟩
      · have hab' : (a.core != b.core) = true := by simp [hab]
        have HG : Hid (GpL l x.major 0 1) := .inr ⟨a, b, HAB.out.1, by rw [HU.out.1]; exact HAB.out.2, .inr ⟨hab, rfl, rfl⟩⟩
        clear hab
        go_wp2
        go_ret2
        exact ⟨0, 1, rfl, HR.out _ _ HG.out, HO4.out.1.keeps⟩
    · go_simp
      have hS1 := HSS.out (w3.drew.alloc (.cells #[.int .i64 0, .int .i64 0, .int .i64 0, .int .i64 0] 69)) (((Keeps.refl _ _).drew).alloc _)
      refine hK.out _ _ hS1 (fun hHeld => ?_)
      simp only [Act.put, List.setIfInBounds_toArray, List.set_cons_zero, List.set_cons_succ]
      refine wpAnyH_ready (rs := [9]) (by kernel_rfl) (by simp) ?_
      refine AllReadyH.cons (o := { dst := some 7, op := Op.alloc 69, type := 0, pos := "plan.go:90", after := #[], guard := none }) rfl (fun K hK => ?_) AllReadyH.nil
      go_simp
      have hS2 := HSS.out ((w3.drew.alloc (.cells #[.int .i64 0, .int .i64 0, .int .i64 0, .int .i64 0] 69)).alloc (.cells #[.int .i64 0, .int .i64 0, .int .i64 0, .int .i64 0] 69)) ((((Keeps.refl _ _).drew).alloc _).alloc _)
      refine hK.out _ _ hS2 (fun hHeld => ?_)
      simp only [Act.put, List.setIfInBounds_toArray, List.set_cons_zero, List.set_cons_succ]
      obtain ⟨D, hD⟩ : ∃ D, D = w3.heap.size := ⟨_, rfl⟩
      obtain ⟨W2, hW2⟩ : ∃ W2, W2 = ((w3.alloc (.cells #[.int .i64 0, .int .i64 0, .int .i64 0, .int .i64 0] 69)).alloc (.cells #[.int .i64 0, .int .i64 0, .int .i64 0, .int .i64 0] 69)).drew := ⟨_, rfl⟩
      have hd0 : Blk W2 D #[.int .i64 0, .int .i64 0, .int .i64 0, .int .i64 0].toList 69 := by rw [hW2, hD]; exact ((Blk.new w3 _ _).alloc _).drew
      have hd1 : Blk W2 (D + 1) #[.int .i64 0, .int .i64 0, .int .i64 0, .int .i64 0].toList 69 := by
        have := (Blk.new (w3.alloc (.cells #[.int .i64 0, .int .i64 0, .int .i64 0, .int .i64 0] 69)) #[.int .i64 0, .int .i64 0, .int .i64 0, .int .i64 0] 69).drew
        rw [show (w3.alloc (.cells #[.int .i64 0, .int .i64 0, .int .i64 0, .int .i64 0] 69)).heap.size = w3.heap.size + 1 from by simp] at this
        rw [hW2, hD]; exact this
      have hK2 : Keeps (fun _ => False) w3 W2 := by rw [hW2]; exact (((Keeps.refl _ _).alloc _).alloc _).drew
      have hDw : w.heap.size ≤ D := by rw [hD]; exact HO3.out.1.keeps.size
      have hD3 : w3.heap.size ≤ D := by rw [hD]; exact Nat.le_refl _
      rw [← hW2, ← hD]
      have HD : Hid (w3.heap.size ≤ D) := hD3
      clear hW2 hD hS1 hS2 hS0 hD3
      refine wpAnyH_ready (rs := [11]) (by kernel_rfl) (by simp) ?_
      refine AllReadyH.cons (o := { dst := none, op := Op.store 69 (Operand.tmp 7) (Operand.tmp 29), type := 0, pos := "plan.go:90", after := #[{ on := 9, ground := Ground.data }, { on := 2, ground := Ground.data }, { on := 0, ground := Ground.phase }, { on := 1, ground := Ground.phase }, { on := 2, ground := Ground.phase }, { on := 3, ground := Ground.textOnly Departure.lateStores }, { on := 4, ground := Ground.textOnly Departure.lateStores }, { on := 5, ground := Ground.textOnly Departure.lateStoresUnsure }, { on := 6, ground := Ground.textOnly Departure.lateStores }, { on := 7, ground := Ground.textOnly Departure.lateStores }, { on := 8, ground := Ground.textOnly Departure.lateStores }, { on := 9, ground := Ground.phase }, { on := 10, ground := Ground.phase }], guard := none }) rfl (fun K hK => ?_) AllReadyH.nil
      rw [if_pos (by rfl)]
      refine wp_store_row 69 _ _ rfl (D + 1) #[.int .i64 a.core, .int .i64 a.win, .int .i64 a.fr, .int .i64 a.til] (by rfl) (by rfl) 69 _ hd1 Try.size69 rfl (all4 ..) ?_
      have hS3 := HSS.out (W2.setRow (D + 1) #[.int .i64 a.core, .int .i64 a.win, .int .i64 a.fr, .int .i64 a.til]) (hK2.setRow _ _ fun h => absurd h (by have := HD.out; omega))
      refine hK.out _ _ hS3 (fun hHeld => ?_)
      simp only [Act.put, List.setIfInBounds_toArray, List.set_cons_zero, List.set_cons_succ]
      refine wpAnyH_ready (rs := [12]) (by kernel_rfl) (by simp) ?_
      refine AllReadyH.cons (o := { dst := none, op := Op.store 69 (Operand.tmp 8) (Operand.tmp 35), type := 0, pos := "plan.go:90", after := #[{ on := 10, ground := Ground.data }, { on := 8, ground := Ground.data }, { on := 11, ground := Ground.chain }, { on := 0, ground := Ground.phase }, { on := 1, ground := Ground.phase }, { on := 2, ground := Ground.phase }, { on := 3, ground := Ground.phase }, { on := 4, ground := Ground.phase }, { on := 5, ground := Ground.phase }, { on := 6, ground := Ground.phase }, { on := 7, ground := Ground.phase }, { on := 8, ground := Ground.phase }, { on := 9, ground := Ground.phase }, { on := 10, ground := Ground.phase }, { on := 11, ground := Ground.phase }], guard := none }) rfl (fun K hK => ?_) AllReadyH.nil
      rw [if_pos (by rfl)]
      refine wp_store_row 69 _ _ rfl (D) #[.int .i64 b.core, .int .i64 b.win, .int .i64 b.fr, .int .i64 b.til] (by rfl) (by rfl) 69 _ (Blk.setRow_ne hd0 (by omega) _) Try.size69 rfl (all4 ..) ?_
      have hS4 := HSS.out ((W2.setRow (D + 1) #[.int .i64 a.core, .int .i64 a.win, .int .i64 a.fr, .int .i64 a.til]).setRow (D) #[.int .i64 b.core, .int .i64 b.win, .int .i64 b.fr, .int .i64 b.til]) ((hK2.setRow _ _ fun h => absurd h (by have := HD.out; omega)).setRow _ _ fun h => absurd h (by have := HD.out; omega))
      refine hK.out _ _ hS4 (fun hHeld => ?_)
      simp only [Act.put, List.setIfInBounds_toArray, List.set_cons_zero, List.set_cons_succ]
      refine wpAnyH_done (by kernel_rfl) ?_ _
      obtain ⟨W4, hW4⟩ : ∃ W4, W4 = (W2.setRow (D + 1) #[.int .i64 a.core, .int .i64 a.win, .int .i64 a.fr, .int .i64 a.til]).setRow (D) #[.int .i64 b.core, .int .i64 b.win, .int .i64 b.fr, .int .i64 b.til] := ⟨_, rfl⟩
      have HW4 : Hid (Blk W4 (D + 1) a.vs 69 ∧ Blk W4 (D) b.vs 69 ∧ Keeps (fun _ => False) w3 W4) := by
        rw [hW4]
        exact ⟨(hd1.setRow a.vs).setRow_ne (by omega) _, (Blk.setRow_ne hd0 (by omega) _).setRow b.vs, (hK2.setRow _ _ fun h => absurd h (by have := HD.out; omega)).setRow _ _ fun h => absurd h (by have := HD.out; omega)⟩
      rw [← hW4]
      clear hW4 hS3 hS4 hd0 hd1 hK2 hHeld hK
      obtain ⟨PB, hPB⟩ : ∃ PB, D + 1 = PB := ⟨_, rfl⟩
      rw [hPB] at HW4 ⊢
      clear hPB HD hDw
      have HO4 : Hid (One w x C N W4 ∧ SegA Spn.vs 4 W4 (some ⟨g, o, none⟩) l) := ⟨HO3.out.1.kept HW4.out.2.2, HO3.out.2.kept HW4.out.2.2 fun _ _ _ h => h⟩
      have c1 := HO4.out.1.cells.2.1
      have d0 := HW4.out.1.cell (i := 0) rfl
      have d2 := HW4.out.1.cell (i := 2) rfl
      have b0 := HW4.out.2.1.cell (i := 0) rfl
      have b3 := HW4.out.2.1.cell (i := 3) rfl
      have hsa := HU.out.2.1 0 a HAB.out.1
      have hsb := HU.out.2.1 (n - 1) b HAB.out.2
      clear HO3
      by_cases hab : a.core = b.core
      · have hab' : (a.core != b.core) = false := by simp [hab]
        have q1 : IntKind.i64.wrap (a.fr + x.major) = a.fr + x.major := by rw [IntKind.wrap_i64]; omega
        have q2 : IntKind.i64.wrap (a.fr + x.major - b.til) = a.fr + x.major - b.til := by rw [IntKind.wrap_i64]; omega
        obtain ⟨G0, hG0⟩ : ∃ G0, a.fr + x.major - b.til = G0 := ⟨_, rfl⟩
        have HG : Hid (∀ r, r = gapL l G0 n → GpL l x.major r 0) := by
          intro r hr
          exact .inr ⟨a, b, HAB.out.1, by rw [HU.out.1]; exact HAB.out.2, .inl ⟨hab, by rw [hG0, HU.out.1]; exact hr, rfl⟩⟩
        have HG0 : Hid (a.fr + x.major - b.til = G0) := hG0
        clear hab hG0
        go_upto_region 12 with fail
        rw [HG0.out]
        clear c1 d0 d2 b0 b3 q1 q2
        by_cases hn1 : n = 1
        · subst hn1
          have HG1 : Hid (GpL l x.major G0 0) := HG.out G0 rfl
          by_cases hc1 : cp = 1
          · subst hc1
            go_wp2
            go_loopw [9, 52] (fun z i wr => z = .int .i64 G0 ∧ i = .int .i64 0 ∧ One w x C N wr) (fun _ _ _ => 0)
            case atStart => exact ⟨rfl, rfl, HO4.out.1⟩
            case round =>
              obtain ⟨rfl, rfl, hO⟩ := hrel
              have HO5 : Hid (One w x C N wr) := hO
              clear hO
              go_wp2
              go_ret2
              exact ⟨G0, 0, rfl, HR.out _ _ HG1.out, HO5.out.keeps⟩
          · go_wp2
            go_loopw [9, 52] (fun z i wr => z = .int .i64 G0 ∧ i = .int .i64 0 ∧ One w x C N wr) (fun _ _ _ => 0)
            case atStart => exact ⟨rfl, rfl, HO4.out.1⟩
            case round =>
              obtain ⟨rfl, rfl, hO⟩ := hrel
              have HO5 : Hid (One w x C N wr) := hO
              clear hO
              go_wp2
              go_ret2
              exact ⟨G0, 0, rfl, HR.out _ _ HG1.out, HO5.out.keeps⟩
        · go_wp2
          go_loopw [9, 52] (fun z i wr => ∃ j : Nat, j ≤ n - 1 ∧ i = .int .i64 j ∧ z = .int .i64 (gapL l G0 (j + 1)) ∧ One w x C N wr ∧ SegA Spn.vs 4 wr (some ⟨g, o, none⟩) l) (fun _ i _ => n - 1 - (intOf i).toNat)
          case atStart => exact ⟨0, by omega, rfl, rfl, HO4.out.1, HO4.out.2⟩
          case round =>
            obtain ⟨j, hj, rfl, rfl, hO, hS⟩ := hrel
            clear HO4
            obtain ⟨M, hM⟩ : ∃ M, gapL l G0 (j + 1) = M := ⟨_, rfl⟩
            rw [hM]
            by_cases hlt : j < n - 1
            · obtain ⟨c, hc⟩ : ∃ c, l[j]? = some c := ⟨_, List.getElem?_eq_getElem (by have := HU.out.1; omega)⟩
              obtain ⟨d, hd⟩ : ∃ d, l[j + 1]? = some d := ⟨_, List.getElem?_eq_getElem (by have := HU.out.1; omega)⟩
              have hsc := HU.out.2.1 j c hc
              have hsd := HU.out.2.1 (j + 1) d hd
              have HN : Hid (gapL l G0 (j + 2) = max M (d.fr - c.til)) := by
                show max (gapL l G0 (j + 1)) ((l[j + 1]?.getD ⟨0, 0, 0, 0⟩).fr - (l[j]?.getD ⟨0, 0, 0, 0⟩).til) = _
                rw [hM, hc, hd]; rfl
              obtain ⟨g1, o1, e1, h1⟩ := hS.at hd
              cases e1
              have s0 := h1 0 _ rfl
              have s1 := h1 1 _ rfl
              have s2 := h1 2 _ rfl
              have s3 := h1 3 _ rfl
              rw [show o + (j + 1) * 4 = o + 4 + j * 4 from by omega] at s0 s1 s2 s3
              rw [Nat.add_zero] at s0
              obtain ⟨W5, hW5⟩ : ∃ W5, W5 = wr.alloc (.cells #[.int .i64 d.core, .int .i64 d.win, .int .i64 d.fr, .int .i64 d.til] 69) := ⟨_, rfl⟩
              obtain ⟨E, hE⟩ : ∃ E, E = wr.heap.size := ⟨_, rfl⟩
              have HW5 : Hid (Blk W5 E d.vs 69 ∧ One w x C N W5 ∧ SegA Spn.vs 4 W5 (some ⟨g, o, none⟩) l ∧ l[j]? = some c) := by
                rw [hW5, hE]; exact ⟨Blk.new _ _ _, hO.kept ((Keeps.refl _ _).alloc _), hS.kept ((Keeps.refl (fun _ => False) _).alloc _) (fun _ _ _ h => h), hc⟩
              have q3 : IntKind.i64.wrap (d.fr - c.til) = d.fr - c.til := by rw [IntKind.wrap_i64]; omega
              have hj1 : (j : Int) < ((n - 1 : Nat) : Int) := by omega
              have hj2 : (j : Int) < n := by omega
              clear hO hS hc hd h1 hM
              go_upto_region 15 with fail
              rw [← hW5, ← hE]
              clear hW5 hE s0 s1 s2 s3
              have t2 := HW5.out.1.cell (i := 2) rfl
              obtain ⟨g1, o1, e1, h1⟩ := HW5.out.2.2.1.at HW5.out.2.2.2
              cases e1
              have t3 := h1 3 _ rfl
              clear h1
              go_quiet (fail)
              clear t2 t3
              go_wp2
              go_roundw
              case rel => exact ⟨j + 1, by omega, by go_num, by rw [HN.out]; congr 1; split <;> omega, HW5.out.2.1.kept ((Keeps.refl _ _).drewN _), HW5.out.2.2.1.kept ((Keeps.refl (fun _ => False) _).drewN _) (fun _ _ _ h => h)⟩
              case measure => simp [intOf]; omega
            · have hjn : j + 1 = n := by omega
              have HM : Hid (gapL l G0 n = M) := by rw [← hjn]; exact hM
              have hlt' : ¬ (j : Int) < ((n - 1 : Nat) : Int) := by omega
              have HO5 : Hid (One w x C N wr) := hO
              clear hO hS hM
              go_wp2
              go_ret2
              exact ⟨M, 0, rfl, HR.out _ _ (HG.out M HM.out.symm), HO5.out.keeps⟩
      · have hab' : (a.core != b.core) = true := by simp [hab]
        have HG : Hid (GpL l x.major 0 1) := .inr ⟨a, b, HAB.out.1, by rw [HU.out.1]; exact HAB.out.2, .inr ⟨hab, rfl, rfl⟩⟩
        clear hab
        go_wp2
        go_ret2
        exact ⟨0, 1, rfl, HR.out _ _ HG.out, HO4.out.1.keeps⟩
theorem gap_any (x : Cfg) (p : Int) (w : World) (N : Nat) (hi : x.In w N) (hN : N ≤ w.heap.size) (ht : tot x.cs x.cs.length ≤ 2147483647) :
    Calls Try.prog 29 #[x.v, .int .i64 p] w (GpP w x p) := by
  by_cases hp : 0 ≤ p ∧ p < x.ps.length
  · by_cases hf : fills x.major x.cs = true
    · exact gap_ok x p w N hi hN hp hf ht
    · exact gap_bad x p w N hi hN hp (by simpa using hf)
  · exact gap_no x p w N hi hN hp
end Go.Proofs.Ytnkfdmlpjgmckaa
