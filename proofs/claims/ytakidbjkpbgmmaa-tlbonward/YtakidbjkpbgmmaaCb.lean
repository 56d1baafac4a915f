import Derived.Test.YtakidbjkpbgmmaaHp
namespace Go.Proofs.Ytakidbjkpbgmmaa
open Go.RowKit Go.Shelf
set_option linter.unusedVariables false
set_option linter.unusedSimpArgs false

set_option maxRecDepth 20000 in
set_option maxHeartbeats 2000000 in
theorem canBeHeld_any (a : Option Addr) (ls : List Lf) (c : Nat) (w : World) (hl : ls.length ≤ c ∧ c ≤ maxLen) (hs : SegL w a ls) :
    Calls Try.prog 31 #[.slice a ls.length c] w fun r w' => r = .returned (.bool (heldB ls)) ∧ Keeps (fun _ => False) w w' := by
  obtain ⟨n, hn⟩ : ∃ n, n = ls.length := ⟨_, rfl⟩
  have HS : Hid (SegL w a ls ∧ n = ls.length ∧ (ls.length ≤ c ∧ c ≤ maxLen)) := ⟨hs, hn, hl⟩
  have hc2 : (n : Int) ≤ c := by omega
  have hc3 : (c : Int) ≤ 9223372036854775807 := by unfold maxLen at hl; omega
  rw [← hn]
  clear hl hs hn
  by_cases h4 : 4 < n
  · have h4' : (4 : Int) < n := by omega
    have HB : Hid (heldB ls = false) := held_long (by have := HS.out.2.1; omega)
    go_enter Try.func31, Try.ntmps31
    go_wp2
    go_ret
    exact ⟨by rw [HB.out]; rfl, Keeps.refl _ _⟩
  · have h4' : ¬ (4 : Int) < n := by omega
    go_enter Try.func31, Try.ntmps31
    go_wp2
    go_loopw [10] (fun i wr => ∃ j : Nat, j ≤ n ∧ i = .int .i64 j ∧ preB (ls.take j) = true ∧ Keeps (fun _ => False) w wr) (fun i _ => n - (intOf i).toNat)
    case atStart => exact ⟨0, by omega, rfl, by simp [preB], Keeps.refl _ _⟩
    case round =>
      obtain ⟨j, hj, rfl, hp, hK⟩ := hrel
      by_cases hlt : j < n
      · obtain ⟨y, hy⟩ : ∃ y, ls[j]? = some y := ⟨_, List.getElem?_eq_getElem (by have := HS.out.2.1; omega)⟩
        obtain ⟨g, o, rfl, hy3⟩ : ∃ g o, a = some ⟨g, o, none⟩ ∧ LeafAt w g (o + j * 3) y := by
          rcases HS.out.1 with h | ⟨g, o, ha, h⟩
          · rw [h] at hy; simp at hy
          · exact ⟨g, o, ha, h j y hy⟩
        obtain ⟨y0, y1, y2⟩ := hy3.kept hK fun h => h
        obtain ⟨X, hX⟩ : ∃ X, X = wr.alloc (.cells #[.int .i64 y.p, .int .i64 y.f, .int .i64 y.r] 38) := ⟨_, rfl⟩
        have hKX : Keeps (fun _ => False) w X := by rw [hX]; exact hK.alloc _
        have hBX : Blk X wr.heap.size y.vs 38 := by rw [hX]; exact Blk.new wr _ 38
        have HJ : Hid (preB (ls.take j) = true ∧ Keeps (fun _ => False) w X ∧ ls[j]? = some y ∧ Blk X wr.heap.size y.vs 38) := ⟨hp, hKX, hy, hBX⟩
        have HX : Hid (X = _) := hX
        have z0 := hBX.cell (i := 0) rfl
        have z1 := hBX.cell (i := 1) rfl
        have z2 := hBX.cell (i := 2) rfl
        have HM : Hid (∀ w', Calls _ _ _ _ _) := fun w' => mayBe_any y w'
        have hlt' : (j : Int) < n := by omega
        have hjc : (j : Int) ≤ c := by omega
        clear hp hK hy hy3 hX hKX hBX
        cases hm : mayB y
        · rw [hm] at HM
          have HB : Hid (heldB ls = false) := held_pre (pre_may HJ.out.2.2.1 hm)
          clear hm
          go_wp2_with fail
          rw [← HX.out]
          refine wp_region_held_drew (S := (fun w' => w'.cell? ⟨wr.heap.size, 0, none⟩ = some (.int .i64 y.p) ∧ w'.cell? ⟨wr.heap.size, 1, none⟩ = some (.int .i64 y.f) ∧ w'.cell? ⟨wr.heap.size, 2, none⟩ = some (.int .i64 y.r))) Try.mixed ⟨z0, z1, z2⟩ (fun hHeld => ?_)
          simp only [List.size_toArray, List.length_cons, List.length_nil, Nat.reduceAdd, Array.replicate_succ, Array.replicate_zero, List.push_toArray, List.append_toArray, List.nil_append, List.cons_append]
          refine wpAnyH_take (i := 0) (oi := { dst := some 15, op := Op.load 38 (Operand.tmp 4), type := 38, pos := "tlb.go:89", after := #[], guard := none }) (v := y.v) rfl (by kernel_rfl) (by kernel_rfl) (by kernel_rfl) (fun _ _ _ h => h) (Or.inl ⟨by kernel_rfl, by (intro w hSw; (try dsimp only at hSw); go_simp)⟩) hHeld ?_
          simp only [Act.put, List.setIfInBounds_toArray, List.set_cons_zero, List.set_cons_succ]
          refine wpAnyH_ready (rs := [1]) (by kernel_rfl) (by simp) ?_
          refine AllReadyH.cons rfl (fun K hK => ?_) AllReadyH.nil
          go_simp
          refine (HM.out _).mono ?_
          rintro r w1 ⟨rfl, hK1⟩
          have hKw : Keeps (fun _ => False) w w1 := HJ.out.2.1.drew.trans hK1 fun _ _ h => h
          have HK1 : Hid (Keeps (fun _ => False) w w1) := hKw
          have hB1 := HJ.out.2.2.2.drew.kept hK1 fun h => h
          have hS : w1.cell? ⟨wr.heap.size, 0, none⟩ = some (.int .i64 y.p) ∧ w1.cell? ⟨wr.heap.size, 1, none⟩ = some (.int .i64 y.f) ∧ w1.cell? ⟨wr.heap.size, 2, none⟩ = some (.int .i64 y.r) := ⟨hB1.cell rfl, hB1.cell rfl, hB1.cell rfl⟩
          have HB1 : Hid (Blk w1 wr.heap.size y.vs 38) := hB1
          clear hK1 hKw hB1
          refine hK.out _ _ hS (fun hHeld => ?_)
          simp only [Act.put, List.setIfInBounds_toArray, List.set_cons_zero, List.set_cons_succ]
          refine wpAnyH_take (i := 2) (oi := { dst := some 17, op := Op.unOp UnOp.not 4 (Operand.tmp 16), type := 4, pos := "tlb.go:89", after := #[{ on := 1, ground := Ground.data }], guard := none }) (v := .bool true) rfl (by kernel_rfl) (by kernel_rfl) (by kernel_rfl) (fun _ _ _ h => h) (Or.inl ⟨by kernel_rfl, by (intro w hSw; (try dsimp only at hSw); go_simp)⟩) hHeld ?_
          simp only [Act.put, List.setIfInBounds_toArray, List.set_cons_zero, List.set_cons_succ]
          refine wpAnyH_take (i := 3) (oi := { dst := some 18, op := Op.move (Operand.tmp 17), type := 4, pos := "tlb.go:89", after := #[{ on := 2, ground := Ground.data }, { on := 1, ground := Ground.chain }], guard := none }) (v := .bool true) rfl (by kernel_rfl) (by kernel_rfl) (by kernel_rfl) (fun _ _ _ h => h) (Or.inl ⟨by kernel_rfl, by (intro w hSw; (try dsimp only at hSw); go_simp)⟩) hHeld ?_
          simp only [Act.put, List.setIfInBounds_toArray, List.set_cons_zero, List.set_cons_succ]
          refine wpAnyH_take (i := 4) (oi := { dst := some 19, op := Op.move (Operand.tmp 0), type := 26, pos := "tlb.go:89", after := #[{ on := 3, ground := Ground.guard }], guard := some (3, false) }) (v := undef) rfl (by kernel_rfl) (by kernel_rfl) (by kernel_rfl) (fun _ _ _ h => h) (Or.inr ⟨by kernel_rfl, rfl⟩) hHeld ?_
          simp only [Act.put, List.setIfInBounds_toArray, List.set_cons_zero, List.set_cons_succ]
          refine wpAnyH_take (i := 5) (oi := { dst := some 20, op := Op.move (Operand.tmp 3), type := 3, pos := "tlb.go:89", after := #[{ on := 3, ground := Ground.guard }], guard := some (3, false) }) (v := undef) rfl (by kernel_rfl) (by kernel_rfl) (by kernel_rfl) (fun _ _ _ h => h) (Or.inr ⟨by kernel_rfl, rfl⟩) hHeld ?_
          simp only [Act.put, List.setIfInBounds_toArray, List.set_cons_zero, List.set_cons_succ]
          refine wpAnyH_take (i := 6) (oi := { dst := some 21, op := Op.slice 26 (Operand.tmp 19) none (some (Operand.tmp 20)) none, type := 26, pos := "tlb.go:89", after := #[{ on := 4, ground := Ground.data }, { on := 5, ground := Ground.data }, { on := 3, ground := Ground.guard }], guard := some (3, false) }) (v := undef) rfl (by kernel_rfl) (by kernel_rfl) (by kernel_rfl) (fun _ _ _ h => h) (Or.inr ⟨by kernel_rfl, rfl⟩) hHeld ?_
          simp only [Act.put, List.setIfInBounds_toArray, List.set_cons_zero, List.set_cons_succ]
          refine wpAnyH_take (i := 7) (oi := { dst := some 22, op := Op.fieldAddr 38 (Operand.tmp 4) 0, type := 0, pos := "tlb.go:89", after := #[{ on := 3, ground := Ground.guard }], guard := some (3, false) }) (v := undef) rfl (by kernel_rfl) (by kernel_rfl) (by kernel_rfl) (fun _ _ _ h => h) (Or.inr ⟨by kernel_rfl, rfl⟩) hHeld ?_
          simp only [Act.put, List.setIfInBounds_toArray, List.set_cons_zero, List.set_cons_succ]
          refine wpAnyH_take (i := 8) (oi := { dst := some 23, op := Op.load 3 (Operand.tmp 22), type := 3, pos := "tlb.go:89", after := #[{ on := 7, ground := Ground.data }, { on := 3, ground := Ground.guard }], guard := some (3, false) }) (v := undef) rfl (by kernel_rfl) (by kernel_rfl) (by kernel_rfl) (fun _ _ _ h => h) (Or.inr ⟨by kernel_rfl, rfl⟩) hHeld ?_
          simp only [Act.put, List.setIfInBounds_toArray, List.set_cons_zero, List.set_cons_succ]
          refine wpAnyH_take (i := 9) (oi := { dst := some 24, op := Op.call { callee := Callee.value (Operand.func 44), args := #[Operand.tmp 21, Operand.tmp 23], argTypes := #[26, 3] }, type := 4, pos := "tlb.go:89", after := #[{ on := 6, ground := Ground.data }, { on := 8, ground := Ground.data }, { on := 3, ground := Ground.chain }, { on := 3, ground := Ground.guard }], guard := some (3, false) }) (v := undef) rfl (by kernel_rfl) (by kernel_rfl) (by kernel_rfl) (fun _ _ _ h => h) (Or.inr ⟨by kernel_rfl, rfl⟩) hHeld ?_
          simp only [Act.put, List.setIfInBounds_toArray, List.set_cons_zero, List.set_cons_succ]
          refine wpAnyH_take (i := 10) (oi := { dst := some 25, op := Op.pick (Operand.tmp 18) (Operand.const (Value.bool true)) (Operand.tmp 24), type := 4, pos := "tlb.go:89", after := #[{ on := 3, ground := Ground.data }, { on := 9, ground := Ground.data }], guard := none }) (v := .bool true) rfl (by kernel_rfl) (by kernel_rfl) (by kernel_rfl) (fun _ _ _ h => h) (Or.inl ⟨by kernel_rfl, by (intro w hSw; (try dsimp only at hSw); go_simp)⟩) hHeld ?_
          simp only [Act.put, List.setIfInBounds_toArray, List.set_cons_zero, List.set_cons_succ]
          refine wpAnyH_done (by kernel_rfl) ?_ _
          clear y0 y1 y2 z0 z1 z2 hS hHeld hK
          go_wp2
          go_ret
          exact ⟨by rw [HB.out]; rfl, HK1.out⟩
        · rw [hm] at HM
          have HMY : Hid (mayB y = true) := hm
          clear hm
          have HH : Hid (∀ w', Keeps (fun _ => False) w w' → Calls Try.prog 44 #[.slice (some ⟨g, o, none⟩) j c, .int .i64 y.p] w' _) := fun w' hKw => by
            have := hasPage_any (some ⟨g, o, none⟩) (ls.take j) c y.p w' ⟨by have := HS.out.2.2; simp; omega, HS.out.2.2.2⟩ ((HS.out.1.kept hKw fun _ _ h => h).take j)
            rw [show (ls.take j).length = j by have := HS.out.2.1; simp; omega] at this
            exact this
          go_wp2_with fail
          rw [← HX.out]
          go_region_held3 (fun w' => w'.cell? ⟨wr.heap.size, 0, none⟩ = some (.int .i64 y.p) ∧ w'.cell? ⟨wr.heap.size, 1, none⟩ = some (.int .i64 y.f) ∧ w'.cell? ⟨wr.heap.size, 2, none⟩ = some (.int .i64 y.r)) (first | exact hS | exact HZ2.out | go_keep)
            (first
              | (go_at_call 28; refine (HM.out _).mono ?_; rintro r w1 ⟨rfl, hK1⟩; have hKw : Keeps (fun _ => False) w w1 := HJ.out.2.1.drew.trans hK1 fun _ _ h => h; have HK1 : Hid (Keeps (fun _ => False) w w1) := hKw; have hB1 := HJ.out.2.2.2.drew.kept hK1 fun h => h; have hS : w1.cell? ⟨wr.heap.size, 0, none⟩ = some (.int .i64 y.p) ∧ w1.cell? ⟨wr.heap.size, 1, none⟩ = some (.int .i64 y.f) ∧ w1.cell? ⟨wr.heap.size, 2, none⟩ = some (.int .i64 y.r) := ⟨hB1.cell rfl, hB1.cell rfl, hB1.cell rfl⟩; have HB1 : Hid (Blk w1 wr.heap.size y.vs 38) := hB1; clear hK1 hKw hB1)
              | (go_at_call 44; refine (HH.out _ HK1.out).mono ?_; rintro r w2 ⟨rfl, hK2⟩; have HK2 : Hid (Keeps (fun _ => False) w w2) := HK1.out.trans hK2 fun _ _ h => h; have HZ2 : Hid (w2.cell? ⟨wr.heap.size, 0, none⟩ = some (.int .i64 y.p) ∧ w2.cell? ⟨wr.heap.size, 1, none⟩ = some (.int .i64 y.f) ∧ w2.cell? ⟨wr.heap.size, 2, none⟩ = some (.int .i64 y.r)) := (let hB2 := HB1.out.kept hK2 fun h => h; ⟨hB2.cell rfl, hB2.cell rfl, hB2.cell rfl⟩); clear hK2))
          clear y0 y1 y2 z0 z1 z2
          cases hf : findT y.p (ls.take j) with
          | none =>
            have HP : Hid (preB (ls.take (j + 1)) = true) := pre_step HJ.out.1 HJ.out.2.2.1 HMY.out hf
            simp only [Option.isSome_none]
            clear hf HH
            go_wp2
            go_roundw
            case rel => exact ⟨j + 1, by omega, by go_num, HP.out, HK2.out⟩
            case measure => simp [intOf]; omega
          | some x =>
            have HB : Hid (heldB ls = false) := held_pre (pre_dup HJ.out.2.2.1 hf)
            simp only [Option.isSome_some]
            clear hf HH
            go_wp2
            go_ret
            exact ⟨by rw [HB.out]; rfl, HK2.out⟩
      · obtain rfl : j = n := by omega
        have HB : Hid (heldB ls = true ∧ Keeps (fun _ => False) w wr) := by
          rw [List.take_of_length_le (by have := HS.out.2.1; omega)] at hp
          exact ⟨held_yes hp (by have := HS.out.2.1; omega), hK⟩
        clear hp hK
        go_wp2
        go_ret
        exact ⟨by rw [HB.out.1]; rfl, HB.out.2⟩

end Go.Proofs.Ytakidbjkpbgmmaa
