import Derived.Test.YtekijhhpldnmnaaTj
import Derived.Deep.RegionHeld3
import Derived.Deep.RegionHeld2
import Derived.Shelf.RegionOpen
import Derived.StillTailTactics
import Derived.Test.YtekijhhpldnmnaaU
namespace Go.Proofs.Ytekijhhpldnmnaa
open Go.RowKit
set_option linter.unusedVariables false
set_option linter.unusedSimpArgs false

set_option maxRecDepth 20000 in
set_option maxHeartbeats 2000000 in
theorem rcount_any (D M c : Nat) (p n d : Int) (xs : List UInt32) (w : World) (hB : Blk w D (wvs xs) 52) (hM : M = xs.length) (hm : M ≤ 256) :
    Calls Try.prog 37 #[.slice (some ⟨D, 0, none⟩) M c, .int .i64 p, .int .i64 n, .int .i64 d] w fun e w' => e = .returned (.tuple #[.int .i64 (stN false xs p 3 n d), .int .u32 ((loN false xs p n d).toNat : Nat), .int .i64 (lkE false xs p 3 n d)]) ∧ Keeps (fun _ => False) w w' := by
  have hbn := bounds_any n d w
  by_cases hf : fitE false n d = 0
  · rw [bnd_yes hf] at hbn
    have HBn : Hid (Calls _ _ _ _ _) := hbn
    obtain ⟨_, f1, f2, f3, f4⟩ := fit_ok hf
    obtain ⟨n', rfl⟩ : ∃ k : Nat, n = k := ⟨n.toNat, by omega⟩
    obtain ⟨d', rfl⟩ : ∃ k : Nat, d = k := ⟨d.toNat, by omega⟩
    have HC : Hid (Calls _ _ _ _ _) := port_any D M c n' d' p xs w hB hM hm hf
    obtain ⟨E, hE⟩ : ∃ E, E = lkE false xs p 3 n' d' := ⟨_, rfl⟩
    obtain ⟨r, hr⟩ : ∃ r, r = rdA xs p 3 n' d' := ⟨_, rfl⟩
    rw [← hE] at HC ⊢
    rw [← hr] at HC
    have HR : Hid (r = rdA xs p 3 n' d' ∧ E = lkE false xs p 3 n' d') := ⟨hr, hE⟩
    obtain ⟨N0, hN0⟩ : ∃ N0, N0 = stN false xs p 3 n' d' := ⟨_, rfl⟩
    obtain ⟨X0, hX0⟩ : ∃ X0, X0 = (loN false xs p n' d').toNat := ⟨_, rfl⟩
    rw [← hN0, ← hX0]
    have HN0 : Hid (N0 = stN false xs p 3 n' d' ∧ X0 = (loN false xs p n' d').toNat) := ⟨hN0, hX0⟩
    clear hN0 hX0
    clear hbn hf f1 f2 f3 f4 hB hM hm hE hr
    go_enter Try.func37, Try.ntmps37
    go_wp2_with fail
    refine HBn.out.mono ?_
    rintro e w1 ⟨rfl, rfl⟩
    go_wp2_with fail
    refine HC.out.mono ?_
    intro e w2 hpp
    rcases hpp with ⟨hE, v, rfl, hms, hk⟩ | ⟨hE, rfl, hk⟩
    · obtain ⟨a, cc, hv, hcc, hlc⟩ := hms.form
      obtain ⟨LL, hLL⟩ : ∃ LL, LL = r.ms.length := ⟨_, rfl⟩
      rw [← hLL] at hv hlc
      subst hv
      obtain ⟨F, hF⟩ : ∃ F, F = r.f := ⟨_, rfl⟩
      obtain ⟨X, hX⟩ : ∃ X, X = r.lost.toNat := ⟨_, rfl⟩
      rw [← hF, ← hX]
      have HQ : Hid (E = 0 ∧ N0 = LL ∧ X0 = X) := by
        have q : lkE false xs p 3 n' d' = 0 := by rw [← HR.out.2]; exact hE
        refine ⟨hE, by rw [HN0.out.1, hLL, HR.out.1]; exact if_pos q, ?_⟩
        rw [HN0.out.2, hX, HR.out.1]; unfold loN; rw [if_pos q]
      clear hE hms hLL hF hX
      obtain ⟨T, hT⟩ : ∃ T, T = w2.heap.size := ⟨_, rfl⟩
      obtain ⟨W3, hW3⟩ : ∃ W3, W3 = w2.alloc (.cells #[.int .i64 F, .slice a LL cc, .int .u32 X] 92) := ⟨_, rfl⟩
      have hT3 : Blk W3 T [.int .i64 F, .slice a LL cc, .int .u32 X] 92 := by rw [hT, hW3]; exact Blk.new w2 _ 92
      have hk3 : Keeps (fun _ => False) w1 W3 := by rw [hW3]; exact hk.alloc _
      have hTd := hT3.kept ((Keeps.refl (fun _ => False) W3).drew) (fun e => e)
      have hS : W3.drew.cell? ⟨T, 1, none⟩ = some (.slice a LL cc) ∧ W3.drew.cell? ⟨T, 2, none⟩ = some (.int .u32 X) := ⟨hTd.cell (i := 1) rfl, hTd.cell (i := 2) rfl⟩
      have HX3 : Hid (W3 = w2.alloc (.cells #[.int .i64 F, .slice a LL cc, .int .u32 X] 92) ∧ T = w2.heap.size ∧ Keeps (fun _ => False) w1 W3) := ⟨hW3, hT, hk3⟩
      clear hT hW3 hT3 hTd hk3 hk HC
      go_wp2
      rw [← HX3.out.1, ← HX3.out.2.1]
      refine wp_region_held_drew (S := (fun w' => w'.cell? ⟨T, 1, none⟩ = some (.slice a LL cc) ∧ w'.cell? ⟨T, 2, none⟩ = some (.int .u32 X))) Try.mixd hS (fun hHeld => ?_)
      simp only [List.size_toArray, List.length_cons, List.length_nil, Nat.reduceAdd, Array.replicate_succ, Array.replicate_zero, List.push_toArray, List.append_toArray, List.nil_append, List.cons_append]
      refine wpAnyH_take (i := 0) (oi := { dst := some 25, op := Op.fieldAddr 92 (Operand.tmp 11) 1, type := 0, pos := "ref.go:246", after := #[], guard := none }) (v := .pointer (some ⟨T, 1, none⟩)) rfl (by kernel_rfl) (by kernel_rfl) (by kernel_rfl) (fun _ _ _ h => h) (Or.inl ⟨by kernel_rfl, by (intro w hSw; (try dsimp only at hSw); go_simp; try omega)⟩) hHeld ?_
      simp only [Act.put, List.setIfInBounds_toArray, List.set_cons_zero, List.set_cons_succ]
      refine wpAnyH_take (i := 1) (oi := { dst := some 26, op := Op.load 43 (Operand.tmp 25), type := 43, pos := "ref.go:246", after := #[{ on := 0, ground := Ground.data }], guard := none }) (v := .slice a LL cc) rfl (by kernel_rfl) (by kernel_rfl) (by kernel_rfl) (fun _ _ _ h => h) (Or.inl ⟨by kernel_rfl, by (intro w hSw; (try dsimp only at hSw); go_simp; try omega)⟩) hHeld ?_
      simp only [Act.put, List.setIfInBounds_toArray, List.set_cons_zero, List.set_cons_succ]
      refine wpAnyH_take (i := 2) (oi := { dst := some 27, op := Op.call { callee := Callee.builtin Builtin.len, args := #[Operand.tmp 26], argTypes := #[43] }, type := 3, pos := "ref.go:246", after := #[{ on := 1, ground := Ground.data }], guard := none }) (v := .int .i64 LL) rfl (by kernel_rfl) (by kernel_rfl) (by kernel_rfl) (fun _ _ _ h => h) (Or.inl ⟨by kernel_rfl, by (intro w hSw; (try dsimp only at hSw); go_simp; try omega)⟩) hHeld ?_
      simp only [Act.put, List.setIfInBounds_toArray, List.set_cons_zero, List.set_cons_succ]
      refine wpAnyH_take (i := 3) (oi := { dst := some 28, op := Op.fieldAddr 92 (Operand.tmp 11) 2, type := 0, pos := "ref.go:246", after := #[{ on := 6, ground := Ground.gcOnly Departure.lateStores }], guard := none }) (v := .pointer (some ⟨T, 2, none⟩)) rfl (by kernel_rfl) (by kernel_rfl) (by kernel_rfl) (fun _ _ _ h => h) (Or.inl ⟨by kernel_rfl, by (intro w hSw; (try dsimp only at hSw); go_simp; try omega)⟩) hHeld ?_
      simp only [Act.put, List.setIfInBounds_toArray, List.set_cons_zero, List.set_cons_succ]
      refine wpAnyH_take (i := 4) (oi := { dst := some 29, op := Op.load 52 (Operand.tmp 28), type := 52, pos := "ref.go:246", after := #[{ on := 3, ground := Ground.data }, { on := 6, ground := Ground.gcOnly Departure.lateStores }], guard := none }) (v := .int .u32 X) rfl (by kernel_rfl) (by kernel_rfl) (by kernel_rfl) (fun _ _ _ h => h) (Or.inl ⟨by kernel_rfl, by (intro w hSw; (try dsimp only at hSw); go_simp; try omega)⟩) hHeld ?_
      simp only [Act.put, List.setIfInBounds_toArray, List.set_cons_zero, List.set_cons_succ]
      refine wpAnyH_take (i := 5) (oi := { dst := some 30, op := Op.move (Operand.tmp 12), type := 29, pos := "ref.go:246", after := #[{ on := 7, ground := Ground.gcOnly Departure.lateStores }], guard := none }) (v := .int .i64 0) rfl (by kernel_rfl) (by kernel_rfl) (by kernel_rfl) (fun _ _ _ h => h) (Or.inl ⟨by kernel_rfl, by (intro w hSw; (try dsimp only at hSw); go_simp; try omega)⟩) hHeld ?_
      simp only [Act.put, List.setIfInBounds_toArray, List.set_cons_zero, List.set_cons_succ]
      refine wpAnyH_take (i := 6) (oi := { dst := some 8, op := Op.assign (Operand.tmp 27), type := 3, pos := "ref.go:246", after := #[{ on := 2, ground := Ground.data }, { on := 0, ground := Ground.phase }, { on := 1, ground := Ground.phase }, { on := 2, ground := Ground.phase }, { on := 3, ground := Ground.textOnly Departure.lateStores }, { on := 4, ground := Ground.textOnly Departure.lateStores }, { on := 5, ground := Ground.textOnly Departure.lateStores }], guard := none }) (v := .int .i64 LL) rfl (by kernel_rfl) (by kernel_rfl) (by kernel_rfl) (fun _ _ _ h => h) (Or.inl ⟨by kernel_rfl, by (intro w hSw; (try dsimp only at hSw); go_simp; try omega)⟩) hHeld ?_
      simp only [Act.put, List.setIfInBounds_toArray, List.set_cons_zero, List.set_cons_succ]
      refine wpAnyH_take (i := 7) (oi := { dst := some 9, op := Op.assign (Operand.tmp 29), type := 52, pos := "ref.go:246", after := #[{ on := 4, ground := Ground.data }, { on := 6, ground := Ground.chain }, { on := 0, ground := Ground.phase }, { on := 1, ground := Ground.phase }, { on := 2, ground := Ground.phase }, { on := 3, ground := Ground.phase }, { on := 4, ground := Ground.phase }, { on := 5, ground := Ground.textOnly Departure.lateStores }, { on := 6, ground := Ground.phase }], guard := none }) (v := .int .u32 X) rfl (by kernel_rfl) (by kernel_rfl) (by kernel_rfl) (fun _ _ _ h => h) (Or.inl ⟨by kernel_rfl, by (intro w hSw; (try dsimp only at hSw); go_simp; try omega)⟩) hHeld ?_
      simp only [Act.put, List.setIfInBounds_toArray, List.set_cons_zero, List.set_cons_succ]
      refine wpAnyH_take (i := 8) (oi := { dst := some 10, op := Op.assign (Operand.tmp 30), type := 29, pos := "ref.go:246", after := #[{ on := 5, ground := Ground.data }, { on := 7, ground := Ground.chain }, { on := 0, ground := Ground.phase }, { on := 1, ground := Ground.phase }, { on := 2, ground := Ground.phase }, { on := 3, ground := Ground.phase }, { on := 4, ground := Ground.phase }, { on := 5, ground := Ground.phase }, { on := 6, ground := Ground.phase }, { on := 7, ground := Ground.phase }], guard := none }) (v := .int .i64 0) rfl (by kernel_rfl) (by kernel_rfl) (by kernel_rfl) (fun _ _ _ h => h) (Or.inl ⟨by kernel_rfl, by (intro w hSw; (try dsimp only at hSw); go_simp; try omega)⟩) hHeld ?_
      simp only [Act.put, List.setIfInBounds_toArray, List.set_cons_zero, List.set_cons_succ]
      refine wpAnyH_done (by kernel_rfl) ?_ _
      clear hHeld
      go_wp2
      go_returns
      exact ⟨by rw [HQ.out.2.1, HQ.out.2.2, HQ.out.1]; rfl, HX3.out.2.2.drew⟩
    · have HQ : Hid (N0 = 0 ∧ X0 = 0) := by
        have q : ¬ lkE false xs p 3 n' d' = 0 := by rw [← HR.out.2]; exact hE
        refine ⟨by rw [HN0.out.1]; exact if_neg q, ?_⟩
        rw [HN0.out.2]; unfold loN; rw [if_neg q]; rfl
      clear hE
      obtain ⟨T, hT⟩ : ∃ T, T = w2.heap.size := ⟨_, rfl⟩
      obtain ⟨W3, hW3⟩ : ∃ W3, W3 = w2.alloc (.cells #[.int .i64 0, .slice none 0 0, .int .u32 0] 92) := ⟨_, rfl⟩
      have hT3 : Blk W3 T [.int .i64 0, .slice none 0 0, .int .u32 0] 92 := by rw [hT, hW3]; exact Blk.new w2 _ 92
      have hk3 : Keeps (fun _ => False) w1 W3 := by rw [hW3]; exact hk.alloc _
      have hTd := hT3.kept ((Keeps.refl (fun _ => False) W3).drew) (fun e => e)
      have hS : W3.drew.cell? ⟨T, 1, none⟩ = some (.slice none 0 0) ∧ W3.drew.cell? ⟨T, 2, none⟩ = some (.int .u32 0) := ⟨hTd.cell (i := 1) rfl, hTd.cell (i := 2) rfl⟩
      have HX3 : Hid (W3 = w2.alloc (.cells #[.int .i64 0, .slice none 0 0, .int .u32 0] 92) ∧ T = w2.heap.size ∧ Keeps (fun _ => False) w1 W3) := ⟨hW3, hT, hk3⟩
      clear hT hW3 hT3 hTd hk3 hk HC
      go_wp2
      rw [← HX3.out.1, ← HX3.out.2.1]
      refine wp_region_held_drew (S := (fun w' => w'.cell? ⟨T, 1, none⟩ = some (.slice none 0 0) ∧ w'.cell? ⟨T, 2, none⟩ = some (.int .u32 0))) Try.mixd hS (fun hHeld => ?_)
      simp only [List.size_toArray, List.length_cons, List.length_nil, Nat.reduceAdd, Array.replicate_succ, Array.replicate_zero, List.push_toArray, List.append_toArray, List.nil_append, List.cons_append]
      refine wpAnyH_take (i := 0) (oi := { dst := some 25, op := Op.fieldAddr 92 (Operand.tmp 11) 1, type := 0, pos := "ref.go:246", after := #[], guard := none }) (v := .pointer (some ⟨T, 1, none⟩)) rfl (by kernel_rfl) (by kernel_rfl) (by kernel_rfl) (fun _ _ _ h => h) (Or.inl ⟨by kernel_rfl, by (intro w hSw; (try dsimp only at hSw); go_simp; try omega)⟩) hHeld ?_
      simp only [Act.put, List.setIfInBounds_toArray, List.set_cons_zero, List.set_cons_succ]
      refine wpAnyH_take (i := 1) (oi := { dst := some 26, op := Op.load 43 (Operand.tmp 25), type := 43, pos := "ref.go:246", after := #[{ on := 0, ground := Ground.data }], guard := none }) (v := .slice none 0 0) rfl (by kernel_rfl) (by kernel_rfl) (by kernel_rfl) (fun _ _ _ h => h) (Or.inl ⟨by kernel_rfl, by (intro w hSw; (try dsimp only at hSw); go_simp; try omega)⟩) hHeld ?_
      simp only [Act.put, List.setIfInBounds_toArray, List.set_cons_zero, List.set_cons_succ]
      refine wpAnyH_take (i := 2) (oi := { dst := some 27, op := Op.call { callee := Callee.builtin Builtin.len, args := #[Operand.tmp 26], argTypes := #[43] }, type := 3, pos := "ref.go:246", after := #[{ on := 1, ground := Ground.data }], guard := none }) (v := .int .i64 0) rfl (by kernel_rfl) (by kernel_rfl) (by kernel_rfl) (fun _ _ _ h => h) (Or.inl ⟨by kernel_rfl, by (intro w hSw; (try dsimp only at hSw); go_simp; try omega)⟩) hHeld ?_
      simp only [Act.put, List.setIfInBounds_toArray, List.set_cons_zero, List.set_cons_succ]
      refine wpAnyH_take (i := 3) (oi := { dst := some 28, op := Op.fieldAddr 92 (Operand.tmp 11) 2, type := 0, pos := "ref.go:246", after := #[{ on := 6, ground := Ground.gcOnly Departure.lateStores }], guard := none }) (v := .pointer (some ⟨T, 2, none⟩)) rfl (by kernel_rfl) (by kernel_rfl) (by kernel_rfl) (fun _ _ _ h => h) (Or.inl ⟨by kernel_rfl, by (intro w hSw; (try dsimp only at hSw); go_simp; try omega)⟩) hHeld ?_
      simp only [Act.put, List.setIfInBounds_toArray, List.set_cons_zero, List.set_cons_succ]
      refine wpAnyH_take (i := 4) (oi := { dst := some 29, op := Op.load 52 (Operand.tmp 28), type := 52, pos := "ref.go:246", after := #[{ on := 3, ground := Ground.data }, { on := 6, ground := Ground.gcOnly Departure.lateStores }], guard := none }) (v := .int .u32 0) rfl (by kernel_rfl) (by kernel_rfl) (by kernel_rfl) (fun _ _ _ h => h) (Or.inl ⟨by kernel_rfl, by (intro w hSw; (try dsimp only at hSw); go_simp; try omega)⟩) hHeld ?_
      simp only [Act.put, List.setIfInBounds_toArray, List.set_cons_zero, List.set_cons_succ]
      refine wpAnyH_take (i := 5) (oi := { dst := some 30, op := Op.move (Operand.tmp 12), type := 29, pos := "ref.go:246", after := #[{ on := 7, ground := Ground.gcOnly Departure.lateStores }], guard := none }) (v := .int .i64 E) rfl (by kernel_rfl) (by kernel_rfl) (by kernel_rfl) (fun _ _ _ h => h) (Or.inl ⟨by kernel_rfl, by (intro w hSw; (try dsimp only at hSw); go_simp; try omega)⟩) hHeld ?_
      simp only [Act.put, List.setIfInBounds_toArray, List.set_cons_zero, List.set_cons_succ]
      refine wpAnyH_take (i := 6) (oi := { dst := some 8, op := Op.assign (Operand.tmp 27), type := 3, pos := "ref.go:246", after := #[{ on := 2, ground := Ground.data }, { on := 0, ground := Ground.phase }, { on := 1, ground := Ground.phase }, { on := 2, ground := Ground.phase }, { on := 3, ground := Ground.textOnly Departure.lateStores }, { on := 4, ground := Ground.textOnly Departure.lateStores }, { on := 5, ground := Ground.textOnly Departure.lateStores }], guard := none }) (v := .int .i64 0) rfl (by kernel_rfl) (by kernel_rfl) (by kernel_rfl) (fun _ _ _ h => h) (Or.inl ⟨by kernel_rfl, by (intro w hSw; (try dsimp only at hSw); go_simp; try omega)⟩) hHeld ?_
      simp only [Act.put, List.setIfInBounds_toArray, List.set_cons_zero, List.set_cons_succ]
      refine wpAnyH_take (i := 7) (oi := { dst := some 9, op := Op.assign (Operand.tmp 29), type := 52, pos := "ref.go:246", after := #[{ on := 4, ground := Ground.data }, { on := 6, ground := Ground.chain }, { on := 0, ground := Ground.phase }, { on := 1, ground := Ground.phase }, { on := 2, ground := Ground.phase }, { on := 3, ground := Ground.phase }, { on := 4, ground := Ground.phase }, { on := 5, ground := Ground.textOnly Departure.lateStores }, { on := 6, ground := Ground.phase }], guard := none }) (v := .int .u32 0) rfl (by kernel_rfl) (by kernel_rfl) (by kernel_rfl) (fun _ _ _ h => h) (Or.inl ⟨by kernel_rfl, by (intro w hSw; (try dsimp only at hSw); go_simp; try omega)⟩) hHeld ?_
      simp only [Act.put, List.setIfInBounds_toArray, List.set_cons_zero, List.set_cons_succ]
      refine wpAnyH_take (i := 8) (oi := { dst := some 10, op := Op.assign (Operand.tmp 30), type := 29, pos := "ref.go:246", after := #[{ on := 5, ground := Ground.data }, { on := 7, ground := Ground.chain }, { on := 0, ground := Ground.phase }, { on := 1, ground := Ground.phase }, { on := 2, ground := Ground.phase }, { on := 3, ground := Ground.phase }, { on := 4, ground := Ground.phase }, { on := 5, ground := Ground.phase }, { on := 6, ground := Ground.phase }, { on := 7, ground := Ground.phase }], guard := none }) (v := .int .i64 E) rfl (by kernel_rfl) (by kernel_rfl) (by kernel_rfl) (fun _ _ _ h => h) (Or.inl ⟨by kernel_rfl, by (intro w hSw; (try dsimp only at hSw); go_simp; try omega)⟩) hHeld ?_
      simp only [Act.put, List.setIfInBounds_toArray, List.set_cons_zero, List.set_cons_succ]
      refine wpAnyH_done (by kernel_rfl) ?_ _
      clear hHeld
      go_wp2
      go_returns
      exact ⟨by rw [HQ.out.1, HQ.out.2]; rfl, HX3.out.2.2.drew⟩
  · rw [bnd_no hf] at hbn
    have HBn : Hid (Calls _ _ _ _ _) := hbn
    have hE := lkE_arg (xs := xs) (p := p) (h := 3) hf
    have hN : stN false xs p 3 n d = 0 := if_neg (by rw [hE]; decide)
    have hO : (loN false xs p n d).toNat = 0 := by unfold loN; rw [if_neg (by rw [hE]; decide)]; rfl
    rw [hE, hN, hO]
    clear hE hN hO hf hbn hB hM hm
    go_enter Try.func37, Try.ntmps37
    go_wp2_with fail
    refine HBn.out.mono ?_
    rintro e w1 ⟨rfl, rfl⟩
    go_wp2
    go_returns
    exact ⟨rfl, Keeps.refl _ _⟩

end Go.Proofs.Ytekijhhpldnmnaa
