import Derived.Test.YtpccdhoaicabcaaSt
import Derived.Test.YtpccdhoaicabcaaXa
import Derived.Test.YtpccdhoaicabcaaWr
import Derived.Deep.RegionHeld3
namespace Go.Proofs.Ytpccdhoaicabcaa
open Go.RowKit
set_option linter.unusedVariables false
set_option linter.unusedSimpArgs false

set_option maxRecDepth 40000 in
set_option maxHeartbeats 4000000 in
theorem step_address (P b g rb rg n : Nat) (xs : List UInt32) (A B C : Int) (W : Nat) (s2 s : Value) (w : World) (h : Pr w P b g rb rg n xs) (hA : I64 A) : Calls Try.prog 9 #[.pointer (some ⟨P, 0, none⟩), opV 4 A B C W s2 s] w fun e w' => e = .returned (.bool true) ∧ Keeps (fun _ => False) w w' := by
  obtain ⟨w0, hw0⟩ : ∃ w0, w0 = w.alloc (.cells #[.int .i64 4, .int .i64 A, .int .i64 B, .int .i64 C, .int .u32 W, s2, s] 31) := ⟨_, rfl⟩
  have k0 : Keeps (fun _ => False) w w0 := by rw [hw0]; exact (Keeps.refl _ w).alloc _
  obtain ⟨O, hO⟩ : ∃ O, O = w.heap.size := ⟨_, rfl⟩
  have b0 : Blk w0 O [.int .i64 4, .int .i64 A, .int .i64 B, .int .i64 C, .int .u32 W, s2, s] 31 := by rw [hw0, hO]; exact Blk.new w _ 31
  have HP : Hid (∀ w', Keeps (fun _ => False) w w' → Pr w' P b g rb rg n xs) := fun w' hK => h.grown hK
  have H0 : Hid (w0 = w.alloc (.cells #[.int .i64 4, .int .i64 A, .int .i64 B, .int .i64 C, .int .u32 W, s2, s] 31) ∧ O = w.heap.size ∧ Keeps (fun _ => False) w w0 ∧ ∀ w', Keeps (fun _ => False) w0 w' → Blk w' O [.int .i64 4, .int .i64 A, .int .i64 B, .int .i64 C, .int .u32 W, s2, s] 31) := ⟨hw0, hO, k0, fun w' hK => b0.kept hK fun e => e⟩
  have H1 : Hid (∀ w', Keeps (fun _ => False) w w' → Calls Try.prog 17 #[.pointer (some ⟨b, 0, none⟩), .int .i64 A, .int .i64 B, .int .i64 C] w' _) := fun w' hK => address_any b g n xs A B C w' (h.grown hK).m
  have H2 : Hid (∀ w', Keeps (fun _ => False) w w' → Calls Try.prog 26 #[.pointer (some ⟨rb, 0, none⟩), .int .i64 A, .int .i64 B, .int .i64 C] w' _) := fun w' hK => raddress_any rb rg n xs A B C w' (h.grown hK).r hA.1 hA.2
  have c0 := (h.grown k0).p.cell (i := 0) rfl
  have c1 := b0.cell (i := 1) rfl
  have c2 := b0.cell (i := 2) rfl
  have c3 := b0.cell (i := 3) rfl
  clear h hA hw0 hO k0 b0
  have hS : w0.cell? ⟨P, 0, none⟩ = some (.pointer (some ⟨b, 0, none⟩)) ∧ w0.cell? ⟨O, 1, none⟩ = some (.int .i64 A) ∧ w0.cell? ⟨O, 2, none⟩ = some (.int .i64 B) ∧ w0.cell? ⟨O, 3, none⟩ = some (.int .i64 C) := ⟨c0, c1, c2, c3⟩
  go_enter Try.func9, Try.ntmps9
  go_wp2_with fail
  rw [← H0.out.1, ← H0.out.2.1]
  go_region_held3 (fun w' => w'.cell? ⟨P, 0, none⟩ = some (.pointer (some ⟨b, 0, none⟩)) ∧ w'.cell? ⟨O, 1, none⟩ = some (.int .i64 A) ∧ w'.cell? ⟨O, 2, none⟩ = some (.int .i64 B) ∧ w'.cell? ⟨O, 3, none⟩ = some (.int .i64 C)) (first | exact hS | exact hS2)
    (first | (go_at_call 17; refine (H1.out _ (H0.out.2.2.1.trans ((Keeps.refl _ w0).drew) fun _ _ e => e)).mono ?_; rintro e w1 ⟨rfl, hk1⟩; have hK1' : Keeps (fun _ => False) w0 w1 := ((Keeps.refl _ w0).drew).trans hk1 fun _ _ h => h; have hS2 : w1.cell? ⟨P, 0, none⟩ = some (.pointer (some ⟨b, 0, none⟩)) ∧ w1.cell? ⟨O, 1, none⟩ = some (.int .i64 A) ∧ w1.cell? ⟨O, 2, none⟩ = some (.int .i64 B) ∧ w1.cell? ⟨O, 3, none⟩ = some (.int .i64 C) := ⟨cell_kept c0 hK1' (fun e => e), cell_kept c1 hK1' (fun e => e), cell_kept c2 hK1' (fun e => e), cell_kept c3 hK1' (fun e => e)⟩; have HK1 : Hid (Keeps (fun _ => False) w0 w1) := hK1'; clear hk1 hK1'))
  clear hS hS2 c0 c1 c2 c3
  have c0 := (HP.out _ (H0.out.2.2.1.trans HK1.out fun _ _ e => e)).p.cell (i := 1) rfl
  have c1 := (H0.out.2.2.2 _ HK1.out).cell (i := 1) rfl
  have c2 := (H0.out.2.2.2 _ HK1.out).cell (i := 2) rfl
  have c3 := (H0.out.2.2.2 _ HK1.out).cell (i := 3) rfl
  have hS : w1.cell? ⟨P, 1, none⟩ = some (.pointer (some ⟨rb, 0, none⟩)) ∧ w1.cell? ⟨O, 1, none⟩ = some (.int .i64 A) ∧ w1.cell? ⟨O, 2, none⟩ = some (.int .i64 B) ∧ w1.cell? ⟨O, 3, none⟩ = some (.int .i64 C) := ⟨c0, c1, c2, c3⟩
  go_wp2_with fail
  go_region_held3 (fun w' => w'.cell? ⟨P, 1, none⟩ = some (.pointer (some ⟨rb, 0, none⟩)) ∧ w'.cell? ⟨O, 1, none⟩ = some (.int .i64 A) ∧ w'.cell? ⟨O, 2, none⟩ = some (.int .i64 B) ∧ w'.cell? ⟨O, 3, none⟩ = some (.int .i64 C)) (first | exact hS | exact hS2)
    (first | (go_at_call 26; refine (H2.out _ ((H0.out.2.2.1.trans HK1.out fun _ _ e => e).trans ((Keeps.refl _ w1).drew) fun _ _ e => e)).mono ?_; rintro e w2 ⟨rfl, hk1⟩; have hK1' : Keeps (fun _ => False) w1 w2 := ((Keeps.refl _ w1).drew).trans hk1 fun _ _ h => h; have hS2 : w2.cell? ⟨P, 1, none⟩ = some (.pointer (some ⟨rb, 0, none⟩)) ∧ w2.cell? ⟨O, 1, none⟩ = some (.int .i64 A) ∧ w2.cell? ⟨O, 2, none⟩ = some (.int .i64 B) ∧ w2.cell? ⟨O, 3, none⟩ = some (.int .i64 C) := ⟨cell_kept c0 hK1' (fun e => e), cell_kept c1 hK1' (fun e => e), cell_kept c2 hK1' (fun e => e), cell_kept c3 hK1' (fun e => e)⟩; have HK2 : Hid (Keeps (fun _ => False) w1 w2) := hK1'; clear hk1 hK1'))
  clear hS hS2 c0 c1 c2 c3
  go_wp2
  go_ret
  exact ⟨rfl, (H0.out.2.2.1.trans HK1.out fun _ _ e => e).trans HK2.out fun _ _ e => e⟩

set_option maxRecDepth 40000 in
set_option maxHeartbeats 4000000 in
theorem step_write (P b g rb rg n : Nat) (xs : List UInt32) (A B C : Int) (W : UInt32) (s2 s : Value) (w : World) (h : Pr w P b g rb rg n xs) (hA : I64 A) : Calls Try.prog 9 #[.pointer (some ⟨P, 0, none⟩), opV 8 A B C W.toNat s2 s] w fun e w' => e = .returned (.bool true) ∧ Pr w' P b g rb rg n (wrX xs A W) ∧ Keeps (fun k => k = g ∨ k = rg) w w' := by
  obtain ⟨w0, hw0⟩ : ∃ w0, w0 = w.alloc (.cells #[.int .i64 8, .int .i64 A, .int .i64 B, .int .i64 C, .int .u32 (W.toNat : Int), s2, s] 31) := ⟨_, rfl⟩
  have k0 : Keeps (fun _ => False) w w0 := by rw [hw0]; exact (Keeps.refl _ w).alloc _
  obtain ⟨O, hO⟩ : ∃ O, O = w.heap.size := ⟨_, rfl⟩
  have b0 : Blk w0 O [.int .i64 8, .int .i64 A, .int .i64 B, .int .i64 C, .int .u32 (W.toNat : Int), s2, s] 31 := by rw [hw0, hO]; exact Blk.new w _ 31
  have p0 := h.grown k0
  have ho : O ≠ g ∧ O ≠ rg := ⟨by have := h.m.mm.row.lt; omega, by have := h.r.row.lt; omega⟩
  have H0 : Hid (w0 = w.alloc (.cells #[.int .i64 8, .int .i64 A, .int .i64 B, .int .i64 C, .int .u32 (W.toNat : Int), s2, s] 31) ∧ O = w.heap.size ∧ Keeps (fun _ => False) w w0 ∧ Blk w0 O [.int .i64 8, .int .i64 A, .int .i64 B, .int .i64 C, .int .u32 (W.toNat : Int), s2, s] 31 ∧ Pr w0 P b g rb rg n xs ∧ O ≠ g ∧ O ≠ rg) := ⟨hw0, hO, k0, b0, p0, ho⟩
  have H1 : Hid (Calls _ _ _ _ _) := write_any b g n xs A W w0.drew (p0.m.grown ((Keeps.refl (fun _ => False) w0).drew)) hA
  have H2 : Hid (∀ w', Rn w' rb rg n xs → Calls Try.prog 30 #[.pointer (some ⟨rb, 0, none⟩), .int .i64 A, .int .u32 (W.toNat : Int)] w' _) := fun w' hr => rwrite_any rb rg n xs A W w' hr hA
  have c0 := p0.p.cell (i := 0) rfl
  have c1 := b0.cell (i := 1) rfl
  have c4 := b0.cell (i := 4) rfl
  clear h hA hw0 hO k0 b0 p0 ho
  have hS : w0.cell? ⟨P, 0, none⟩ = some (.pointer (some ⟨b, 0, none⟩)) ∧ w0.cell? ⟨O, 1, none⟩ = some (.int .i64 A) ∧ w0.cell? ⟨O, 4, none⟩ = some (.int .u32 (W.toNat : Int)) := ⟨c0, c1, c4⟩
  have HN : Hid (P ≠ g ∧ P ≠ rg ∧ O ≠ g ∧ O ≠ rg) := ⟨H0.out.2.2.2.2.1.n1, H0.out.2.2.2.2.1.n2, H0.out.2.2.2.2.2⟩
  obtain ⟨X, hX⟩ : ∃ X, X = W.toNat := ⟨_, rfl⟩
  rw [← hX] at H0 H1 H2 c4 hS ⊢
  have HX : Hid (X = W.toNat) := hX
  clear hX
  go_enter Try.func9, Try.ntmps9
  go_wp2_with fail
  rw [← H0.out.1, ← H0.out.2.1]
  go_region_held3 (fun w' => w'.cell? ⟨P, 0, none⟩ = some (.pointer (some ⟨b, 0, none⟩)) ∧ w'.cell? ⟨O, 1, none⟩ = some (.int .i64 A) ∧ w'.cell? ⟨O, 4, none⟩ = some (.int .u32 X)) (first | exact hS | exact hS2)
    (first | (go_at_call 29; refine H1.out.mono ?_; rintro e w1 ⟨rfl, hM1, hk1⟩; have hK1' : Keeps (· = g) w0 w1 := ((Keeps.refl _ w0).drew).trans hk1 fun _ _ h => h; have hS2 : w1.cell? ⟨P, 0, none⟩ = some (.pointer (some ⟨b, 0, none⟩)) ∧ w1.cell? ⟨O, 1, none⟩ = some (.int .i64 A) ∧ w1.cell? ⟨O, 4, none⟩ = some (.int .u32 X) := ⟨cell_kept c0 hK1' HN.out.1, cell_kept c1 hK1' HN.out.2.2.1, cell_kept c4 hK1' HN.out.2.2.1⟩; have HK1 : Hid (Mn w1 b g n (wrX xs A W) ∧ Keeps (· = g) w0 w1) := ⟨hM1, hK1'⟩; clear hM1 hk1 hK1'))
  clear hS hS2
  have c0' := (H0.out.2.2.2.2.1.p.kept HK1.out.2 HN.out.1).cell (i := 1) rfl
  have c1' := cell_kept c1 HK1.out.2 HN.out.2.2.1
  have c4' := cell_kept c4 HK1.out.2 HN.out.2.2.1
  clear c0 c1 c4
  have hS : w1.cell? ⟨P, 1, none⟩ = some (.pointer (some ⟨rb, 0, none⟩)) ∧ w1.cell? ⟨O, 1, none⟩ = some (.int .i64 A) ∧ w1.cell? ⟨O, 4, none⟩ = some (.int .u32 X) := ⟨c0', c1', c4'⟩
  have hr1 := (H0.out.2.2.2.2.1.r.kept HK1.out.2 H0.out.2.2.2.2.1.n4 (fun e => H0.out.2.2.2.2.1.n5 e.symm)).grown ((Keeps.refl (fun _ => False) w1).drew)
  have H3 : Hid (Calls _ _ _ _ _) := H2.out _ hr1
  clear hr1
  go_wp2_with fail
  go_region_held3 (fun w' => w'.cell? ⟨P, 1, none⟩ = some (.pointer (some ⟨rb, 0, none⟩)) ∧ w'.cell? ⟨O, 1, none⟩ = some (.int .i64 A) ∧ w'.cell? ⟨O, 4, none⟩ = some (.int .u32 X)) (first | exact hS | exact hS2)
    (first | (go_at_call 30; refine H3.out.mono ?_; rintro e w2 ⟨rfl, hM1, hk1⟩; have hK1' : Keeps (· = rg) w1 w2 := ((Keeps.refl _ w1).drew).trans hk1 fun _ _ h => h; have hS2 : w2.cell? ⟨P, 1, none⟩ = some (.pointer (some ⟨rb, 0, none⟩)) ∧ w2.cell? ⟨O, 1, none⟩ = some (.int .i64 A) ∧ w2.cell? ⟨O, 4, none⟩ = some (.int .u32 X) := ⟨cell_kept c0' hK1' HN.out.2.1, cell_kept c1' hK1' HN.out.2.2.2, cell_kept c4' hK1' HN.out.2.2.2⟩; have HK2 : Hid (Rn w2 rb rg n (wrX xs A W) ∧ Keeps (· = rg) w1 w2) := ⟨hM1, hK1'⟩; clear hM1 hk1 hK1'))
  clear hS hS2 c0' c1' c4'
  go_wp2
  go_ret
  have hp := H0.out.2.2.2.2.1
  refine ⟨rfl, ⟨(hp.p.kept HK1.out.2 hp.n1).kept HK2.out.2 hp.n2, HK1.out.1.kept HK2.out.2 hp.n3 hp.n5, HK2.out.1, hp.n1, hp.n2, hp.n3, hp.n4, hp.n5⟩, ((H0.out.2.2.1.mono fun _ _ e => e.elim).trans HK1.out.2 fun _ _ e => .inl e).trans HK2.out.2 fun _ _ e => .inr e⟩

open Go.RowKit
set_option linter.unusedVariables false
set_option linter.unusedSimpArgs false

theorem all51n (a b c : Int) : (#[Value.int .i64 a, .int .i64 b, .int .i64 c].all (·.oneCell')) = true := by kernel_rfl
theorem size51n : (Try.prog.info? 51).map (·.size) = some 3 := by kernel_rfl
set_option maxRecDepth 40000 in
set_option maxHeartbeats 4000000 in
theorem step_walk (P b g rb rg n : Nat) (xs : List UInt32) (A B C : Int) (W : Nat) (s2 s : Value) (w : World) (h : Pr w P b g rb rg n xs) (hA : I64 A) : Calls Try.prog 9 #[.pointer (some ⟨P, 0, none⟩), opV 3 A B C W s2 s] w fun e w' => e = .returned (.bool true) ∧ Keeps (fun _ => False) w w' := by
  obtain ⟨w0, hw0⟩ : ∃ w0, w0 = w.alloc (.cells #[.int .i64 3, .int .i64 A, .int .i64 B, .int .i64 C, .int .u32 W, s2, s] 31) := ⟨_, rfl⟩
  have k0 : Keeps (fun _ => False) w w0 := by rw [hw0]; exact (Keeps.refl _ w).alloc _
  obtain ⟨O, hO⟩ : ∃ O, O = w.heap.size := ⟨_, rfl⟩
  have b0 : Blk w0 O [.int .i64 3, .int .i64 A, .int .i64 B, .int .i64 C, .int .u32 W, s2, s] 31 := by rw [hw0, hO]; exact Blk.new w _ 31
  have HP : Hid (∀ w', Keeps (fun _ => False) w w' → Pr w' P b g rb rg n xs) := fun w' hK => h.grown hK
  have H0 : Hid (w0 = w.alloc (.cells #[.int .i64 3, .int .i64 A, .int .i64 B, .int .i64 C, .int .u32 W, s2, s] 31) ∧ O = w.heap.size ∧ Keeps (fun _ => False) w w0 ∧ ∀ w', Keeps (fun _ => False) w0 w' → Blk w' O [.int .i64 3, .int .i64 A, .int .i64 B, .int .i64 C, .int .u32 W, s2, s] 31) := ⟨hw0, hO, k0, fun w' hK => b0.kept hK fun e => e⟩
  obtain ⟨X, hX⟩ : ∃ X, X = walkL n xs A B := ⟨_, rfl⟩
  obtain ⟨E, hE⟩ : ∃ E, E = walkE n xs A B := ⟨_, rfl⟩
  have H1 : Hid (∀ w', Keeps (fun _ => False) w w' → Calls Try.prog 16 #[.pointer (some ⟨b, 0, none⟩), .int .i64 A, .int .i64 B] w' fun e w' => e = .returned (.tuple #[X.v, .int .i64 (E : Nat)]) ∧ Keeps (fun _ => False) _ w') := fun w' hK => by rw [hX, hE]; exact walk_any b g n xs A B w' (h.grown hK).m
  have H2 : Hid (∀ w', Keeps (fun _ => False) w w' → Calls Try.prog 25 #[.pointer (some ⟨rb, 0, none⟩), .int .i64 A, .int .i64 B] w' fun e w' => e = .returned (.tuple #[X.v, .int .i64 (E : Nat)]) ∧ Keeps (fun _ => False) _ w') := fun w' hK => by rw [hX, hE]; exact rwalk_any rb rg n xs A B w' (h.grown hK).r hA.1 hA.2
  have c0 := (h.grown k0).p.cell (i := 0) rfl
  have c1 := b0.cell (i := 1) rfl
  have c2 := b0.cell (i := 2) rfl
  have hS : w0.cell? ⟨P, 0, none⟩ = some (.pointer (some ⟨b, 0, none⟩)) ∧ w0.cell? ⟨O, 1, none⟩ = some (.int .i64 A) ∧ w0.cell? ⟨O, 2, none⟩ = some (.int .i64 B) := ⟨c0, c1, c2⟩
  have HS : Hid (∀ w', Keeps (fun _ => False) w0 w' → w'.cell? ⟨P, 0, none⟩ = some (.pointer (some ⟨b, 0, none⟩)) ∧ w'.cell? ⟨O, 1, none⟩ = some (.int .i64 A) ∧ w'.cell? ⟨O, 2, none⟩ = some (.int .i64 B)) := fun w' hK => ⟨cell_kept c0 hK (fun e => e), cell_kept c1 hK (fun e => e), cell_kept c2 hK (fun e => e)⟩
  clear h hA hw0 hO k0 b0 hX hE
  go_enter Try.func9, Try.ntmps9
  go_wp2_with fail
  rw [← H0.out.1, ← H0.out.2.1]
  go_cut [5, 6] from 29 to 41 (fun t u wx => ∃ B5, t = .pointer (some ⟨B5, 0, none⟩) ∧ u = .int .i64 (E : Nat) ∧ Blk wx B5 X.vs 51 ∧ Keeps (fun _ => False) w0 wx)
  case first =>
    refine wp_region_held_drew (S := fun w' => w'.cell? ⟨P, 0, none⟩ = some (.pointer (some ⟨b, 0, none⟩)) ∧ w'.cell? ⟨O, 1, none⟩ = some (.int .i64 A) ∧ w'.cell? ⟨O, 2, none⟩ = some (.int .i64 B)) Try.mixed (HS.out _ (Keeps.refl _ w0).drew) (fun hHeld => ?_)
    simp only [List.size_toArray, List.length_cons, List.length_nil, Nat.reduceAdd, Array.replicate_succ, Array.replicate_zero, List.push_toArray, List.append_toArray, List.nil_append, List.cons_append]
    refine wpAnyH_take (i := 0) (v := .pointer (some ⟨P, 0, none⟩)) rfl (by kernel_rfl) (by kernel_rfl) (by kernel_rfl) (fun _ _ _ h => h) (Or.inl ⟨by kernel_rfl, by (intro w hSw; (try dsimp only at hSw); go_simp)⟩) hHeld ?_
    simp only [Act.put, List.setIfInBounds_toArray, List.set_cons_zero, List.set_cons_succ]
    refine wpAnyH_take (i := 1) (v := .pointer (some ⟨P, 0, none⟩)) rfl (by kernel_rfl) (by kernel_rfl) (by kernel_rfl) (fun _ _ _ h => h) (Or.inl ⟨by kernel_rfl, by (intro w hSw; (try dsimp only at hSw); go_simp)⟩) hHeld ?_
    simp only [Act.put, List.setIfInBounds_toArray, List.set_cons_zero, List.set_cons_succ]
    refine wpAnyH_take (i := 2) (v := .pointer (some ⟨P, 0, none⟩)) rfl (by kernel_rfl) (by kernel_rfl) (by kernel_rfl) (fun _ _ _ h => h) (Or.inl ⟨by kernel_rfl, by (intro w hSw; (try dsimp only at hSw); go_simp)⟩) hHeld ?_
    simp only [Act.put, List.setIfInBounds_toArray, List.set_cons_zero, List.set_cons_succ]
    refine wpAnyH_take (i := 3) (v := .pointer (some ⟨b, 0, none⟩)) rfl (by kernel_rfl) (by kernel_rfl) (by kernel_rfl) (fun _ _ _ h => h) (Or.inl ⟨by kernel_rfl, by (intro w hSw; (try dsimp only at hSw); go_simp)⟩) hHeld ?_
    simp only [Act.put, List.setIfInBounds_toArray, List.set_cons_zero, List.set_cons_succ]
    refine wpAnyH_take (i := 4) (v := .pointer (some ⟨O, 1, none⟩)) rfl (by kernel_rfl) (by kernel_rfl) (by kernel_rfl) (fun _ _ _ h => h) (Or.inl ⟨by kernel_rfl, by (intro w hSw; (try dsimp only at hSw); go_simp)⟩) hHeld ?_
    simp only [Act.put, List.setIfInBounds_toArray, List.set_cons_zero, List.set_cons_succ]
    refine wpAnyH_take (i := 5) (v := .int .i64 A) rfl (by kernel_rfl) (by kernel_rfl) (by kernel_rfl) (fun _ _ _ h => h) (Or.inl ⟨by kernel_rfl, by (intro w hSw; (try dsimp only at hSw); go_simp)⟩) hHeld ?_
    simp only [Act.put, List.setIfInBounds_toArray, List.set_cons_zero, List.set_cons_succ]
    refine wpAnyH_take (i := 6) (v := .pointer (some ⟨O, 2, none⟩)) rfl (by kernel_rfl) (by kernel_rfl) (by kernel_rfl) (fun _ _ _ h => h) (Or.inl ⟨by kernel_rfl, by (intro w hSw; (try dsimp only at hSw); go_simp)⟩) hHeld ?_
    simp only [Act.put, List.setIfInBounds_toArray, List.set_cons_zero, List.set_cons_succ]
    refine wpAnyH_take (i := 7) (v := .int .i64 B) rfl (by kernel_rfl) (by kernel_rfl) (by kernel_rfl) (fun _ _ _ h => h) (Or.inl ⟨by kernel_rfl, by (intro w hSw; (try dsimp only at hSw); go_simp)⟩) hHeld ?_
    simp only [Act.put, List.setIfInBounds_toArray, List.set_cons_zero, List.set_cons_succ]
    refine wpAnyH_ready (rs := [8, 12]) (by kernel_rfl) (by simp) ?_
    refine AllReadyH.cons rfl (fun Kq hK => ?_) (AllReadyH.cons rfl (fun Kq hK => ?_) AllReadyH.nil)
    · go_simp
      refine (H1.out _ ((H0.out.2.2.1).trans ((Keeps.refl _ w0).drew) fun _ _ e => e)).mono ?_
      rintro e w2 ⟨rfl, hk2⟩
      have kA : Keeps (fun _ => False) w0 w2 := ((Keeps.refl _ w0).drew).trans hk2 fun _ _ e => e
      refine hK.out _ _ (HS.out _ kA) (fun hHeld => ?_)
      simp only [Act.put, List.setIfInBounds_toArray, List.set_cons_zero, List.set_cons_succ]
      refine wpAnyH_take (i := 9) (v := .tuple #[X.v, .int .i64 (E : Nat)]) rfl (by kernel_rfl) (by kernel_rfl) (by kernel_rfl) (fun _ _ _ h => h) (Or.inl ⟨by kernel_rfl, by (intro w hSw; (try dsimp only at hSw); go_simp)⟩) hHeld ?_
      simp only [Act.put, List.setIfInBounds_toArray, List.set_cons_zero, List.set_cons_succ]
      refine wpAnyH_take (i := 10) (v := X.v) rfl (by kernel_rfl) (by kernel_rfl) (by kernel_rfl) (fun _ _ _ h => h) (Or.inl ⟨by kernel_rfl, by (intro w hSw; (try dsimp only at hSw); go_simp)⟩) hHeld ?_
      simp only [Act.put, List.setIfInBounds_toArray, List.set_cons_zero, List.set_cons_succ]
      refine wpAnyH_take (i := 11) (v := .int .i64 (E : Nat)) rfl (by kernel_rfl) (by kernel_rfl) (by kernel_rfl) (fun _ _ _ h => h) (Or.inl ⟨by kernel_rfl, by (intro w hSw; (try dsimp only at hSw); go_simp)⟩) hHeld ?_
      simp only [Act.put, List.setIfInBounds_toArray, List.set_cons_zero, List.set_cons_succ]
      refine wpAnyH_ready (rs := [12]) (by kernel_rfl) (by simp) ?_
      refine AllReadyH.cons rfl (fun Kq hK => ?_) AllReadyH.nil
      go_simp
      have kB : Keeps (fun _ => False) w0 (w2.alloc (.cells #[.int .i64 0, .int .i64 0, .int .i64 0] 51)) := kA.alloc _
      have bB : Blk (w2.alloc (.cells #[.int .i64 0, .int .i64 0, .int .i64 0] 51)) w2.heap.size [.int .i64 0, .int .i64 0, .int .i64 0] 51 := Blk.new w2 _ 51
      refine hK.out _ _ (HS.out _ (kA.alloc _)) (fun hHeld => ?_)
      simp only [Act.put, List.setIfInBounds_toArray, List.set_cons_zero, List.set_cons_succ]
      refine wpAnyH_ready (rs := [13]) (by kernel_rfl) (by simp) ?_
      refine AllReadyH.cons rfl (fun Kq hK => ?_) AllReadyH.nil
      rw [if_pos (by rfl)]
      simp only [List.getElem_toArray, List.getElem_cons_succ, List.getElem_cons_zero]
      refine wp_store_row 51 (.tmp 5) (.tmp 39) rfl w2.heap.size #[.int .i64 X.page, .int .i64 X.frame, .int .i64 X.rights] rfl rfl 51 _ bB size51n rfl (all51n ..) ?_
      have kC : Keeps (fun _ => False) w0 ((w2.alloc (.cells #[.int .i64 0, .int .i64 0, .int .i64 0] 51)).setRow w2.heap.size #[.int .i64 X.page, .int .i64 X.frame, .int .i64 X.rights]) := kB.setRow _ _ fun e => by have := kA.size; omega
      have bC : Blk ((w2.alloc (.cells #[.int .i64 0, .int .i64 0, .int .i64 0] 51)).setRow w2.heap.size #[.int .i64 X.page, .int .i64 X.frame, .int .i64 X.rights]) w2.heap.size X.vs 51 := bB.setRow X.vs
      refine hK.out _ _ (HS.out _ kC) (fun hHeld => ?_)
      simp only [Act.put, List.setIfInBounds_toArray, List.set_cons_zero, List.set_cons_succ]
      refine wpAnyH_take (i := 14) (v := .int .i64 (E : Nat)) rfl (by kernel_rfl) (by kernel_rfl) (by kernel_rfl) (fun _ _ _ h => h) (Or.inl ⟨by kernel_rfl, by (intro w hSw; (try dsimp only at hSw); go_simp)⟩) hHeld ?_
      simp only [Act.put, List.setIfInBounds_toArray, List.set_cons_zero, List.set_cons_succ, List.getElem_toArray, List.getElem_cons_succ, List.getElem_cons_zero]
      refine wpAnyH_done (by kernel_rfl) ?_ _
      have HF : Hid (Blk _ w2.heap.size X.vs 51 ∧ Keeps (fun _ => False) w0 _) := ⟨bC, kC⟩
      clear hHeld hK bB bC kA kB kC hk2
      go_wp2_with fail
      go_meet
      exact ⟨_, rfl, rfl, HF.out.1, HF.out.2⟩
    · go_simp
      have kA : Keeps (fun _ => False) w0 ((w0.alloc (.cells #[.int .i64 0, .int .i64 0, .int .i64 0] 51)).drew) := ((Keeps.refl _ w0).alloc _).drew
      have bA : Blk ((w0.alloc (.cells #[.int .i64 0, .int .i64 0, .int .i64 0] 51)).drew) w0.heap.size [.int .i64 0, .int .i64 0, .int .i64 0] 51 := (Blk.new w0 _ 51).drew
      refine hK.out _ _ (HS.out _ kA) (fun hHeld => ?_)
      simp only [Act.put, List.setIfInBounds_toArray, List.set_cons_zero, List.set_cons_succ]
      refine wpAnyH_ready (rs := [8]) (by kernel_rfl) (by simp) ?_
      refine AllReadyH.cons rfl (fun Kq hK => ?_) AllReadyH.nil
      go_simp
      refine (H1.out _ ((H0.out.2.2.1).trans kA fun _ _ e => e)).mono ?_
      rintro e w2 ⟨rfl, hk2⟩
      have kB : Keeps (fun _ => False) w0 w2 := kA.trans hk2 fun _ _ e => e
      have bB : Blk w2 w0.heap.size [.int .i64 0, .int .i64 0, .int .i64 0] 51 := bA.kept hk2 fun e => e
      refine hK.out _ _ (HS.out _ kB) (fun hHeld => ?_)
      simp only [Act.put, List.setIfInBounds_toArray, List.set_cons_zero, List.set_cons_succ]
      refine wpAnyH_take (i := 9) (v := .tuple #[X.v, .int .i64 (E : Nat)]) rfl (by kernel_rfl) (by kernel_rfl) (by kernel_rfl) (fun _ _ _ h => h) (Or.inl ⟨by kernel_rfl, by (intro w hSw; (try dsimp only at hSw); go_simp)⟩) hHeld ?_
      simp only [Act.put, List.setIfInBounds_toArray, List.set_cons_zero, List.set_cons_succ]
      refine wpAnyH_take (i := 10) (v := X.v) rfl (by kernel_rfl) (by kernel_rfl) (by kernel_rfl) (fun _ _ _ h => h) (Or.inl ⟨by kernel_rfl, by (intro w hSw; (try dsimp only at hSw); go_simp)⟩) hHeld ?_
      simp only [Act.put, List.setIfInBounds_toArray, List.set_cons_zero, List.set_cons_succ]
      refine wpAnyH_take (i := 11) (v := .int .i64 (E : Nat)) rfl (by kernel_rfl) (by kernel_rfl) (by kernel_rfl) (fun _ _ _ h => h) (Or.inl ⟨by kernel_rfl, by (intro w hSw; (try dsimp only at hSw); go_simp)⟩) hHeld ?_
      simp only [Act.put, List.setIfInBounds_toArray, List.set_cons_zero, List.set_cons_succ]
      refine wpAnyH_ready (rs := [13]) (by kernel_rfl) (by simp) ?_
      refine AllReadyH.cons rfl (fun Kq hK => ?_) AllReadyH.nil
      rw [if_pos (by rfl)]
      simp only [List.getElem_toArray, List.getElem_cons_succ, List.getElem_cons_zero]
      refine wp_store_row 51 (.tmp 5) (.tmp 39) rfl w0.heap.size #[.int .i64 X.page, .int .i64 X.frame, .int .i64 X.rights] rfl rfl 51 _ bB size51n rfl (all51n ..) ?_
      have kC : Keeps (fun _ => False) w0 (w2.setRow w0.heap.size #[.int .i64 X.page, .int .i64 X.frame, .int .i64 X.rights]) := kB.setRow _ _ fun e => by omega
      have bC : Blk (w2.setRow w0.heap.size #[.int .i64 X.page, .int .i64 X.frame, .int .i64 X.rights]) w0.heap.size X.vs 51 := bB.setRow X.vs
      refine hK.out _ _ (HS.out _ kC) (fun hHeld => ?_)
      simp only [Act.put, List.setIfInBounds_toArray, List.set_cons_zero, List.set_cons_succ]
      refine wpAnyH_take (i := 14) (v := .int .i64 (E : Nat)) rfl (by kernel_rfl) (by kernel_rfl) (by kernel_rfl) (fun _ _ _ h => h) (Or.inl ⟨by kernel_rfl, by (intro w hSw; (try dsimp only at hSw); go_simp)⟩) hHeld ?_
      simp only [Act.put, List.setIfInBounds_toArray, List.set_cons_zero, List.set_cons_succ, List.getElem_toArray, List.getElem_cons_succ, List.getElem_cons_zero]
      refine wpAnyH_done (by kernel_rfl) ?_ _
      have HF : Hid (Blk _ w0.heap.size X.vs 51 ∧ Keeps (fun _ => False) w0 _) := ⟨bC, kC⟩
      clear hHeld hK bA bB bC kA kB kC hk2
      go_wp2_with fail
      go_meet
      exact ⟨_, rfl, rfl, HF.out.1, HF.out.2⟩
  obtain ⟨B5, rfl, rfl, f1, f2⟩ := hcut
  obtain ⟨wd, hwd⟩ : ∃ wd, wd = wc := ⟨_, rfl⟩
  subst hwd
  have HD : Hid (Blk wd B5 X.vs 51 ∧ Keeps (fun _ => False) w0 wd) := ⟨f1, f2⟩
  clear f1 f2 hS c0 c1 c2 HS
  have HS2 : Hid (∀ w', Keeps (fun _ => False) wd w' → w'.cell? ⟨P, 1, none⟩ = some (.pointer (some ⟨rb, 0, none⟩)) ∧ w'.cell? ⟨O, 1, none⟩ = some (.int .i64 A) ∧ w'.cell? ⟨O, 2, none⟩ = some (.int .i64 B)) := fun w' hK =>
    ⟨(HP.out _ ((H0.out.2.2.1.trans HD.out.2 fun _ _ e => e).trans hK fun _ _ e => e)).p.cell (i := 1) rfl, (H0.out.2.2.2 _ (HD.out.2.trans hK fun _ _ e => e)).cell (i := 1) rfl, (H0.out.2.2.2 _ (HD.out.2.trans hK fun _ _ e => e)).cell (i := 2) rfl⟩
  go_wp2_with fail
  go_cut [7, 8] from 41 to 53 (fun t u wx => ∃ B5, t = .pointer (some ⟨B5, 0, none⟩) ∧ u = .int .i64 (E : Nat) ∧ Blk wx B5 X.vs 51 ∧ Keeps (fun _ => False) wd wx)
  case first =>
    refine wp_region_held_drew (S := fun w' => w'.cell? ⟨P, 1, none⟩ = some (.pointer (some ⟨rb, 0, none⟩)) ∧ w'.cell? ⟨O, 1, none⟩ = some (.int .i64 A) ∧ w'.cell? ⟨O, 2, none⟩ = some (.int .i64 B)) Try.mixed (HS2.out _ (Keeps.refl _ wd).drew) (fun hHeld => ?_)
    simp only [List.size_toArray, List.length_cons, List.length_nil, Nat.reduceAdd, Array.replicate_succ, Array.replicate_zero, List.push_toArray, List.append_toArray, List.nil_append, List.cons_append]
    refine wpAnyH_take (i := 0) (v := .pointer (some ⟨P, 0, none⟩)) rfl (by kernel_rfl) (by kernel_rfl) (by kernel_rfl) (fun _ _ _ h => h) (Or.inl ⟨by kernel_rfl, by (intro w hSw; (try dsimp only at hSw); go_simp)⟩) hHeld ?_
    simp only [Act.put, List.setIfInBounds_toArray, List.set_cons_zero, List.set_cons_succ]
    refine wpAnyH_take (i := 1) (v := .pointer (some ⟨P, 0, none⟩)) rfl (by kernel_rfl) (by kernel_rfl) (by kernel_rfl) (fun _ _ _ h => h) (Or.inl ⟨by kernel_rfl, by (intro w hSw; (try dsimp only at hSw); go_simp)⟩) hHeld ?_
    simp only [Act.put, List.setIfInBounds_toArray, List.set_cons_zero, List.set_cons_succ]
    refine wpAnyH_take (i := 2) (v := .pointer (some ⟨P, 1, none⟩)) rfl (by kernel_rfl) (by kernel_rfl) (by kernel_rfl) (fun _ _ _ h => h) (Or.inl ⟨by kernel_rfl, by (intro w hSw; (try dsimp only at hSw); go_simp)⟩) hHeld ?_
    simp only [Act.put, List.setIfInBounds_toArray, List.set_cons_zero, List.set_cons_succ]
    refine wpAnyH_take (i := 3) (v := .pointer (some ⟨rb, 0, none⟩)) rfl (by kernel_rfl) (by kernel_rfl) (by kernel_rfl) (fun _ _ _ h => h) (Or.inl ⟨by kernel_rfl, by (intro w hSw; (try dsimp only at hSw); go_simp)⟩) hHeld ?_
    simp only [Act.put, List.setIfInBounds_toArray, List.set_cons_zero, List.set_cons_succ]
    refine wpAnyH_take (i := 4) (v := .pointer (some ⟨O, 1, none⟩)) rfl (by kernel_rfl) (by kernel_rfl) (by kernel_rfl) (fun _ _ _ h => h) (Or.inl ⟨by kernel_rfl, by (intro w hSw; (try dsimp only at hSw); go_simp)⟩) hHeld ?_
    simp only [Act.put, List.setIfInBounds_toArray, List.set_cons_zero, List.set_cons_succ]
    refine wpAnyH_take (i := 5) (v := .int .i64 A) rfl (by kernel_rfl) (by kernel_rfl) (by kernel_rfl) (fun _ _ _ h => h) (Or.inl ⟨by kernel_rfl, by (intro w hSw; (try dsimp only at hSw); go_simp)⟩) hHeld ?_
    simp only [Act.put, List.setIfInBounds_toArray, List.set_cons_zero, List.set_cons_succ]
    refine wpAnyH_take (i := 6) (v := .pointer (some ⟨O, 2, none⟩)) rfl (by kernel_rfl) (by kernel_rfl) (by kernel_rfl) (fun _ _ _ h => h) (Or.inl ⟨by kernel_rfl, by (intro w hSw; (try dsimp only at hSw); go_simp)⟩) hHeld ?_
    simp only [Act.put, List.setIfInBounds_toArray, List.set_cons_zero, List.set_cons_succ]
    refine wpAnyH_take (i := 7) (v := .int .i64 B) rfl (by kernel_rfl) (by kernel_rfl) (by kernel_rfl) (fun _ _ _ h => h) (Or.inl ⟨by kernel_rfl, by (intro w hSw; (try dsimp only at hSw); go_simp)⟩) hHeld ?_
    simp only [Act.put, List.setIfInBounds_toArray, List.set_cons_zero, List.set_cons_succ]
    refine wpAnyH_ready (rs := [8, 12]) (by kernel_rfl) (by simp) ?_
    refine AllReadyH.cons rfl (fun Kq hK => ?_) (AllReadyH.cons rfl (fun Kq hK => ?_) AllReadyH.nil)
    · go_simp
      refine (H2.out _ ((H0.out.2.2.1.trans HD.out.2 fun _ _ e => e).trans ((Keeps.refl _ wd).drew) fun _ _ e => e)).mono ?_
      rintro e w2 ⟨rfl, hk2⟩
      have kA : Keeps (fun _ => False) wd w2 := ((Keeps.refl _ wd).drew).trans hk2 fun _ _ e => e
      refine hK.out _ _ (HS2.out _ kA) (fun hHeld => ?_)
      simp only [Act.put, List.setIfInBounds_toArray, List.set_cons_zero, List.set_cons_succ]
      refine wpAnyH_take (i := 9) (v := .tuple #[X.v, .int .i64 (E : Nat)]) rfl (by kernel_rfl) (by kernel_rfl) (by kernel_rfl) (fun _ _ _ h => h) (Or.inl ⟨by kernel_rfl, by (intro w hSw; (try dsimp only at hSw); go_simp)⟩) hHeld ?_
      simp only [Act.put, List.setIfInBounds_toArray, List.set_cons_zero, List.set_cons_succ]
      refine wpAnyH_take (i := 10) (v := X.v) rfl (by kernel_rfl) (by kernel_rfl) (by kernel_rfl) (fun _ _ _ h => h) (Or.inl ⟨by kernel_rfl, by (intro w hSw; (try dsimp only at hSw); go_simp)⟩) hHeld ?_
      simp only [Act.put, List.setIfInBounds_toArray, List.set_cons_zero, List.set_cons_succ]
      refine wpAnyH_take (i := 11) (v := .int .i64 (E : Nat)) rfl (by kernel_rfl) (by kernel_rfl) (by kernel_rfl) (fun _ _ _ h => h) (Or.inl ⟨by kernel_rfl, by (intro w hSw; (try dsimp only at hSw); go_simp)⟩) hHeld ?_
      simp only [Act.put, List.setIfInBounds_toArray, List.set_cons_zero, List.set_cons_succ]
      refine wpAnyH_ready (rs := [12]) (by kernel_rfl) (by simp) ?_
      refine AllReadyH.cons rfl (fun Kq hK => ?_) AllReadyH.nil
      go_simp
      have kB : Keeps (fun _ => False) wd (w2.alloc (.cells #[.int .i64 0, .int .i64 0, .int .i64 0] 51)) := kA.alloc _
      have bB : Blk (w2.alloc (.cells #[.int .i64 0, .int .i64 0, .int .i64 0] 51)) w2.heap.size [.int .i64 0, .int .i64 0, .int .i64 0] 51 := Blk.new w2 _ 51
      refine hK.out _ _ (HS2.out _ (kA.alloc _)) (fun hHeld => ?_)
      simp only [Act.put, List.setIfInBounds_toArray, List.set_cons_zero, List.set_cons_succ]
      refine wpAnyH_ready (rs := [13]) (by kernel_rfl) (by simp) ?_
      refine AllReadyH.cons rfl (fun Kq hK => ?_) AllReadyH.nil
      rw [if_pos (by rfl)]
      simp only [List.getElem_toArray, List.getElem_cons_succ, List.getElem_cons_zero]
      refine wp_store_row 51 (.tmp 7) (.tmp 51) rfl w2.heap.size #[.int .i64 X.page, .int .i64 X.frame, .int .i64 X.rights] rfl rfl 51 _ bB size51n rfl (all51n ..) ?_
      have kC : Keeps (fun _ => False) wd ((w2.alloc (.cells #[.int .i64 0, .int .i64 0, .int .i64 0] 51)).setRow w2.heap.size #[.int .i64 X.page, .int .i64 X.frame, .int .i64 X.rights]) := kB.setRow _ _ fun e => by have := kA.size; omega
      have bC : Blk ((w2.alloc (.cells #[.int .i64 0, .int .i64 0, .int .i64 0] 51)).setRow w2.heap.size #[.int .i64 X.page, .int .i64 X.frame, .int .i64 X.rights]) w2.heap.size X.vs 51 := bB.setRow X.vs
      refine hK.out _ _ (HS2.out _ kC) (fun hHeld => ?_)
      simp only [Act.put, List.setIfInBounds_toArray, List.set_cons_zero, List.set_cons_succ]
      refine wpAnyH_take (i := 14) (v := .int .i64 (E : Nat)) rfl (by kernel_rfl) (by kernel_rfl) (by kernel_rfl) (fun _ _ _ h => h) (Or.inl ⟨by kernel_rfl, by (intro w hSw; (try dsimp only at hSw); go_simp)⟩) hHeld ?_
      simp only [Act.put, List.setIfInBounds_toArray, List.set_cons_zero, List.set_cons_succ, List.getElem_toArray, List.getElem_cons_succ, List.getElem_cons_zero]
      refine wpAnyH_done (by kernel_rfl) ?_ _
      have HF : Hid (Blk _ w2.heap.size X.vs 51 ∧ Keeps (fun _ => False) wd _) := ⟨bC, kC⟩
      clear hHeld hK bB bC kA kB kC hk2
      go_wp2_with fail
      go_meet
      exact ⟨_, rfl, rfl, HF.out.1, HF.out.2⟩
    · go_simp
      have kA : Keeps (fun _ => False) wd ((wd.alloc (.cells #[.int .i64 0, .int .i64 0, .int .i64 0] 51)).drew) := ((Keeps.refl _ wd).alloc _).drew
      have bA : Blk ((wd.alloc (.cells #[.int .i64 0, .int .i64 0, .int .i64 0] 51)).drew) wd.heap.size [.int .i64 0, .int .i64 0, .int .i64 0] 51 := (Blk.new wd _ 51).drew
      refine hK.out _ _ (HS2.out _ kA) (fun hHeld => ?_)
      simp only [Act.put, List.setIfInBounds_toArray, List.set_cons_zero, List.set_cons_succ]
      refine wpAnyH_ready (rs := [8]) (by kernel_rfl) (by simp) ?_
      refine AllReadyH.cons rfl (fun Kq hK => ?_) AllReadyH.nil
      go_simp
      refine (H2.out _ ((H0.out.2.2.1.trans HD.out.2 fun _ _ e => e).trans kA fun _ _ e => e)).mono ?_
      rintro e w2 ⟨rfl, hk2⟩
      have kB : Keeps (fun _ => False) wd w2 := kA.trans hk2 fun _ _ e => e
      have bB : Blk w2 wd.heap.size [.int .i64 0, .int .i64 0, .int .i64 0] 51 := bA.kept hk2 fun e => e
      refine hK.out _ _ (HS2.out _ kB) (fun hHeld => ?_)
      simp only [Act.put, List.setIfInBounds_toArray, List.set_cons_zero, List.set_cons_succ]
      refine wpAnyH_take (i := 9) (v := .tuple #[X.v, .int .i64 (E : Nat)]) rfl (by kernel_rfl) (by kernel_rfl) (by kernel_rfl) (fun _ _ _ h => h) (Or.inl ⟨by kernel_rfl, by (intro w hSw; (try dsimp only at hSw); go_simp)⟩) hHeld ?_
      simp only [Act.put, List.setIfInBounds_toArray, List.set_cons_zero, List.set_cons_succ]
      refine wpAnyH_take (i := 10) (v := X.v) rfl (by kernel_rfl) (by kernel_rfl) (by kernel_rfl) (fun _ _ _ h => h) (Or.inl ⟨by kernel_rfl, by (intro w hSw; (try dsimp only at hSw); go_simp)⟩) hHeld ?_
      simp only [Act.put, List.setIfInBounds_toArray, List.set_cons_zero, List.set_cons_succ]
      refine wpAnyH_take (i := 11) (v := .int .i64 (E : Nat)) rfl (by kernel_rfl) (by kernel_rfl) (by kernel_rfl) (fun _ _ _ h => h) (Or.inl ⟨by kernel_rfl, by (intro w hSw; (try dsimp only at hSw); go_simp)⟩) hHeld ?_
      simp only [Act.put, List.setIfInBounds_toArray, List.set_cons_zero, List.set_cons_succ]
      refine wpAnyH_ready (rs := [13]) (by kernel_rfl) (by simp) ?_
      refine AllReadyH.cons rfl (fun Kq hK => ?_) AllReadyH.nil
      rw [if_pos (by rfl)]
      simp only [List.getElem_toArray, List.getElem_cons_succ, List.getElem_cons_zero]
      refine wp_store_row 51 (.tmp 7) (.tmp 51) rfl wd.heap.size #[.int .i64 X.page, .int .i64 X.frame, .int .i64 X.rights] rfl rfl 51 _ bB size51n rfl (all51n ..) ?_
      have kC : Keeps (fun _ => False) wd (w2.setRow wd.heap.size #[.int .i64 X.page, .int .i64 X.frame, .int .i64 X.rights]) := kB.setRow _ _ fun e => by omega
      have bC : Blk (w2.setRow wd.heap.size #[.int .i64 X.page, .int .i64 X.frame, .int .i64 X.rights]) wd.heap.size X.vs 51 := bB.setRow X.vs
      refine hK.out _ _ (HS2.out _ kC) (fun hHeld => ?_)
      simp only [Act.put, List.setIfInBounds_toArray, List.set_cons_zero, List.set_cons_succ]
      refine wpAnyH_take (i := 14) (v := .int .i64 (E : Nat)) rfl (by kernel_rfl) (by kernel_rfl) (by kernel_rfl) (fun _ _ _ h => h) (Or.inl ⟨by kernel_rfl, by (intro w hSw; (try dsimp only at hSw); go_simp)⟩) hHeld ?_
      simp only [Act.put, List.setIfInBounds_toArray, List.set_cons_zero, List.set_cons_succ, List.getElem_toArray, List.getElem_cons_succ, List.getElem_cons_zero]
      refine wpAnyH_done (by kernel_rfl) ?_ _
      have HF : Hid (Blk _ wd.heap.size X.vs 51 ∧ Keeps (fun _ => False) wd _) := ⟨bC, kC⟩
      clear hHeld hK bA bB bC kA kB kC hk2
      go_wp2_with fail
      go_meet
      exact ⟨_, rfl, rfl, HF.out.1, HF.out.2⟩
  obtain ⟨B6, rfl, rfl, f1, f2⟩ := hcut
  obtain ⟨we, hwe⟩ : ∃ we, we = wc := ⟨_, rfl⟩
  subst hwe
  have g1 := HD.out.1.kept f2 fun e => e
  have kz := (H0.out.2.2.1.trans HD.out.2 fun _ _ e => e).trans f2 fun _ _ e => e
  have a0 := g1.cell (i := 0) rfl
  have a1 := g1.cell (i := 1) rfl
  have a2 := g1.cell (i := 2) rfl
  have e0 := f1.cell (i := 0) rfl
  have e1 := f1.cell (i := 1) rfl
  have e2 := f1.cell (i := 2) rfl
  clear f1 f2 g1
  go_wp2
  go_ret
  exact ⟨rfl, kz⟩
end Go.Proofs.Ytpccdhoaicabcaa
