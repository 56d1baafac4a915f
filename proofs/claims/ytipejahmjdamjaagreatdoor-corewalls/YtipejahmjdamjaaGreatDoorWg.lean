import Derived.Test.YtipejahmjdamjaaGreatDoorWe
namespace Go.Proofs.YtipejahmjdamjaaGreatDoor
open Go.RowKit Go.Shelf
set_option linter.unusedVariables false
set_option maxRecDepth 6000

theorem eq38 (r0 r1 r2 r3 r4 r5 r6 r7 r8 r9 r10 r11 r12 r13 r14 r15 : UInt32) (w : World) : (Op.equalIn 9999 38 (.agg #[.int .u32 (r0.toNat : Int), .int .u32 (r1.toNat : Int), .int .u32 (r2.toNat : Int), .int .u32 (r3.toNat : Int), .int .u32 (r4.toNat : Int), .int .u32 (r5.toNat : Int), .int .u32 (r6.toNat : Int), .int .u32 (r7.toNat : Int), .int .u32 (r8.toNat : Int), .int .u32 (r9.toNat : Int), .int .u32 (r10.toNat : Int), .int .u32 (r11.toNat : Int), .int .u32 (r12.toNat : Int), .int .u32 (r13.toNat : Int), .int .u32 (r14.toNat : Int), .int .u32 (r15.toNat : Int)]) (.agg #[.int .u32 (r0.toNat : Int), .int .u32 (r1.toNat : Int), .int .u32 (r2.toNat : Int), .int .u32 (r3.toNat : Int), .int .u32 (r4.toNat : Int), .int .u32 (r5.toNat : Int), .int .u32 (r6.toNat : Int), .int .u32 (r7.toNat : Int), .int .u32 (r8.toNat : Int), .int .u32 (r9.toNat : Int), .int .u32 (r10.toNat : Int), .int .u32 (r11.toNat : Int), .int .u32 (r12.toNat : Int), .int .u32 (r13.toNat : Int), .int .u32 (r14.toNat : Int), .int .u32 (r15.toNat : Int)])).run Tryz.prog w = .ok true w := by
  have hs := lits_arr 265 [r0, r1, r2, r3, r4, r5, r6, r7, r8, r9, r10, r11, r12, r13, r14, r15] rfl
  obtain ⟨L, hL⟩ := Option.isSome_iff_exists.1 hs
  obtain ⟨r, h1, h2⟩ := run_equalIn_deep (P := Tryz.prog) 9995 4 38 (by kernel_rfl) w _ _ (.agg #[.int .u32 (r0.toNat : Int), .int .u32 (r1.toNat : Int), .int .u32 (r2.toNat : Int), .int .u32 (r3.toNat : Int), .int .u32 (r4.toNat : Int), .int .u32 (r5.toNat : Int), .int .u32 (r6.toNat : Int), .int .u32 (r7.toNat : Int), .int .u32 (r8.toNat : Int), .int .u32 (r9.toNat : Int), .int .u32 (r10.toNat : Int), .int .u32 (r11.toNat : Int), .int .u32 (r12.toNat : Int), .int .u32 (r13.toNat : Int), .int .u32 (r14.toNat : Int), .int .u32 (r15.toNat : Int)]) (.agg #[.int .u32 (r0.toNat : Int), .int .u32 (r1.toNat : Int), .int .u32 (r2.toNat : Int), .int .u32 (r3.toNat : Int), .int .u32 (r4.toNat : Int), .int .u32 (r5.toNat : Int), .int .u32 (r6.toNat : Int), .int .u32 (r7.toNat : Int), .int .u32 (r8.toNat : Int), .int .u32 (r9.toNat : Int), .int .u32 (r10.toNat : Int), .int .u32 (r11.toNat : Int), .int .u32 (r12.toNat : Int), .int .u32 (r13.toNat : Int), .int .u32 (r14.toNat : Int), .int .u32 (r15.toNat : Int)]) L L (by kernel_rfl) (by kernel_rfl) hL hL
  have : (Op.equalIn 9999 38 (.agg #[.int .u32 (r0.toNat : Int), .int .u32 (r1.toNat : Int), .int .u32 (r2.toNat : Int), .int .u32 (r3.toNat : Int), .int .u32 (r4.toNat : Int), .int .u32 (r5.toNat : Int), .int .u32 (r6.toNat : Int), .int .u32 (r7.toNat : Int), .int .u32 (r8.toNat : Int), .int .u32 (r9.toNat : Int), .int .u32 (r10.toNat : Int), .int .u32 (r11.toNat : Int), .int .u32 (r12.toNat : Int), .int .u32 (r13.toNat : Int), .int .u32 (r14.toNat : Int), .int .u32 (r15.toNat : Int)]) (.agg #[.int .u32 (r0.toNat : Int), .int .u32 (r1.toNat : Int), .int .u32 (r2.toNat : Int), .int .u32 (r3.toNat : Int), .int .u32 (r4.toNat : Int), .int .u32 (r5.toNat : Int), .int .u32 (r6.toNat : Int), .int .u32 (r7.toNat : Int), .int .u32 (r8.toNat : Int), .int .u32 (r9.toNat : Int), .int .u32 (r10.toNat : Int), .int .u32 (r11.toNat : Int), .int .u32 (r12.toNat : Int), .int .u32 (r13.toNat : Int), .int .u32 (r14.toNat : Int), .int .u32 (r15.toNat : Int)])).run Tryz.prog w = .ok r w := h1
  rw [this, h2.2 rfl]

set_option maxHeartbeats 16000000 in
theorem walls_above (a : Option Addr) (cp n : Nat) (root : Int) (clock : Nat) (xs : List UInt32) (r0 r1 r2 r3 r4 r5 r6 r7 r8 r9 r10 r11 r12 r13 r14 r15 : UInt32) (rg : List UInt32) (hrg : rg = [r0, r1, r2, r3, r4, r5, r6, r7, r8, r9, r10, r11, r12, r13, r14, r15]) (pc : Nat) (w : World) (hx : SegW w a xs) (hn : xs.length = n * 16) (h1 : 1 ≤ n) (h2 : n ≤ 1024) (hr : ¬ (0 ≤ root ∧ root < n)) (h00 : ¬ root < 0) (hg : rg.length = 16) (hp : pc < 4294967296) (hT : Is.Tabs w) :
    Calls Tryz.prog 6 #[.slice a xs.length cp, .int .i64 root, .agg (ctx rg pc).toArray, .int .u32 clock] w fun e w' => e = .returned (.bool true) ∧ Keeps (fun _ => False) w w' := by
  have Hrg : Hid (rg = [r0, r1, r2, r3, r4, r5, r6, r7, r8, r9, r10, r11, r12, r13, r14, r15]) := hrg
  have H00 : Hid (¬ root < 0) := h00
  clear hrg h00
  obtain ⟨W, hW⟩ : ∃ W, W = w.alloc (.cells (ctx rg pc).toArray 40) := ⟨_, rfl⟩
  have hK0 : Keeps (fun _ => False) w W := by rw [hW]; exact (Keeps.refl _ w).alloc _
  have hBX : Blk W w.heap.size (ctx rg pc) 40 := by rw [hW]; exact Blk.new w _ 40
  obtain ⟨X, eX⟩ : ∃ X, X = w.heap.size := ⟨_, rfl⟩
  rw [← eX] at hBX
  have hxW := hx.kept hK0 fun _ _ h => h
  have H1 : Hid (Calls _ _ _ _ _) := of_yes a cp xs n W hxW hn h1 h2
  have HW : Hid (W = w.alloc (.cells (ctx rg pc).toArray 40)) := hW
  have H0 : Hid (Keeps (fun _ => False) w W ∧ Blk W X (ctx rg pc) 40 ∧ X = w.heap.size ∧ Is.Tabs w ∧ X < W.heap.size) := ⟨hK0, hBX, eX, hT, hBX.lt⟩
  have HQ : Hid (xs.length = n * 16 ∧ 1 ≤ n ∧ n ≤ 1024 ∧ True ∧ rg.length = 16 ∧ pc < 4294967296 ∧ True) := ⟨hn, h1, h2, trivial, hg, hp, trivial⟩
  obtain ⟨L, eL⟩ : ∃ L, L = xs.length := ⟨_, rfl⟩
  rw [← eL] at H1 ⊢
  have HL : Hid (L = xs.length) := eL
  have HX : Hid (w.heap.size = X) := eX.symm
  clear hx hn h1 h2 hg hp hT hW hK0 hBX hxW eL eX
  go_enter Tryz.func6, Tryz.ntmps6
  go_upto_region 1 with fail
  rw [← HW.out, HX.out]
  go_wp2_with fail
  refine H1.out.mono ?_
  rintro e w1 ⟨b, rfl, hM1, hb1, hK1⟩
  obtain ⟨g, eg⟩ : ∃ g, g = W.heap.size := ⟨_, rfl⟩
  rw [← eg] at hM1
  have H2 : Hid (Calls _ _ _ _ _) := clone_any b g n xs w1 hM1
  have H3 : Hid (Mn w1 b g n xs ∧ g = W.heap.size ∧ W.heap.size ≤ b ∧ Keeps (fun _ => False) W w1) := ⟨hM1, eg, hb1, hK1⟩
  clear hM1 eg hb1 hK1 H1
  go_wp2_with fail
  refine H2.out.mono ?_
  rintro e w2 ⟨b2, rfl, hM2, hb2, hK2⟩
  obtain ⟨g2, eg2⟩ : ∃ g2, g2 = w1.heap.size := ⟨_, rfl⟩
  rw [← eg2] at hM2
  have h2w : 2 ≤ w2.heap.size := by
    have z1 := tabs_two H0.out.2.2.2.1
    have z2 := H0.out.1.size
    have z3 := H3.out.2.2.2.size
    have z4 := hK2.size
    omega
  have H4 : Hid (Calls _ _ _ _ _) := new_core w2 h2w
  have H5 : Hid (Mn w2 b2 g2 n xs ∧ g2 = w1.heap.size ∧ w1.heap.size ≤ b2 ∧ Keeps (fun _ => False) w1 w2) := ⟨hM2, eg2, hb2, hK2⟩
  clear hM2 eg2 hb2 hK2 h2w H2
  go_wp2_with fail
  refine H4.out.mono ?_
  rintro e w3 ⟨c, tb, cb, FT, FC, rfl, hC, hnw, hK3⟩
  have hKW3 : Keeps (fun _ => False) W w3 := (H3.out.2.2.2.trans H5.out.2.2.2 fun _ _ h => h).trans hK3 fun _ _ h => h
  have HRa : Hid (w3.rangeAt X 0 (ctx rg pc) ∧ (Tryz.prog.info? 40).map (·.size) = some (ctx rg pc).length) := ⟨fun j v hv => by rw [Nat.zero_add]; exact (H0.out.2.1.kept hKW3 fun h => h).cell hv, by rw [ctx_len HQ.out.2.2.2.2.1]; kernel_rfl⟩
  have H6 : Hid (Calls _ _ _ _ _) := set_any c tb cb (List.replicate 16 0) rg 0 pc [] (fun _ => []) FT FC w3 hC HQ.out.2.2.2.2.1 HQ.out.2.2.2.2.2.1
  have H7 : Hid ((∀ k, (k = c ∨ FT k ∨ FC k) → w2.heap.size ≤ k) ∧ Keeps (fun _ => False) w2 w3 ∧ Keeps (fun _ => False) W w3) := ⟨hnw, hK3, hKW3⟩
  clear hC hnw hK3 hKW3 H4
  go_wp2_with (refine wpList_load_mid rfl 40 (.tmp 6) rfl X 0 rfl (ctx rg pc) _ HRa.out.1 Tryz.underlying40 rfl HRa.out.2 ?_; refine Hid.out ?_)
  unfold Hid
  go_wp2_with fail
  refine H6.out.mono ?_
  rintro e w4 ⟨rfl, hC4, hK4⟩
  have s0 := H0.out.2.2.2.2
  have s1 := H3.out.2.2.2.size
  have s2 := H5.out.2.2.2.size
  have s3 := H7.out.2.1.size
  have s4 := hK4.size
  have l1 : b < w1.heap.size ∧ g < w1.heap.size := ⟨H3.out.1.mm.blk.lt, H3.out.1.mm.row.lt⟩
  have l2 : b2 < w2.heap.size ∧ g2 < w2.heap.size := ⟨H5.out.1.mm.blk.lt, H5.out.1.mm.row.lt⟩
  have hnw := H7.out.1
  have hcl : w2.heap.size ≤ c := hnw c (.inl rfl)
  have e1 := H3.out.2.1
  have e2 := H3.out.2.2.1
  have e3 := H5.out.2.1
  have e4 := H5.out.2.2.1
  have hM4 : Mn w4 b g n xs := ((H3.out.1.grown H5.out.2.2.2).grown H7.out.2.1).kept hK4 (by show ¬ b = c; omega) (by show ¬ g = c; omega)
  have hQ4 : Mn w4 b2 g2 n xs := (H5.out.1.grown H7.out.2.1).kept hK4 (by show ¬ b2 = c; omega) (by show ¬ g2 = c; omega)
  have hX4 : Blk w4 X (ctx rg pc) 40 := (H0.out.2.1.kept H7.out.2.2 fun h => h).kept hK4 (by show ¬ X = c; omega)
  have hT4 : Is.Tabs w4 := tabs_kept (tabs_kept (tabs_kept H0.out.2.2.2.1 H0.out.1 fun _ h => h.elim) H7.out.2.2 fun _ h => h.elim) hK4 fun k e => hC4.two k (.inl e)
  have H8 : Hid (Calls _ _ _ _ _) := step_err c tb cb b g n root clock rg pc [] (fun _ => []) FT FC xs w4 hC4 hM4 hr
  have H9 : Hid (CoreAt w4 c tb cb rg pc [] (fun _ => []) FT FC ∧ Mn w4 b g n xs ∧ Mn w4 b2 g2 n xs ∧ Blk w4 X (ctx rg pc) 40 ∧ Is.Tabs w4 ∧ Keeps (fun _ => False) w w4) := by
    have zw := H0.out.1.size
    have zx := H0.out.2.2.1
    exact ⟨hC4, hM4, hQ4, hX4, hT4, ((H0.out.1.trans H7.out.2.2 fun _ _ h => h).trans hK4 fun k hk' e => by omega)⟩
  have Hr : Hid (¬ (0 ≤ root ∧ root < n)) := hr
  clear hC4 hK4 s0 s1 s2 s3 s4 l1 l2 hnw hcl e1 e2 e3 e4 hM4 hQ4 hX4 hT4 H6 HRa hr
  go_wp2_with fail
  refine H8.out.mono ?_
  rintro e w5 ⟨rfl, hK5⟩
  have hk5 : Keeps (fun _ => False) w4 (w5.alloc (.cells #[.int .i64 0, .int .i64 0, .int .i64 0, .int .u32 0, .int .u32 0, .bool false, .int .u32 0, .int .u32 0] 58)) := hK5.alloc _
  obtain ⟨W5, hW5⟩ : ∃ W5, W5 = w5.alloc (.cells #[.int .i64 0, .int .i64 0, .int .i64 0, .int .u32 0, .int .u32 0, .bool false, .int .u32 0, .int .u32 0] 58) := ⟨_, rfl⟩
  rw [← hW5] at hk5
  obtain ⟨hC4, hM4, hQ4, hX4, hT4, hk4⟩ := H9.out
  have H10 : Hid (CoreAt W5 c tb cb rg pc [] (fun _ => []) FT FC ∧ Mn W5 b g n xs ∧ Mn W5 b2 g2 n xs ∧ Blk W5 X (ctx rg pc) 40 ∧ Is.Tabs W5 ∧ Keeps (fun _ => False) w W5) := ⟨hC4.kept hk5 fun _ _ h => h, hM4.grown hk5, hQ4.grown hk5, hX4.kept hk5 fun h => h, tabs_kept hT4 hk5 fun _ h => h.elim, hk4.trans hk5 fun _ _ h => h⟩
  have HW5 : Hid (W5 = w5.alloc (.cells #[.int .i64 0, .int .i64 0, .int .i64 0, .int .u32 0, .int .u32 0, .bool false, .int .u32 0, .int .u32 0] 58)) := hW5
  clear hK5 hk5 hW5 hC4 hM4 hQ4 hX4 hT4 hk4 H8
  go_upto_region 9 with fail
  rw [← HW5.out]
  have kd : Keeps (fun _ => False) W5 W5.drew := (Keeps.refl (fun _ => False) W5).drewN 1
  have HFr : Hid (Calls Tryz.prog 34 #[ptr b] W5.drew fun e w' => e = .returned (.int .i64 n) ∧ w' = W5.drew) := frames_any b g xs n W5.drew (H10.out.2.1.grown kd).mm H10.out.2.1.len
  have HCx : Hid (Calls Tryz.prog 19 #[ptr c] W5.drew fun e w' => e = .returned (.agg #[.int .u32 (r0.toNat : Int), .int .u32 (r1.toNat : Int), .int .u32 (r2.toNat : Int), .int .u32 (r3.toNat : Int), .int .u32 (r4.toNat : Int), .int .u32 (r5.toNat : Int), .int .u32 (r6.toNat : Int), .int .u32 (r7.toNat : Int), .int .u32 (r8.toNat : Int), .int .u32 (r9.toNat : Int), .int .u32 (r10.toNat : Int), .int .u32 (r11.toNat : Int), .int .u32 (r12.toNat : Int), .int .u32 (r13.toNat : Int), .int .u32 (r14.toNat : Int), .int .u32 (r15.toNat : Int), .int .u32 (pc : Int)]) ∧ Keeps (fun _ => False) W5.drew w') := by
    have := context_any c tb cb rg pc [] (fun _ => []) FT FC W5.drew (H10.out.1.kept kd fun _ _ h => h)
    rw [Hrg.out] at this
    exact this
  have hS : W5.cell? ⟨X, 0, none⟩ = some (.int .u32 (r0.toNat : Int)) ∧ W5.cell? ⟨X, 1, none⟩ = some (.int .u32 (r1.toNat : Int)) ∧ W5.cell? ⟨X, 2, none⟩ = some (.int .u32 (r2.toNat : Int)) ∧ W5.cell? ⟨X, 3, none⟩ = some (.int .u32 (r3.toNat : Int)) ∧ W5.cell? ⟨X, 4, none⟩ = some (.int .u32 (r4.toNat : Int)) ∧ W5.cell? ⟨X, 5, none⟩ = some (.int .u32 (r5.toNat : Int)) ∧ W5.cell? ⟨X, 6, none⟩ = some (.int .u32 (r6.toNat : Int)) ∧ W5.cell? ⟨X, 7, none⟩ = some (.int .u32 (r7.toNat : Int)) ∧ W5.cell? ⟨X, 8, none⟩ = some (.int .u32 (r8.toNat : Int)) ∧ W5.cell? ⟨X, 9, none⟩ = some (.int .u32 (r9.toNat : Int)) ∧ W5.cell? ⟨X, 10, none⟩ = some (.int .u32 (r10.toNat : Int)) ∧ W5.cell? ⟨X, 11, none⟩ = some (.int .u32 (r11.toNat : Int)) ∧ W5.cell? ⟨X, 12, none⟩ = some (.int .u32 (r12.toNat : Int)) ∧ W5.cell? ⟨X, 13, none⟩ = some (.int .u32 (r13.toNat : Int)) ∧ W5.cell? ⟨X, 14, none⟩ = some (.int .u32 (r14.toNat : Int)) ∧ W5.cell? ⟨X, 15, none⟩ = some (.int .u32 (r15.toNat : Int)) ∧ W5.cell? ⟨X, 16, none⟩ = some (.int .u32 (pc : Int)) := by
    have h := H10.out.2.2.2.1
    rw [Hrg.out] at h
    exact ⟨h.cell rfl, h.cell rfl, h.cell rfl, h.cell rfl, h.cell rfl, h.cell rfl, h.cell rfl, h.cell rfl, h.cell rfl, h.cell rfl, h.cell rfl, h.cell rfl, h.cell rfl, h.cell rfl, h.cell rfl, h.cell rfl, h.cell rfl⟩
  have hEq := eq38 r0 r1 r2 r3 r4 r5 r6 r7 r8 r9 r10 r11 r12 r13 r14 r15
  clear kd
  have gg1 : decide (root < 0) = false := decide_eq_false (by have h2 := H00.out; omega)
  have gg2 : decide ((n : Int) ≤ root) = true := decide_eq_true (by have h1 := Hr.out; have h2 := H00.out; omega)
  go_region_held3 (fun w' => w'.cell? ⟨X, 0, none⟩ = some (.int .u32 (r0.toNat : Int)) ∧ w'.cell? ⟨X, 1, none⟩ = some (.int .u32 (r1.toNat : Int)) ∧ w'.cell? ⟨X, 2, none⟩ = some (.int .u32 (r2.toNat : Int)) ∧ w'.cell? ⟨X, 3, none⟩ = some (.int .u32 (r3.toNat : Int)) ∧ w'.cell? ⟨X, 4, none⟩ = some (.int .u32 (r4.toNat : Int)) ∧ w'.cell? ⟨X, 5, none⟩ = some (.int .u32 (r5.toNat : Int)) ∧ w'.cell? ⟨X, 6, none⟩ = some (.int .u32 (r6.toNat : Int)) ∧ w'.cell? ⟨X, 7, none⟩ = some (.int .u32 (r7.toNat : Int)) ∧ w'.cell? ⟨X, 8, none⟩ = some (.int .u32 (r8.toNat : Int)) ∧ w'.cell? ⟨X, 9, none⟩ = some (.int .u32 (r9.toNat : Int)) ∧ w'.cell? ⟨X, 10, none⟩ = some (.int .u32 (r10.toNat : Int)) ∧ w'.cell? ⟨X, 11, none⟩ = some (.int .u32 (r11.toNat : Int)) ∧ w'.cell? ⟨X, 12, none⟩ = some (.int .u32 (r12.toNat : Int)) ∧ w'.cell? ⟨X, 13, none⟩ = some (.int .u32 (r13.toNat : Int)) ∧ w'.cell? ⟨X, 14, none⟩ = some (.int .u32 (r14.toNat : Int)) ∧ w'.cell? ⟨X, 15, none⟩ = some (.int .u32 (r15.toNat : Int)) ∧ w'.cell? ⟨X, 16, none⟩ = some (.int .u32 (pc : Int))) (first | exact hS | exact hS6 | exact hS7 | exact hS8 | exact hS9 | exact hS10 | go_keep)
    (first
      | (go_at_call 34; refine HFr.out.mono ?_; rintro e wz ⟨rfl, hw⟩; obtain rfl := hw.symm; clear hw)
      | (go_at_call 19; refine HCx.out.mono ?_; rintro e w6 ⟨rfl, hK6⟩; have kk6 : Keeps (fun _ => False) W5 w6 := ((Keeps.refl (fun _ => False) W5).drew).trans hK6 fun _ _ h => h; have hS6 : w6.cell? ⟨X, 0, none⟩ = some (.int .u32 (r0.toNat : Int)) ∧ w6.cell? ⟨X, 1, none⟩ = some (.int .u32 (r1.toNat : Int)) ∧ w6.cell? ⟨X, 2, none⟩ = some (.int .u32 (r2.toNat : Int)) ∧ w6.cell? ⟨X, 3, none⟩ = some (.int .u32 (r3.toNat : Int)) ∧ w6.cell? ⟨X, 4, none⟩ = some (.int .u32 (r4.toNat : Int)) ∧ w6.cell? ⟨X, 5, none⟩ = some (.int .u32 (r5.toNat : Int)) ∧ w6.cell? ⟨X, 6, none⟩ = some (.int .u32 (r6.toNat : Int)) ∧ w6.cell? ⟨X, 7, none⟩ = some (.int .u32 (r7.toNat : Int)) ∧ w6.cell? ⟨X, 8, none⟩ = some (.int .u32 (r8.toNat : Int)) ∧ w6.cell? ⟨X, 9, none⟩ = some (.int .u32 (r9.toNat : Int)) ∧ w6.cell? ⟨X, 10, none⟩ = some (.int .u32 (r10.toNat : Int)) ∧ w6.cell? ⟨X, 11, none⟩ = some (.int .u32 (r11.toNat : Int)) ∧ w6.cell? ⟨X, 12, none⟩ = some (.int .u32 (r12.toNat : Int)) ∧ w6.cell? ⟨X, 13, none⟩ = some (.int .u32 (r13.toNat : Int)) ∧ w6.cell? ⟨X, 14, none⟩ = some (.int .u32 (r14.toNat : Int)) ∧ w6.cell? ⟨X, 15, none⟩ = some (.int .u32 (r15.toNat : Int)) ∧ w6.cell? ⟨X, 16, none⟩ = some (.int .u32 (pc : Int)) := (by have h := H10.out.2.2.2.1.kept kk6 fun h => h; rw [Hrg.out] at h; exact ⟨h.cell rfl, h.cell rfl, h.cell rfl, h.cell rfl, h.cell rfl, h.cell rfl, h.cell rfl, h.cell rfl, h.cell rfl, h.cell rfl, h.cell rfl, h.cell rfl, h.cell rfl, h.cell rfl, h.cell rfl, h.cell rfl, h.cell rfl⟩); have HK6 : Hid (Keeps (fun _ => False) W5 w6) := kk6; have HWa : Hid (Calls _ _ _ _ _) := words_any b g xs w6 (H10.out.2.1.grown kk6).mm; clear hK6 kk6)
      | (go_at_call 33; refine HWa.out.mono ?_; rintro e w7 ⟨rfl, hB7, hK7⟩; have kk7 : Keeps (fun _ => False) W5 w7 := HK6.out.trans hK7 fun _ _ h => h; have hS7 : w7.cell? ⟨X, 0, none⟩ = some (.int .u32 (r0.toNat : Int)) ∧ w7.cell? ⟨X, 1, none⟩ = some (.int .u32 (r1.toNat : Int)) ∧ w7.cell? ⟨X, 2, none⟩ = some (.int .u32 (r2.toNat : Int)) ∧ w7.cell? ⟨X, 3, none⟩ = some (.int .u32 (r3.toNat : Int)) ∧ w7.cell? ⟨X, 4, none⟩ = some (.int .u32 (r4.toNat : Int)) ∧ w7.cell? ⟨X, 5, none⟩ = some (.int .u32 (r5.toNat : Int)) ∧ w7.cell? ⟨X, 6, none⟩ = some (.int .u32 (r6.toNat : Int)) ∧ w7.cell? ⟨X, 7, none⟩ = some (.int .u32 (r7.toNat : Int)) ∧ w7.cell? ⟨X, 8, none⟩ = some (.int .u32 (r8.toNat : Int)) ∧ w7.cell? ⟨X, 9, none⟩ = some (.int .u32 (r9.toNat : Int)) ∧ w7.cell? ⟨X, 10, none⟩ = some (.int .u32 (r10.toNat : Int)) ∧ w7.cell? ⟨X, 11, none⟩ = some (.int .u32 (r11.toNat : Int)) ∧ w7.cell? ⟨X, 12, none⟩ = some (.int .u32 (r12.toNat : Int)) ∧ w7.cell? ⟨X, 13, none⟩ = some (.int .u32 (r13.toNat : Int)) ∧ w7.cell? ⟨X, 14, none⟩ = some (.int .u32 (r14.toNat : Int)) ∧ w7.cell? ⟨X, 15, none⟩ = some (.int .u32 (r15.toNat : Int)) ∧ w7.cell? ⟨X, 16, none⟩ = some (.int .u32 (pc : Int)) := (by have h := H10.out.2.2.2.1.kept kk7 fun h => h; rw [Hrg.out] at h; exact ⟨h.cell rfl, h.cell rfl, h.cell rfl, h.cell rfl, h.cell rfl, h.cell rfl, h.cell rfl, h.cell rfl, h.cell rfl, h.cell rfl, h.cell rfl, h.cell rfl, h.cell rfl, h.cell rfl, h.cell rfl, h.cell rfl, h.cell rfl⟩); have HK7 : Hid (Keeps (fun _ => False) W5 w7 ∧ Blk w7 w6.heap.size (wvs xs) 37) := ⟨kk7, hB7⟩; have HWb : Hid (Calls _ _ _ _ _) := words_any b2 g2 xs w7 (H10.out.2.2.1.grown kk7).mm; clear hK7 kk7 hB7 HWa)
      | (go_at_call 33; refine HWb.out.mono ?_; rintro e w8 ⟨rfl, hB8, hK8⟩; have kk8 : Keeps (fun _ => False) W5 w8 := HK7.out.1.trans hK8 fun _ _ h => h; have hS8 : w8.cell? ⟨X, 0, none⟩ = some (.int .u32 (r0.toNat : Int)) ∧ w8.cell? ⟨X, 1, none⟩ = some (.int .u32 (r1.toNat : Int)) ∧ w8.cell? ⟨X, 2, none⟩ = some (.int .u32 (r2.toNat : Int)) ∧ w8.cell? ⟨X, 3, none⟩ = some (.int .u32 (r3.toNat : Int)) ∧ w8.cell? ⟨X, 4, none⟩ = some (.int .u32 (r4.toNat : Int)) ∧ w8.cell? ⟨X, 5, none⟩ = some (.int .u32 (r5.toNat : Int)) ∧ w8.cell? ⟨X, 6, none⟩ = some (.int .u32 (r6.toNat : Int)) ∧ w8.cell? ⟨X, 7, none⟩ = some (.int .u32 (r7.toNat : Int)) ∧ w8.cell? ⟨X, 8, none⟩ = some (.int .u32 (r8.toNat : Int)) ∧ w8.cell? ⟨X, 9, none⟩ = some (.int .u32 (r9.toNat : Int)) ∧ w8.cell? ⟨X, 10, none⟩ = some (.int .u32 (r10.toNat : Int)) ∧ w8.cell? ⟨X, 11, none⟩ = some (.int .u32 (r11.toNat : Int)) ∧ w8.cell? ⟨X, 12, none⟩ = some (.int .u32 (r12.toNat : Int)) ∧ w8.cell? ⟨X, 13, none⟩ = some (.int .u32 (r13.toNat : Int)) ∧ w8.cell? ⟨X, 14, none⟩ = some (.int .u32 (r14.toNat : Int)) ∧ w8.cell? ⟨X, 15, none⟩ = some (.int .u32 (r15.toNat : Int)) ∧ w8.cell? ⟨X, 16, none⟩ = some (.int .u32 (pc : Int)) := (by have h := H10.out.2.2.2.1.kept kk8 fun h => h; rw [Hrg.out] at h; exact ⟨h.cell rfl, h.cell rfl, h.cell rfl, h.cell rfl, h.cell rfl, h.cell rfl, h.cell rfl, h.cell rfl, h.cell rfl, h.cell rfl, h.cell rfl, h.cell rfl, h.cell rfl, h.cell rfl, h.cell rfl, h.cell rfl, h.cell rfl⟩); have HK8 : Hid (Keeps (fun _ => False) W5 w8) := kk8; have HSw : Hid (Calls _ _ _ _ _) := sameWords_any w6.heap.size w7.heap.size xs xs.length xs.length w8 (HK7.out.2.kept hK8 fun h => h) hB8 (by have h1 := HQ.out.1; have h2 := HQ.out.2.2.1; omega); clear hK8 kk8 hB8 HWb)
      | (go_at_call 32; refine HSw.out.mono ?_; rintro e w9 ⟨rfl, hK9⟩; have kk9 : Keeps (fun _ => False) W5 w9 := HK8.out.trans hK9 fun _ _ h => h; have hS9 : w9.cell? ⟨X, 0, none⟩ = some (.int .u32 (r0.toNat : Int)) ∧ w9.cell? ⟨X, 1, none⟩ = some (.int .u32 (r1.toNat : Int)) ∧ w9.cell? ⟨X, 2, none⟩ = some (.int .u32 (r2.toNat : Int)) ∧ w9.cell? ⟨X, 3, none⟩ = some (.int .u32 (r3.toNat : Int)) ∧ w9.cell? ⟨X, 4, none⟩ = some (.int .u32 (r4.toNat : Int)) ∧ w9.cell? ⟨X, 5, none⟩ = some (.int .u32 (r5.toNat : Int)) ∧ w9.cell? ⟨X, 6, none⟩ = some (.int .u32 (r6.toNat : Int)) ∧ w9.cell? ⟨X, 7, none⟩ = some (.int .u32 (r7.toNat : Int)) ∧ w9.cell? ⟨X, 8, none⟩ = some (.int .u32 (r8.toNat : Int)) ∧ w9.cell? ⟨X, 9, none⟩ = some (.int .u32 (r9.toNat : Int)) ∧ w9.cell? ⟨X, 10, none⟩ = some (.int .u32 (r10.toNat : Int)) ∧ w9.cell? ⟨X, 11, none⟩ = some (.int .u32 (r11.toNat : Int)) ∧ w9.cell? ⟨X, 12, none⟩ = some (.int .u32 (r12.toNat : Int)) ∧ w9.cell? ⟨X, 13, none⟩ = some (.int .u32 (r13.toNat : Int)) ∧ w9.cell? ⟨X, 14, none⟩ = some (.int .u32 (r14.toNat : Int)) ∧ w9.cell? ⟨X, 15, none⟩ = some (.int .u32 (r15.toNat : Int)) ∧ w9.cell? ⟨X, 16, none⟩ = some (.int .u32 (pc : Int)) := (by have h := H10.out.2.2.2.1.kept kk9 fun h => h; rw [Hrg.out] at h; exact ⟨h.cell rfl, h.cell rfl, h.cell rfl, h.cell rfl, h.cell rfl, h.cell rfl, h.cell rfl, h.cell rfl, h.cell rfl, h.cell rfl, h.cell rfl, h.cell rfl, h.cell rfl, h.cell rfl, h.cell rfl, h.cell rfl, h.cell rfl⟩); have HK9 : Hid (Keeps (fun _ => False) W5 w9) := kk9; have HAw : Hid (Calls _ _ _ _ _) := awake_any w9 (tabs_kept H10.out.2.2.2.2.1 kk9 fun _ h => h.elim); clear hK9 kk9 HSw)
      | (go_at_call 12; refine HAw.out.mono ?_; rintro e w10 ⟨rfl, hK10⟩; have kk10 : Keeps (fun _ => False) W5 w10 := HK9.out.trans hK10 fun _ _ h => h; have hS10 : w10.cell? ⟨X, 0, none⟩ = some (.int .u32 (r0.toNat : Int)) ∧ w10.cell? ⟨X, 1, none⟩ = some (.int .u32 (r1.toNat : Int)) ∧ w10.cell? ⟨X, 2, none⟩ = some (.int .u32 (r2.toNat : Int)) ∧ w10.cell? ⟨X, 3, none⟩ = some (.int .u32 (r3.toNat : Int)) ∧ w10.cell? ⟨X, 4, none⟩ = some (.int .u32 (r4.toNat : Int)) ∧ w10.cell? ⟨X, 5, none⟩ = some (.int .u32 (r5.toNat : Int)) ∧ w10.cell? ⟨X, 6, none⟩ = some (.int .u32 (r6.toNat : Int)) ∧ w10.cell? ⟨X, 7, none⟩ = some (.int .u32 (r7.toNat : Int)) ∧ w10.cell? ⟨X, 8, none⟩ = some (.int .u32 (r8.toNat : Int)) ∧ w10.cell? ⟨X, 9, none⟩ = some (.int .u32 (r9.toNat : Int)) ∧ w10.cell? ⟨X, 10, none⟩ = some (.int .u32 (r10.toNat : Int)) ∧ w10.cell? ⟨X, 11, none⟩ = some (.int .u32 (r11.toNat : Int)) ∧ w10.cell? ⟨X, 12, none⟩ = some (.int .u32 (r12.toNat : Int)) ∧ w10.cell? ⟨X, 13, none⟩ = some (.int .u32 (r13.toNat : Int)) ∧ w10.cell? ⟨X, 14, none⟩ = some (.int .u32 (r14.toNat : Int)) ∧ w10.cell? ⟨X, 15, none⟩ = some (.int .u32 (r15.toNat : Int)) ∧ w10.cell? ⟨X, 16, none⟩ = some (.int .u32 (pc : Int)) := (by have h := H10.out.2.2.2.1.kept kk10 fun h => h; rw [Hrg.out] at h; exact ⟨h.cell rfl, h.cell rfl, h.cell rfl, h.cell rfl, h.cell rfl, h.cell rfl, h.cell rfl, h.cell rfl, h.cell rfl, h.cell rfl, h.cell rfl, h.cell rfl, h.cell rfl, h.cell rfl, h.cell rfl, h.cell rfl, h.cell rfl⟩); have HE : Hid (Keeps (fun _ => False) w w10) := H10.out.2.2.2.2.2.trans kk10 fun _ _ h => h; clear hK10 kk10 HAw))
  clear hS hS6 hS7 hS8 hS9 hS10
  go_wp2
  go_ret
  exact ⟨rfl, HE.out⟩

end Go.Proofs.YtipejahmjdamjaaGreatDoor
