import Derived.Test.YtomjodoimjiceaaDoorGb
namespace Go.Proofs.YtomjodoimjiceaaDoor
open Go.RowKit Go.Shelf
set_option linter.unusedVariables false
set_option linter.unusedSimpArgs false
set_option maxRecDepth 6000

theorem look_ok {Z : Nat} {K : Nat → Prop} {w : World} {s b room : Nat} {P : List (ByteArray × S.Lf)} {k : ByteArray} {y : S.Lf} (h : Es Z K w s b room P) (hl : S.look k P = some y) : LfOk y := by
  unfold S.look at hl
  obtain ⟨p, hp, rfl⟩ := Option.map_eq_some_iff.1 hl
  exact h.2 p (List.mem_of_find?_eq_some hp)

set_option maxHeartbeats 4000000 in
theorem texts_1 (Z s b room : Nat) (K0 : Nat → Prop) (P : List (ByteArray × S.Lf)) (key : Int) (t : ByteArray) (l : S.Lf) (w : World) (h : Es Z K0 w s b room P) (hk : S.I64 t) (hl : LfOk l) :
    Calls Tryd.prog 8 #[ptr s, ptr b, .agg #[.int .i64 1, .int .i64 key, .string t], l.v] w fun r w' => r = .returned (.bool true) ∧ (∃ P', Es Z K0 w' s b room P') ∧ Keeps (fun k => Z ≤ k ∧ ¬ K0 k) w w' := by
  obtain ⟨A, B, W, K1, HX, HAB, HE, HC, HF⟩ := tx_head Z s b room K0 P 1 key t l w h
  have HI : Hid (S.I64 t ∧ LfOk l) := ⟨hk, hl⟩
  have z1 := tx_size hl.1
  have z2 := tx_size hl.2
  clear h hk hl
  go_enter Tryd.func8, Tryd.ntmps8
  go_upto_region 1 with fail
  rw [HX.out, HAB.out.1, HAB.out.2]
  clear HX HAB
  have hEd := HE.out.kept ((Keeps.refl (fun _ => False) W).drew)
  have hKd : Keeps (fun k => Z ≤ k ∧ ¬ K1 k) W W.drew := (Keeps.refl _ W).drew
  obtain ⟨y0, y2, x0, x1⟩ := HC.out W.drew hKd
  have hS : (fun w' : World => w'.cell? ⟨A, 2, none⟩ = some (.string t) ∧ w'.cell? ⟨B, 0, none⟩ = some (.int .i64 l.p) ∧ w'.cell? ⟨B, 1, none⟩ = some (.int .i64 l.f)) W.drew := ⟨y2, x0, x1⟩
  clear y0 y2 x0 x1
  refine wp_region_held_drew (S := (fun w' : World => w'.cell? ⟨A, 2, none⟩ = some (.string t) ∧ w'.cell? ⟨B, 0, none⟩ = some (.int .i64 l.p) ∧ w'.cell? ⟨B, 1, none⟩ = some (.int .i64 l.f))) (by kernel_rfl) hS (fun hHeld => ?_)
  simp only [List.size_toArray, List.length_cons, List.length_nil, Nat.reduceAdd, Array.replicate_succ, Array.replicate_zero, List.push_toArray, List.append_toArray, List.nil_append, List.cons_append]
  refine tk 0 (.pointer (some ⟨B, 0, none⟩)) hHeld ?_
  simp only [Act.put, List.setIfInBounds_toArray, List.set_cons_zero, List.set_cons_succ]
  refine tk 1 (.int .i64 l.p) hHeld ?_
  simp only [Act.put, List.setIfInBounds_toArray, List.set_cons_zero, List.set_cons_succ]
  refine tk 4 (.pointer (some ⟨B, 1, none⟩)) hHeld ?_
  simp only [Act.put, List.setIfInBounds_toArray, List.set_cons_zero, List.set_cons_succ]
  refine tk 5 (.int .i64 l.f) hHeld ?_
  simp only [Act.put, List.setIfInBounds_toArray, List.set_cons_zero, List.set_cons_succ]
  refine wpAnyH_ready (rs := [2]) (by kernel_rfl) (by simp) ?_
  refine AllReadyH.cons rfl (fun Kq hK => ?_) AllReadyH.nil
  go_simp
  refine (key_in hEd l.p HI.out.2.1).mono ?_
  rintro e w1 ⟨rfl, hE1, hk1⟩
  have hK1 : Keeps (fun k => Z ≤ k ∧ ¬ K1 k) W w1 := hKd.trans hk1 fun _ _ e => e.elim
  clear hEd hKd hk1
  obtain ⟨y0, y2, x0, x1⟩ := HC.out w1 hK1
  refine hK.out _ _ ⟨y2, x0, x1⟩ (fun hHeld => ?_)
  clear y0 y2 x0 x1
  simp only [Act.put, List.setIfInBounds_toArray, List.set_cons_zero, List.set_cons_succ]
  refine tk 3 (.string (tx l.p ++ ⟨#[44]⟩)) hHeld ?_ (hr := by intro w hSw; go_simp; omega)
  simp only [Act.put, List.setIfInBounds_toArray, List.set_cons_zero, List.set_cons_succ]
  refine wpAnyH_ready (rs := [6]) (by kernel_rfl) (by simp) ?_
  refine AllReadyH.cons rfl (fun Kq hK => ?_) AllReadyH.nil
  go_simp
  refine (key_in hE1 l.f HI.out.2.2).mono ?_
  rintro e w2 ⟨rfl, hE2, hk2⟩
  have hK2 : Keeps (fun k => Z ≤ k ∧ ¬ K1 k) W w2 := hK1.trans hk2 fun _ _ e => e.elim
  clear hE1 hK1 hk2
  obtain ⟨y0, y2, x0, x1⟩ := HC.out w2 hK2
  refine hK.out _ _ ⟨y2, x0, x1⟩ (fun hHeld => ?_)
  clear y0 y2 x0 x1
  simp only [Act.put, List.setIfInBounds_toArray, List.set_cons_zero, List.set_cons_succ]
  refine tk 7 (.string (tol l)) hHeld ?_ (hr := by intro w hSw; go_simp; rw [if_neg (by omega)]; rfl)
  simp only [Act.put, List.setIfInBounds_toArray, List.set_cons_zero, List.set_cons_succ]
  refine tk 8 (.string (tol l)) hHeld ?_
  simp only [Act.put, List.setIfInBounds_toArray, List.set_cons_zero, List.set_cons_succ]
  refine wpAnyH_done (by kernel_rfl) ?_ _
  have HE2 : Hid (Es Z K1 w2 s b room P) := hE2
  have HK2 : Hid (Keeps (fun k => Z ≤ k ∧ ¬ K1 k) W w2) := hK2
  clear hE2 hK2 hHeld hK hS HE
  obtain ⟨y0, y2, x0, x1⟩ := HC.out w2 HK2.out
  obtain ⟨T, hT⟩ : ∃ T, T = tol l := ⟨_, rfl⟩
  rw [← hT]
  have HT : Hid (T = tol l) := hT
  clear hT
  cases hlk : S.look t P with
  | none =>
    have H1 : Hid (Calls _ _ _ _ _) := get_stepP Z K1 w2 s b room P t HE2.out HI.out.1
    have H2 : Hid (∀ w' F G (K2 : Nat → Prop), Bo Z K2 w' s b room (S.touch t P) (ksP P) (vsP P) F G → Calls Tryd.prog 23 #[ptr b, .string t] w' fun r w2 => r = .returned (.tuple #[.string (tel (S.look t P)), .bool (S.look t P).isSome]) ∧ (∃ P', Es Z K2 w2 s b room P') ∧ Keeps (fun k => Z ≤ k ∧ ¬ K2 k) w' w2) := fun w' F G K2 hB => rget_step Z K2 w' s b room P t HE2.out.2 F G hB HE2.out.nodup.1
    rw [hlk] at H1 H2
    simp only [Option.getD_some, Option.getD_none, Option.isSome_some, Option.isSome_none, tel] at H1 H2
    clear hlk HT z1 z2
    go_wp2_with fail
    refine H1.out.mono ?_
    rintro e w3 ⟨rfl, ⟨F, G, hB⟩, hk3⟩
    have hKa : Keeps (fun _ => False) w3 (w3.alloc (.cells #[.int .i64 (S.Lf.none).p, .int .i64 (S.Lf.none).f] 28)) := (Keeps.refl _ w3).alloc _
    have hB4 := hB.third hKa (fun _ e => e.elim)
    have hKW : Keeps (fun k => Z ≤ k ∧ ¬ K1 k) W (w3.alloc (.cells #[.int .i64 (S.Lf.none).p, .int .i64 (S.Lf.none).f] 28)) := (HK2.out.trans hk3 fun _ _ e => e).trans hKa fun _ _ e => e.elim
    have hC4 : Blk (w3.alloc (.cells #[.int .i64 (S.Lf.none).p, .int .i64 (S.Lf.none).f] 28)) w3.heap.size [.int .i64 (S.Lf.none).p, .int .i64 (S.Lf.none).f] 28 := Blk.new w3 _ 28
    obtain ⟨w4, hw4⟩ : ∃ w4, w4 = w3.alloc (.cells #[.int .i64 (S.Lf.none).p, .int .i64 (S.Lf.none).f] 28) := ⟨_, rfl⟩
    obtain ⟨C, hCe⟩ : ∃ C, C = w3.heap.size := ⟨_, rfl⟩
    have hlt : w3.heap.size < w4.heap.size := by rw [hw4]; simp
    rw [← hw4] at hB4 hKW hC4
    rw [← hCe] at hC4 hlt
    obtain ⟨K2, hK2⟩ : ∃ K2 : Nat → Prop, K2 = fun k => K1 k ∨ (w3.heap.size ≤ k ∧ k < w4.heap.size) := ⟨_, rfl⟩
    rw [← hK2] at hB4
    have hsub : K2 C ∧ ∀ k, K1 k → K2 k := by rw [hK2]; exact ⟨.inr ⟨by rw [hCe]; exact Nat.le_refl _, hlt⟩, fun k e => .inl e⟩
    have H3 : Hid (Calls _ _ _ _ _) := H2.out w4 F G K2 hB4
    have HW4 : Hid (w3.alloc (.cells #[.int .i64 (S.Lf.none).p, .int .i64 (S.Lf.none).f] 28) = w4 ∧ w3.heap.size = C) := ⟨hw4.symm, hCe.symm⟩
    have HZ4 : Hid (Keeps (fun k => Z ≤ k ∧ ¬ K1 k) W w4 ∧ Blk w4 C [.int .i64 (S.Lf.none).p, .int .i64 (S.Lf.none).f] 28 ∧ K2 C ∧ ∀ k, K1 k → K2 k) := ⟨hKW, hC4, hsub⟩
    clear hw4 hCe hK2 hsub hlt hB4 hKW hC4 hKa hk3 H1 H2 HK2 HE2 hB
    clear y0 y2 x0 x1
    obtain ⟨y0, y2, x0, x1⟩ := HC.out w4 HZ4.out.1
    go_upto_region 9 with fail
    rw [HW4.out.1, HW4.out.2]
    clear HW4
    go_wp2_with fail
    refine H3.out.mono ?_
    rintro e w5 ⟨rfl, hP5, hk5⟩
    have hC5 := HZ4.out.2.1.kept hk5 fun e => e.2 HZ4.out.2.2.1
    have HK5 : Hid (Keeps (fun k => Z ≤ k ∧ ¬ K1 k) W w5 ∧ (∃ P', Es Z K1 w5 s b room P')) := ⟨HZ4.out.1.trans hk5 fun k _ e => ⟨e.1, fun e' => e.2 (HZ4.out.2.2.2 k e')⟩, by obtain ⟨P', h'⟩ := hP5; exact ⟨P', h'.less HZ4.out.2.2.2⟩⟩
    clear hP5 hk5
    clear H3 HZ4 y0 y2 x0 x1
    have c0 := hC5.cell (i := 0) rfl
    have c1 := hC5.cell (i := 1) rfl
    clear hC5
    go_wp2
    go_ret
    exact ⟨rfl, HF.out _ HK5.out.1 HK5.out.2⟩
  | some y =>
    have H1 : Hid (Calls _ _ _ _ _) := get_stepP Z K1 w2 s b room P t HE2.out HI.out.1
    have H2 : Hid (∀ w' F G (K2 : Nat → Prop), Bo Z K2 w' s b room (S.touch t P) (ksP P) (vsP P) F G → Calls Tryd.prog 23 #[ptr b, .string t] w' fun r w2 => r = .returned (.tuple #[.string (tel (S.look t P)), .bool (S.look t P).isSome]) ∧ (∃ P', Es Z K2 w2 s b room P') ∧ Keeps (fun k => Z ≤ k ∧ ¬ K2 k) w' w2) := fun w' F G K2 hB => rget_step Z K2 w' s b room P t HE2.out.2 F G hB HE2.out.nodup.1
    rw [hlk] at H1 H2
    simp only [Option.getD_some, Option.getD_none, Option.isSome_some, Option.isSome_none, tel] at H1 H2
    have hy : LfOk y := look_ok HE2.out hlk
    have z3 := tx_size hy.1
    have z4 := tx_size hy.2
    have HY : Hid (LfOk y) := hy
    clear hy
    clear hlk HT z1 z2
    go_wp2_with fail
    refine H1.out.mono ?_
    rintro e w3 ⟨rfl, ⟨F, G, hB⟩, hk3⟩
    have hKa : Keeps (fun _ => False) w3 (w3.alloc (.cells #[.int .i64 (y).p, .int .i64 (y).f] 28)) := (Keeps.refl _ w3).alloc _
    have hB4 := hB.third hKa (fun _ e => e.elim)
    have hKW : Keeps (fun k => Z ≤ k ∧ ¬ K1 k) W (w3.alloc (.cells #[.int .i64 (y).p, .int .i64 (y).f] 28)) := (HK2.out.trans hk3 fun _ _ e => e).trans hKa fun _ _ e => e.elim
    have hC4 : Blk (w3.alloc (.cells #[.int .i64 (y).p, .int .i64 (y).f] 28)) w3.heap.size [.int .i64 (y).p, .int .i64 (y).f] 28 := Blk.new w3 _ 28
    obtain ⟨w4, hw4⟩ : ∃ w4, w4 = w3.alloc (.cells #[.int .i64 (y).p, .int .i64 (y).f] 28) := ⟨_, rfl⟩
    obtain ⟨C, hCe⟩ : ∃ C, C = w3.heap.size := ⟨_, rfl⟩
    have hlt : w3.heap.size < w4.heap.size := by rw [hw4]; simp
    rw [← hw4] at hB4 hKW hC4
    rw [← hCe] at hC4 hlt
    obtain ⟨K2, hK2⟩ : ∃ K2 : Nat → Prop, K2 = fun k => K1 k ∨ (w3.heap.size ≤ k ∧ k < w4.heap.size) := ⟨_, rfl⟩
    rw [← hK2] at hB4
    have hsub : K2 C ∧ ∀ k, K1 k → K2 k := by rw [hK2]; exact ⟨.inr ⟨by rw [hCe]; exact Nat.le_refl _, hlt⟩, fun k e => .inl e⟩
    have H3 : Hid (Calls _ _ _ _ _) := H2.out w4 F G K2 hB4
    have HW4 : Hid (w3.alloc (.cells #[.int .i64 (y).p, .int .i64 (y).f] 28) = w4 ∧ w3.heap.size = C) := ⟨hw4.symm, hCe.symm⟩
    have HZ4 : Hid (Keeps (fun k => Z ≤ k ∧ ¬ K1 k) W w4 ∧ Blk w4 C [.int .i64 (y).p, .int .i64 (y).f] 28 ∧ K2 C ∧ ∀ k, K1 k → K2 k) := ⟨hKW, hC4, hsub⟩
    clear hw4 hCe hK2 hsub hlt hB4 hKW hC4 hKa hk3 H1 H2 HK2 HE2 hB
    clear y0 y2 x0 x1
    obtain ⟨y0, y2, x0, x1⟩ := HC.out w4 HZ4.out.1
    go_upto_region 9 with fail
    rw [HW4.out.1, HW4.out.2]
    clear HW4
    go_wp2_with fail
    refine H3.out.mono ?_
    rintro e w5 ⟨rfl, hP5, hk5⟩
    have hC5 := HZ4.out.2.1.kept hk5 fun e => e.2 HZ4.out.2.2.1
    have HK5 : Hid (Keeps (fun k => Z ≤ k ∧ ¬ K1 k) W w5 ∧ (∃ P', Es Z K1 w5 s b room P')) := ⟨HZ4.out.1.trans hk5 fun k _ e => ⟨e.1, fun e' => e.2 (HZ4.out.2.2.2 k e')⟩, by obtain ⟨P', h'⟩ := hP5; exact ⟨P', h'.less HZ4.out.2.2.2⟩⟩
    clear hP5 hk5
    clear H3 HZ4 y0 y2 x0 x1
    have HC5 : Hid (Blk w5 C [.int .i64 y.p, .int .i64 y.f] 28) := hC5
    clear hC5
    go_upto_region 12 with fail
    have hC6 := HC5.out.kept ((Keeps.refl (fun _ => False) w5).drew) fun e => e
    obtain ⟨P5, hP5⟩ := HK5.out.2
    have hE6 := hP5.kept ((Keeps.refl (fun _ => False) w5).drew)
    refine wp_region_held_drew (S := (fun w' : World => w'.cell? ⟨C, 0, none⟩ = some (.int .i64 y.p) ∧ w'.cell? ⟨C, 1, none⟩ = some (.int .i64 y.f))) (by kernel_rfl) ⟨hC6.cell rfl, hC6.cell rfl⟩ (fun hHeld => ?_)
    simp only [List.size_toArray, List.length_cons, List.length_nil, Nat.reduceAdd, Array.replicate_succ, Array.replicate_zero, List.push_toArray, List.append_toArray, List.nil_append, List.cons_append]
    refine tk 0 (.bool true) hHeld ?_
    simp only [Act.put, List.setIfInBounds_toArray, List.set_cons_zero, List.set_cons_succ]
    refine tk 1 (.bool true) hHeld ?_
    simp only [Act.put, List.setIfInBounds_toArray, List.set_cons_zero, List.set_cons_succ]
    refine tk 2 (.pointer (some ⟨C, 0, none⟩)) hHeld ?_
    simp only [Act.put, List.setIfInBounds_toArray, List.set_cons_zero, List.set_cons_succ]
    refine tk 3 (.int .i64 y.p) hHeld ?_
    simp only [Act.put, List.setIfInBounds_toArray, List.set_cons_zero, List.set_cons_succ]
    refine tk 6 (.pointer (some ⟨C, 1, none⟩)) hHeld ?_
    simp only [Act.put, List.setIfInBounds_toArray, List.set_cons_zero, List.set_cons_succ]
    refine tk 7 (.int .i64 y.f) hHeld ?_
    simp only [Act.put, List.setIfInBounds_toArray, List.set_cons_zero, List.set_cons_succ]
    refine tk 10 (.string (tol y)) hHeld ?_
    simp only [Act.put, List.setIfInBounds_toArray, List.set_cons_zero, List.set_cons_succ]
    refine wpAnyH_ready (rs := [4]) (by kernel_rfl) (by simp) ?_
    refine AllReadyH.cons rfl (fun Kq hK => ?_) AllReadyH.nil
    go_simp
    refine (key_in hE6 y.p HY.out.1).mono ?_
    rintro e w7 ⟨rfl, hE7, hk7⟩
    have hC7 := hC6.kept hk7 fun e => e
    refine hK.out _ _ ⟨hC7.cell rfl, hC7.cell rfl⟩ (fun hHeld => ?_)
    simp only [Act.put, List.setIfInBounds_toArray, List.set_cons_zero, List.set_cons_succ]
    refine tk 5 (.string (tx y.p ++ ⟨#[44]⟩)) hHeld ?_ (hr := by intro w hSw; go_simp; omega)
    simp only [Act.put, List.setIfInBounds_toArray, List.set_cons_zero, List.set_cons_succ]
    refine wpAnyH_ready (rs := [8]) (by kernel_rfl) (by simp) ?_
    refine AllReadyH.cons rfl (fun Kq hK => ?_) AllReadyH.nil
    go_simp
    refine (key_in hE7 y.f HY.out.2).mono ?_
    rintro e w8 ⟨rfl, hE8, hk8⟩
    have hC8 := hC7.kept hk8 fun e => e
    refine hK.out _ _ ⟨hC8.cell rfl, hC8.cell rfl⟩ (fun hHeld => ?_)
    simp only [Act.put, List.setIfInBounds_toArray, List.set_cons_zero, List.set_cons_succ]
    refine tk 9 (.string (tol y)) hHeld ?_ (hr := by intro w hSw; go_simp; rw [if_neg (by omega)]; rfl)
    simp only [Act.put, List.setIfInBounds_toArray, List.set_cons_zero, List.set_cons_succ]
    refine tk 11 (.bool true) hHeld ?_
    simp only [Act.put, List.setIfInBounds_toArray, List.set_cons_zero, List.set_cons_succ]
    refine tk 12 (.bool true) hHeld ?_
    simp only [Act.put, List.setIfInBounds_toArray, List.set_cons_zero, List.set_cons_succ]
    refine tk 13 (.bool true) hHeld ?_
    simp only [Act.put, List.setIfInBounds_toArray, List.set_cons_zero, List.set_cons_succ]
    refine wpAnyH_done (by kernel_rfl) ?_ _
    have HK8 : Hid (Keeps (fun k => Z ≤ k ∧ ¬ K1 k) W w8 ∧ (∃ P', Es Z K1 w8 s b room P')) := ⟨((HK5.out.1.drew).trans hk7 fun _ _ e => e.elim).trans hk8 fun _ _ e => e.elim, ⟨P5, hE8⟩⟩
    clear hHeld hK hE6 hE7 hE8 hC6 hC7 hC8 hk7 hk8 hP5 HK5 HC5 z3 z4
    go_wp2
    go_ret
    exact ⟨rfl, HF.out _ HK8.out.1 HK8.out.2⟩

set_option maxHeartbeats 4000000 in
theorem texts_2 (Z s b room : Nat) (K0 : Nat → Prop) (P : List (ByteArray × S.Lf)) (key : Int) (t : ByteArray) (l : S.Lf) (w : World) (h : Es Z K0 w s b room P) (hk : S.I64 t) (hl : LfOk l) :
    Calls Tryd.prog 8 #[ptr s, ptr b, .agg #[.int .i64 2, .int .i64 key, .string t], l.v] w fun r w' => r = .returned (.bool true) ∧ (∃ P', Es Z K0 w' s b room P') ∧ Keeps (fun k => Z ≤ k ∧ ¬ K0 k) w w' := by
  obtain ⟨A, B, W, K1, HX, HAB, HE, HC, HF⟩ := tx_head Z s b room K0 P 2 key t l w h
  have HI : Hid (S.I64 t ∧ LfOk l) := ⟨hk, hl⟩
  have z1 := tx_size hl.1
  have z2 := tx_size hl.2
  clear h hk hl
  go_enter Tryd.func8, Tryd.ntmps8
  go_upto_region 1 with fail
  rw [HX.out, HAB.out.1, HAB.out.2]
  clear HX HAB
  have hEd := HE.out.kept ((Keeps.refl (fun _ => False) W).drew)
  have hKd : Keeps (fun k => Z ≤ k ∧ ¬ K1 k) W W.drew := (Keeps.refl _ W).drew
  obtain ⟨y0, y2, x0, x1⟩ := HC.out W.drew hKd
  have hS : (fun w' : World => w'.cell? ⟨A, 2, none⟩ = some (.string t) ∧ w'.cell? ⟨B, 0, none⟩ = some (.int .i64 l.p) ∧ w'.cell? ⟨B, 1, none⟩ = some (.int .i64 l.f)) W.drew := ⟨y2, x0, x1⟩
  clear y0 y2 x0 x1
  refine wp_region_held_drew (S := (fun w' : World => w'.cell? ⟨A, 2, none⟩ = some (.string t) ∧ w'.cell? ⟨B, 0, none⟩ = some (.int .i64 l.p) ∧ w'.cell? ⟨B, 1, none⟩ = some (.int .i64 l.f))) (by kernel_rfl) hS (fun hHeld => ?_)
  simp only [List.size_toArray, List.length_cons, List.length_nil, Nat.reduceAdd, Array.replicate_succ, Array.replicate_zero, List.push_toArray, List.append_toArray, List.nil_append, List.cons_append]
  refine tk 0 (.pointer (some ⟨B, 0, none⟩)) hHeld ?_
  simp only [Act.put, List.setIfInBounds_toArray, List.set_cons_zero, List.set_cons_succ]
  refine tk 1 (.int .i64 l.p) hHeld ?_
  simp only [Act.put, List.setIfInBounds_toArray, List.set_cons_zero, List.set_cons_succ]
  refine tk 4 (.pointer (some ⟨B, 1, none⟩)) hHeld ?_
  simp only [Act.put, List.setIfInBounds_toArray, List.set_cons_zero, List.set_cons_succ]
  refine tk 5 (.int .i64 l.f) hHeld ?_
  simp only [Act.put, List.setIfInBounds_toArray, List.set_cons_zero, List.set_cons_succ]
  refine wpAnyH_ready (rs := [2]) (by kernel_rfl) (by simp) ?_
  refine AllReadyH.cons rfl (fun Kq hK => ?_) AllReadyH.nil
  go_simp
  refine (key_in hEd l.p HI.out.2.1).mono ?_
  rintro e w1 ⟨rfl, hE1, hk1⟩
  have hK1 : Keeps (fun k => Z ≤ k ∧ ¬ K1 k) W w1 := hKd.trans hk1 fun _ _ e => e.elim
  clear hEd hKd hk1
  obtain ⟨y0, y2, x0, x1⟩ := HC.out w1 hK1
  refine hK.out _ _ ⟨y2, x0, x1⟩ (fun hHeld => ?_)
  clear y0 y2 x0 x1
  simp only [Act.put, List.setIfInBounds_toArray, List.set_cons_zero, List.set_cons_succ]
  refine tk 3 (.string (tx l.p ++ ⟨#[44]⟩)) hHeld ?_ (hr := by intro w hSw; go_simp; omega)
  simp only [Act.put, List.setIfInBounds_toArray, List.set_cons_zero, List.set_cons_succ]
  refine wpAnyH_ready (rs := [6]) (by kernel_rfl) (by simp) ?_
  refine AllReadyH.cons rfl (fun Kq hK => ?_) AllReadyH.nil
  go_simp
  refine (key_in hE1 l.f HI.out.2.2).mono ?_
  rintro e w2 ⟨rfl, hE2, hk2⟩
  have hK2 : Keeps (fun k => Z ≤ k ∧ ¬ K1 k) W w2 := hK1.trans hk2 fun _ _ e => e.elim
  clear hE1 hK1 hk2
  obtain ⟨y0, y2, x0, x1⟩ := HC.out w2 hK2
  refine hK.out _ _ ⟨y2, x0, x1⟩ (fun hHeld => ?_)
  clear y0 y2 x0 x1
  simp only [Act.put, List.setIfInBounds_toArray, List.set_cons_zero, List.set_cons_succ]
  refine tk 7 (.string (tol l)) hHeld ?_ (hr := by intro w hSw; go_simp; rw [if_neg (by omega)]; rfl)
  simp only [Act.put, List.setIfInBounds_toArray, List.set_cons_zero, List.set_cons_succ]
  refine tk 8 (.string (tol l)) hHeld ?_
  simp only [Act.put, List.setIfInBounds_toArray, List.set_cons_zero, List.set_cons_succ]
  refine wpAnyH_done (by kernel_rfl) ?_ _
  have HE2 : Hid (Es Z K1 w2 s b room P) := hE2
  have HK2 : Hid (Keeps (fun k => Z ≤ k ∧ ¬ K1 k) W w2) := hK2
  clear hE2 hK2 hHeld hK hS HE
  obtain ⟨y0, y2, x0, x1⟩ := HC.out w2 HK2.out
  obtain ⟨T, hT⟩ : ∃ T, T = tol l := ⟨_, rfl⟩
  rw [← hT]
  have HT : Hid (T = tol l) := hT
  clear hT
  cases hlk : S.look t P with
  | none =>
    have H1 : Hid (Calls _ _ _ _ _) := peek_stepP Z K1 w2 s b room P t HE2.out HI.out.1
    have H2 : Hid (∀ w' (K2 : Nat → Prop), Es Z K2 w' s b room P → Calls Tryd.prog 25 #[ptr b, .string t] w' fun r w2 => r = .returned (.tuple #[.string (tel (S.look t P)), .bool (S.look t P).isSome]) ∧ Keeps (fun _ => False) w' w2) := fun w' K2 hB => rpeek_step Z K2 w' s b room P t hB
    rw [hlk] at H1 H2
    simp only [Option.getD_some, Option.getD_none, Option.isSome_some, Option.isSome_none, tel] at H1 H2
    clear hlk HT z1 z2
    go_wp2_with fail
    refine H1.out.mono ?_
    rintro e w3 ⟨rfl, hk3⟩
    have hKa : Keeps (fun _ => False) w3 (w3.alloc (.cells #[.int .i64 (S.Lf.none).p, .int .i64 (S.Lf.none).f] 28)) := (Keeps.refl _ w3).alloc _
    have hB4 := (HE2.out.kept hk3).third hKa (fun _ e => e.elim)
    have hKW : Keeps (fun k => Z ≤ k ∧ ¬ K1 k) W (w3.alloc (.cells #[.int .i64 (S.Lf.none).p, .int .i64 (S.Lf.none).f] 28)) := (HK2.out.trans hk3 fun _ _ e => e.elim).trans hKa fun _ _ e => e.elim
    have hC4 : Blk (w3.alloc (.cells #[.int .i64 (S.Lf.none).p, .int .i64 (S.Lf.none).f] 28)) w3.heap.size [.int .i64 (S.Lf.none).p, .int .i64 (S.Lf.none).f] 28 := Blk.new w3 _ 28
    obtain ⟨w4, hw4⟩ : ∃ w4, w4 = w3.alloc (.cells #[.int .i64 (S.Lf.none).p, .int .i64 (S.Lf.none).f] 28) := ⟨_, rfl⟩
    obtain ⟨C, hCe⟩ : ∃ C, C = w3.heap.size := ⟨_, rfl⟩
    have hlt : w3.heap.size < w4.heap.size := by rw [hw4]; simp
    rw [← hw4] at hB4 hKW hC4
    rw [← hCe] at hC4 hlt
    obtain ⟨K2, hK2⟩ : ∃ K2 : Nat → Prop, K2 = fun k => K1 k ∨ (w3.heap.size ≤ k ∧ k < w4.heap.size) := ⟨_, rfl⟩
    rw [← hK2] at hB4
    have hsub : K2 C ∧ ∀ k, K1 k → K2 k := by rw [hK2]; exact ⟨.inr ⟨by rw [hCe]; exact Nat.le_refl _, hlt⟩, fun k e => .inl e⟩
    have H3 : Hid (Calls _ _ _ _ _ ∧ Es Z K2 w4 s b room P) := ⟨H2.out w4 K2 hB4, hB4⟩
    have HW4 : Hid (w3.alloc (.cells #[.int .i64 (S.Lf.none).p, .int .i64 (S.Lf.none).f] 28) = w4 ∧ w3.heap.size = C) := ⟨hw4.symm, hCe.symm⟩
    have HZ4 : Hid (Keeps (fun k => Z ≤ k ∧ ¬ K1 k) W w4 ∧ Blk w4 C [.int .i64 (S.Lf.none).p, .int .i64 (S.Lf.none).f] 28 ∧ K2 C ∧ ∀ k, K1 k → K2 k) := ⟨hKW, hC4, hsub⟩
    clear hw4 hCe hK2 hsub hlt hB4 hKW hC4 hKa hk3 H1 H2 HK2 HE2
    clear y0 y2 x0 x1
    obtain ⟨y0, y2, x0, x1⟩ := HC.out w4 HZ4.out.1
    go_upto_region 15 with fail
    rw [HW4.out.1, HW4.out.2]
    clear HW4
    go_wp2_with fail
    refine H3.out.1.mono ?_
    rintro e w5 ⟨rfl, hk5⟩
    have hC5 := HZ4.out.2.1.kept hk5 fun e => e
    have HK5 : Hid (Keeps (fun k => Z ≤ k ∧ ¬ K1 k) W w5 ∧ (∃ P', Es Z K1 w5 s b room P')) := ⟨HZ4.out.1.trans hk5 fun k _ e => e.elim, ⟨P, (H3.out.2.kept hk5).less HZ4.out.2.2.2⟩⟩
    clear hk5
    clear H3 HZ4 y0 y2 x0 x1
    have c0 := hC5.cell (i := 0) rfl
    have c1 := hC5.cell (i := 1) rfl
    clear hC5
    go_wp2
    go_ret
    exact ⟨rfl, HF.out _ HK5.out.1 HK5.out.2⟩
  | some y =>
    have H1 : Hid (Calls _ _ _ _ _) := peek_stepP Z K1 w2 s b room P t HE2.out HI.out.1
    have H2 : Hid (∀ w' (K2 : Nat → Prop), Es Z K2 w' s b room P → Calls Tryd.prog 25 #[ptr b, .string t] w' fun r w2 => r = .returned (.tuple #[.string (tel (S.look t P)), .bool (S.look t P).isSome]) ∧ Keeps (fun _ => False) w' w2) := fun w' K2 hB => rpeek_step Z K2 w' s b room P t hB
    rw [hlk] at H1 H2
    simp only [Option.getD_some, Option.getD_none, Option.isSome_some, Option.isSome_none, tel] at H1 H2
    have hy : LfOk y := look_ok HE2.out hlk
    have z3 := tx_size hy.1
    have z4 := tx_size hy.2
    have HY : Hid (LfOk y) := hy
    clear hy
    clear hlk HT z1 z2
    go_wp2_with fail
    refine H1.out.mono ?_
    rintro e w3 ⟨rfl, hk3⟩
    have hKa : Keeps (fun _ => False) w3 (w3.alloc (.cells #[.int .i64 (y).p, .int .i64 (y).f] 28)) := (Keeps.refl _ w3).alloc _
    have hB4 := (HE2.out.kept hk3).third hKa (fun _ e => e.elim)
    have hKW : Keeps (fun k => Z ≤ k ∧ ¬ K1 k) W (w3.alloc (.cells #[.int .i64 (y).p, .int .i64 (y).f] 28)) := (HK2.out.trans hk3 fun _ _ e => e.elim).trans hKa fun _ _ e => e.elim
    have hC4 : Blk (w3.alloc (.cells #[.int .i64 (y).p, .int .i64 (y).f] 28)) w3.heap.size [.int .i64 (y).p, .int .i64 (y).f] 28 := Blk.new w3 _ 28
    obtain ⟨w4, hw4⟩ : ∃ w4, w4 = w3.alloc (.cells #[.int .i64 (y).p, .int .i64 (y).f] 28) := ⟨_, rfl⟩
    obtain ⟨C, hCe⟩ : ∃ C, C = w3.heap.size := ⟨_, rfl⟩
    have hlt : w3.heap.size < w4.heap.size := by rw [hw4]; simp
    rw [← hw4] at hB4 hKW hC4
    rw [← hCe] at hC4 hlt
    obtain ⟨K2, hK2⟩ : ∃ K2 : Nat → Prop, K2 = fun k => K1 k ∨ (w3.heap.size ≤ k ∧ k < w4.heap.size) := ⟨_, rfl⟩
    rw [← hK2] at hB4
    have hsub : K2 C ∧ ∀ k, K1 k → K2 k := by rw [hK2]; exact ⟨.inr ⟨by rw [hCe]; exact Nat.le_refl _, hlt⟩, fun k e => .inl e⟩
    have H3 : Hid (Calls _ _ _ _ _ ∧ Es Z K2 w4 s b room P) := ⟨H2.out w4 K2 hB4, hB4⟩
    have HW4 : Hid (w3.alloc (.cells #[.int .i64 (y).p, .int .i64 (y).f] 28) = w4 ∧ w3.heap.size = C) := ⟨hw4.symm, hCe.symm⟩
    have HZ4 : Hid (Keeps (fun k => Z ≤ k ∧ ¬ K1 k) W w4 ∧ Blk w4 C [.int .i64 (y).p, .int .i64 (y).f] 28 ∧ K2 C ∧ ∀ k, K1 k → K2 k) := ⟨hKW, hC4, hsub⟩
    clear hw4 hCe hK2 hsub hlt hB4 hKW hC4 hKa hk3 H1 H2 HK2 HE2
    clear y0 y2 x0 x1
    obtain ⟨y0, y2, x0, x1⟩ := HC.out w4 HZ4.out.1
    go_upto_region 15 with fail
    rw [HW4.out.1, HW4.out.2]
    clear HW4
    go_wp2_with fail
    refine H3.out.1.mono ?_
    rintro e w5 ⟨rfl, hk5⟩
    have hC5 := HZ4.out.2.1.kept hk5 fun e => e
    have HK5 : Hid (Keeps (fun k => Z ≤ k ∧ ¬ K1 k) W w5 ∧ (∃ P', Es Z K1 w5 s b room P')) := ⟨HZ4.out.1.trans hk5 fun k _ e => e.elim, ⟨P, (H3.out.2.kept hk5).less HZ4.out.2.2.2⟩⟩
    clear hk5
    clear H3 HZ4 y0 y2 x0 x1
    have HC5 : Hid (Blk w5 C [.int .i64 y.p, .int .i64 y.f] 28) := hC5
    clear hC5
    go_upto_region 18 with fail
    have hC6 := HC5.out.kept ((Keeps.refl (fun _ => False) w5).drew) fun e => e
    obtain ⟨P5, hP5⟩ := HK5.out.2
    have hE6 := hP5.kept ((Keeps.refl (fun _ => False) w5).drew)
    refine wp_region_held_drew (S := (fun w' : World => w'.cell? ⟨C, 0, none⟩ = some (.int .i64 y.p) ∧ w'.cell? ⟨C, 1, none⟩ = some (.int .i64 y.f))) (by kernel_rfl) ⟨hC6.cell rfl, hC6.cell rfl⟩ (fun hHeld => ?_)
    simp only [List.size_toArray, List.length_cons, List.length_nil, Nat.reduceAdd, Array.replicate_succ, Array.replicate_zero, List.push_toArray, List.append_toArray, List.nil_append, List.cons_append]
    refine tk 0 (.bool true) hHeld ?_
    simp only [Act.put, List.setIfInBounds_toArray, List.set_cons_zero, List.set_cons_succ]
    refine tk 1 (.bool true) hHeld ?_
    simp only [Act.put, List.setIfInBounds_toArray, List.set_cons_zero, List.set_cons_succ]
    refine tk 2 (.pointer (some ⟨C, 0, none⟩)) hHeld ?_
    simp only [Act.put, List.setIfInBounds_toArray, List.set_cons_zero, List.set_cons_succ]
    refine tk 3 (.int .i64 y.p) hHeld ?_
    simp only [Act.put, List.setIfInBounds_toArray, List.set_cons_zero, List.set_cons_succ]
    refine tk 6 (.pointer (some ⟨C, 1, none⟩)) hHeld ?_
    simp only [Act.put, List.setIfInBounds_toArray, List.set_cons_zero, List.set_cons_succ]
    refine tk 7 (.int .i64 y.f) hHeld ?_
    simp only [Act.put, List.setIfInBounds_toArray, List.set_cons_zero, List.set_cons_succ]
    refine tk 10 (.string (tol y)) hHeld ?_
    simp only [Act.put, List.setIfInBounds_toArray, List.set_cons_zero, List.set_cons_succ]
    refine wpAnyH_ready (rs := [4]) (by kernel_rfl) (by simp) ?_
    refine AllReadyH.cons rfl (fun Kq hK => ?_) AllReadyH.nil
    go_simp
    refine (key_in hE6 y.p HY.out.1).mono ?_
    rintro e w7 ⟨rfl, hE7, hk7⟩
    have hC7 := hC6.kept hk7 fun e => e
    refine hK.out _ _ ⟨hC7.cell rfl, hC7.cell rfl⟩ (fun hHeld => ?_)
    simp only [Act.put, List.setIfInBounds_toArray, List.set_cons_zero, List.set_cons_succ]
    refine tk 5 (.string (tx y.p ++ ⟨#[44]⟩)) hHeld ?_ (hr := by intro w hSw; go_simp; omega)
    simp only [Act.put, List.setIfInBounds_toArray, List.set_cons_zero, List.set_cons_succ]
    refine wpAnyH_ready (rs := [8]) (by kernel_rfl) (by simp) ?_
    refine AllReadyH.cons rfl (fun Kq hK => ?_) AllReadyH.nil
    go_simp
    refine (key_in hE7 y.f HY.out.2).mono ?_
    rintro e w8 ⟨rfl, hE8, hk8⟩
    have hC8 := hC7.kept hk8 fun e => e
    refine hK.out _ _ ⟨hC8.cell rfl, hC8.cell rfl⟩ (fun hHeld => ?_)
    simp only [Act.put, List.setIfInBounds_toArray, List.set_cons_zero, List.set_cons_succ]
    refine tk 9 (.string (tol y)) hHeld ?_ (hr := by intro w hSw; go_simp; rw [if_neg (by omega)]; rfl)
    simp only [Act.put, List.setIfInBounds_toArray, List.set_cons_zero, List.set_cons_succ]
    refine tk 11 (.bool true) hHeld ?_
    simp only [Act.put, List.setIfInBounds_toArray, List.set_cons_zero, List.set_cons_succ]
    refine tk 12 (.bool true) hHeld ?_
    simp only [Act.put, List.setIfInBounds_toArray, List.set_cons_zero, List.set_cons_succ]
    refine tk 13 (.bool true) hHeld ?_
    simp only [Act.put, List.setIfInBounds_toArray, List.set_cons_zero, List.set_cons_succ]
    refine wpAnyH_done (by kernel_rfl) ?_ _
    have HK8 : Hid (Keeps (fun k => Z ≤ k ∧ ¬ K1 k) W w8 ∧ (∃ P', Es Z K1 w8 s b room P')) := ⟨((HK5.out.1.drew).trans hk7 fun _ _ e => e.elim).trans hk8 fun _ _ e => e.elim, ⟨P5, hE8⟩⟩
    clear hHeld hK hE6 hE7 hE8 hC6 hC7 hC8 hk7 hk8 hP5 HK5 HC5 z3 z4
    go_wp2
    go_ret
    exact ⟨rfl, HF.out _ HK8.out.1 HK8.out.2⟩

set_option maxHeartbeats 4000000 in
theorem texts_3 (Z s b room : Nat) (K0 : Nat → Prop) (P : List (ByteArray × S.Lf)) (key : Int) (t : ByteArray) (l : S.Lf) (w : World) (h : Es Z K0 w s b room P) (hk : S.I64 t) (hl : LfOk l) :
    Calls Tryd.prog 8 #[ptr s, ptr b, .agg #[.int .i64 3, .int .i64 key, .string t], l.v] w fun r w' => r = .returned (.bool true) ∧ (∃ P', Es Z K0 w' s b room P') ∧ Keeps (fun k => Z ≤ k ∧ ¬ K0 k) w w' := by
  obtain ⟨A, B, W, K1, HX, HAB, HE, HC, HF⟩ := tx_head Z s b room K0 P 3 key t l w h
  have HI : Hid (S.I64 t ∧ LfOk l) := ⟨hk, hl⟩
  have z1 := tx_size hl.1
  have z2 := tx_size hl.2
  clear h hk hl
  go_enter Tryd.func8, Tryd.ntmps8
  go_upto_region 1 with fail
  rw [HX.out, HAB.out.1, HAB.out.2]
  clear HX HAB
  have hEd := HE.out.kept ((Keeps.refl (fun _ => False) W).drew)
  have hKd : Keeps (fun k => Z ≤ k ∧ ¬ K1 k) W W.drew := (Keeps.refl _ W).drew
  obtain ⟨y0, y2, x0, x1⟩ := HC.out W.drew hKd
  have hS : (fun w' : World => w'.cell? ⟨A, 2, none⟩ = some (.string t) ∧ w'.cell? ⟨B, 0, none⟩ = some (.int .i64 l.p) ∧ w'.cell? ⟨B, 1, none⟩ = some (.int .i64 l.f)) W.drew := ⟨y2, x0, x1⟩
  clear y0 y2 x0 x1
  refine wp_region_held_drew (S := (fun w' : World => w'.cell? ⟨A, 2, none⟩ = some (.string t) ∧ w'.cell? ⟨B, 0, none⟩ = some (.int .i64 l.p) ∧ w'.cell? ⟨B, 1, none⟩ = some (.int .i64 l.f))) (by kernel_rfl) hS (fun hHeld => ?_)
  simp only [List.size_toArray, List.length_cons, List.length_nil, Nat.reduceAdd, Array.replicate_succ, Array.replicate_zero, List.push_toArray, List.append_toArray, List.nil_append, List.cons_append]
  refine tk 0 (.pointer (some ⟨B, 0, none⟩)) hHeld ?_
  simp only [Act.put, List.setIfInBounds_toArray, List.set_cons_zero, List.set_cons_succ]
  refine tk 1 (.int .i64 l.p) hHeld ?_
  simp only [Act.put, List.setIfInBounds_toArray, List.set_cons_zero, List.set_cons_succ]
  refine tk 4 (.pointer (some ⟨B, 1, none⟩)) hHeld ?_
  simp only [Act.put, List.setIfInBounds_toArray, List.set_cons_zero, List.set_cons_succ]
  refine tk 5 (.int .i64 l.f) hHeld ?_
  simp only [Act.put, List.setIfInBounds_toArray, List.set_cons_zero, List.set_cons_succ]
  refine wpAnyH_ready (rs := [2]) (by kernel_rfl) (by simp) ?_
  refine AllReadyH.cons rfl (fun Kq hK => ?_) AllReadyH.nil
  go_simp
  refine (key_in hEd l.p HI.out.2.1).mono ?_
  rintro e w1 ⟨rfl, hE1, hk1⟩
  have hK1 : Keeps (fun k => Z ≤ k ∧ ¬ K1 k) W w1 := hKd.trans hk1 fun _ _ e => e.elim
  clear hEd hKd hk1
  obtain ⟨y0, y2, x0, x1⟩ := HC.out w1 hK1
  refine hK.out _ _ ⟨y2, x0, x1⟩ (fun hHeld => ?_)
  clear y0 y2 x0 x1
  simp only [Act.put, List.setIfInBounds_toArray, List.set_cons_zero, List.set_cons_succ]
  refine tk 3 (.string (tx l.p ++ ⟨#[44]⟩)) hHeld ?_ (hr := by intro w hSw; go_simp; omega)
  simp only [Act.put, List.setIfInBounds_toArray, List.set_cons_zero, List.set_cons_succ]
  refine wpAnyH_ready (rs := [6]) (by kernel_rfl) (by simp) ?_
  refine AllReadyH.cons rfl (fun Kq hK => ?_) AllReadyH.nil
  go_simp
  refine (key_in hE1 l.f HI.out.2.2).mono ?_
  rintro e w2 ⟨rfl, hE2, hk2⟩
  have hK2 : Keeps (fun k => Z ≤ k ∧ ¬ K1 k) W w2 := hK1.trans hk2 fun _ _ e => e.elim
  clear hE1 hK1 hk2
  obtain ⟨y0, y2, x0, x1⟩ := HC.out w2 hK2
  refine hK.out _ _ ⟨y2, x0, x1⟩ (fun hHeld => ?_)
  clear y0 y2 x0 x1
  simp only [Act.put, List.setIfInBounds_toArray, List.set_cons_zero, List.set_cons_succ]
  refine tk 7 (.string (tol l)) hHeld ?_ (hr := by intro w hSw; go_simp; rw [if_neg (by omega)]; rfl)
  simp only [Act.put, List.setIfInBounds_toArray, List.set_cons_zero, List.set_cons_succ]
  refine tk 8 (.string (tol l)) hHeld ?_
  simp only [Act.put, List.setIfInBounds_toArray, List.set_cons_zero, List.set_cons_succ]
  refine wpAnyH_done (by kernel_rfl) ?_ _
  have HE2 : Hid (Es Z K1 w2 s b room P) := hE2
  have HK2 : Hid (Keeps (fun k => Z ≤ k ∧ ¬ K1 k) W w2) := hK2
  clear hE2 hK2 hHeld hK hS HE
  obtain ⟨y0, y2, x0, x1⟩ := HC.out w2 HK2.out
  obtain ⟨T, hT⟩ : ∃ T, T = tol l := ⟨_, rfl⟩
  rw [← hT]
  have HT : Hid (T = tol l) := hT
  clear hT
  obtain ⟨g, hg⟩ : ∃ g, g = (S.look t P).isSome := ⟨_, rfl⟩
  clear y0 y2 x0 x1
  have hEd := HE2.out.kept ((Keeps.refl (fun _ => False) w2).drew)
  have hKd : Keeps (fun k => Z ≤ k ∧ ¬ K1 k) W w2.drew := HK2.out.drew
  have H1 : Hid (Calls _ _ _ _ _) := drop_stepP Z K1 w2.drew s b room P t hEd HI.out.1
  have H2 : Hid (∀ w' F G, Bo Z K1 w' s b room (S.del t P) (ksP P) (vsP P) F G → Calls Tryd.prog 27 #[ptr b, .string t] w' fun r w2 => r = .returned (.bool (S.look t P).isSome) ∧ (∃ P', Es Z K1 w2 s b room P') ∧ Keeps (fun k => Z ≤ k ∧ ¬ K1 k) w' w2) := fun w' F G hB => rdrop_step Z K1 w' s b room P t HE2.out.2 F G hB HE2.out.nodup.1
  rw [← hg] at H1 H2
  clear hg hEd
  obtain ⟨y0, y2, x0, x1⟩ := HC.out w2 HK2.out
  go_upto_region 20 with fail
  clear y0 y2 x0 x1
  obtain ⟨y0, y2, x0, x1⟩ := HC.out w2.drew hKd
  refine wp_region_held_drew (S := (fun w' : World => w'.cell? ⟨A, 2, none⟩ = some (.string t))) (by kernel_rfl) y2 (fun hHeld => ?_)
  simp only [List.size_toArray, List.length_cons, List.length_nil, Nat.reduceAdd, Array.replicate_succ, Array.replicate_zero, List.push_toArray, List.append_toArray, List.nil_append, List.cons_append]
  clear y0 y2 x0 x1
  refine tk 0 (ptr s) hHeld ?_
  simp only [Act.put, List.setIfInBounds_toArray, List.set_cons_zero, List.set_cons_succ]
  refine tk 1 (.pointer (some ⟨A, 2, none⟩)) hHeld ?_
  simp only [Act.put, List.setIfInBounds_toArray, List.set_cons_zero, List.set_cons_succ]
  refine tk 2 (.string t) hHeld ?_
  simp only [Act.put, List.setIfInBounds_toArray, List.set_cons_zero, List.set_cons_succ]
  refine tk 4 (ptr b) hHeld ?_
  simp only [Act.put, List.setIfInBounds_toArray, List.set_cons_zero, List.set_cons_succ]
  refine tk 5 (.pointer (some ⟨A, 2, none⟩)) hHeld ?_
  simp only [Act.put, List.setIfInBounds_toArray, List.set_cons_zero, List.set_cons_succ]
  refine tk 6 (.string t) hHeld ?_
  simp only [Act.put, List.setIfInBounds_toArray, List.set_cons_zero, List.set_cons_succ]
  refine wpAnyH_ready (rs := [3]) (by kernel_rfl) (by simp) ?_
  refine AllReadyH.cons rfl (fun Kq hK => ?_) AllReadyH.nil
  go_simp
  refine H1.out.mono ?_
  rintro e w3 ⟨rfl, ⟨F, G, hB⟩, hk3⟩
  have hK3 : Keeps (fun k => Z ≤ k ∧ ¬ K1 k) W w3 := hKd.trans hk3 fun _ _ e => e
  obtain ⟨y0, y2, x0, x1⟩ := HC.out w3 hK3
  refine hK.out _ _ y2 (fun hHeld => ?_)
  clear y0 y2 x0 x1
  simp only [Act.put, List.setIfInBounds_toArray, List.set_cons_zero, List.set_cons_succ]
  refine wpAnyH_ready (rs := [7]) (by kernel_rfl) (by simp) ?_
  refine AllReadyH.cons rfl (fun Kq hK => ?_) AllReadyH.nil
  go_simp
  refine (H2.out w3 F G hB).mono ?_
  rintro e w4 ⟨rfl, hP4, hk4⟩
  have hK4 : Keeps (fun k => Z ≤ k ∧ ¬ K1 k) W w4 := hK3.trans hk4 fun _ _ e => e
  obtain ⟨y0, y2, x0, x1⟩ := HC.out w4 hK4
  refine hK.out _ _ y2 (fun hHeld => ?_)
  clear y0 y2 x0 x1
  simp only [Act.put, List.setIfInBounds_toArray, List.set_cons_zero, List.set_cons_succ]
  refine tk 8 (.bool true) hHeld ?_
  simp only [Act.put, List.setIfInBounds_toArray, List.set_cons_zero, List.set_cons_succ]
  refine tk 9 (.bool true) hHeld ?_
  simp only [Act.put, List.setIfInBounds_toArray, List.set_cons_zero, List.set_cons_succ]
  refine wpAnyH_done (by kernel_rfl) ?_ _
  have HK4 : Hid (Keeps (fun k => Z ≤ k ∧ ¬ K1 k) W w4 ∧ ∃ P', Es Z K1 w4 s b room P') := ⟨hK4, hP4⟩
  clear hHeld hK hK3 hK4 hP4 hk3 hk4 hB H1 H2 HE2 HK2 hKd
  go_wp2
  go_ret
  exact ⟨rfl, HF.out _ HK4.out.1 HK4.out.2⟩

theorem texts_any (Z s b room : Nat) (K0 : Nat → Prop) (P : List (ByteArray × S.Lf)) (kind key : Int) (t : ByteArray) (l : S.Lf) (w : World) (h : Es Z K0 w s b room P) (hk : S.I64 t) (hl : LfOk l) :
    Calls Tryd.prog 8 #[ptr s, ptr b, .agg #[.int .i64 kind, .int .i64 key, .string t], l.v] w fun r w' => r = .returned (.bool true) ∧ (∃ P', Es Z K0 w' s b room P') ∧ Keeps (fun k => Z ≤ k ∧ ¬ K0 k) w w' := by
  by_cases h0 : kind = 0
  · subst h0; exact texts_0 Z s b room K0 P key t l w h hk hl
  by_cases h1 : kind = 1
  · subst h1; exact texts_1 Z s b room K0 P key t l w h hk hl
  by_cases h2 : kind = 2
  · subst h2; exact texts_2 Z s b room K0 P key t l w h hk hl
  by_cases h3 : kind = 3
  · subst h3; exact texts_3 Z s b room K0 P key t l w h hk hl
  by_cases h4 : kind = 4
  · subst h4; exact texts_4 Z s b room K0 P key t l w h hk hl
  exact texts_other Z s b room K0 P kind key t l w h hk hl ⟨h0, h1, h2, h3, h4⟩
end Go.Proofs.YtomjodoimjiceaaDoor
