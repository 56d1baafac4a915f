import Derived.Test.YtomjodoimjiceaaDoorGa
import Derived.Deep.RegionHeld3
import Derived.StillTailTactics
import Derived.Deep.CutBlock
import Derived.Deep.CutRange
namespace Go.Proofs.YtomjodoimjiceaaDoor
open Go.RowKit Go.Shelf
set_option linter.unusedVariables false
set_option linter.unusedSimpArgs false
set_option maxRecDepth 6000

theorem nd_le : ∀ (k u : Nat), u < 10 ^ (k + 1) → Lib.nDigits u ≤ k + 1
  | 0, u, h => by rw [Lib.nDigits, dif_pos (by simpa using h)]; omega
  | k + 1, u, h => by
    rw [Lib.nDigits]
    split
    · omega
    · have := nd_le k (u / 10) (by rw [Nat.pow_succ] at h; omega)
      omega
theorem tx_size {n : Int} (h : I.I64 n) : (tx n).size ≤ 21 := by
  have e : (tx n).size = (Lib.itoa n).length := by simp [tx, ByteArray.size]
  rw [e]
  unfold Lib.itoa
  have hb : ∀ u : Nat, u ≤ 9223372036854775808 → (Lib.decDigits u).length ≤ 20 := fun u hu => by
    rw [Lib.decDigits_length]
    exact nd_le 19 u (by have : (10 : Nat) ^ (19 + 1) = 100000000000000000000 := by decide
                         omega)
  obtain ⟨h1, h2⟩ := h
  split
  · rw [List.length_cons]; have := hb n.natAbs (by omega); omega
  · have := hb n.toNat (by omega); omega

theorem tx_head (Z s b room : Nat) (K0 : Nat → Prop) (P : List (ByteArray × S.Lf)) (kind key : Int) (t : ByteArray) (l : S.Lf) (w : World) (h : Es Z K0 w s b room P) :
    ∃ A B W, ∃ K1 : Nat → Prop, Hid ((w.alloc (.cells #[.int .i64 kind, .int .i64 key, .string t] 37)).alloc (.cells #[.int .i64 l.p, .int .i64 l.f] 28) = W) ∧ Hid (w.heap.size + 1 = B ∧ w.heap.size = A) ∧ Hid (Es Z K1 W s b room P) ∧
      Hid (∀ W', Keeps (fun k => Z ≤ k ∧ ¬ K1 k) W W' → W'.cell? ⟨A, 0, none⟩ = some (.int .i64 kind) ∧ W'.cell? ⟨A, 2, none⟩ = some (.string t) ∧ W'.cell? ⟨B, 0, none⟩ = some (.int .i64 l.p) ∧ W'.cell? ⟨B, 1, none⟩ = some (.int .i64 l.f)) ∧
      Hid (∀ W', Keeps (fun k => Z ≤ k ∧ ¬ K1 k) W W' → (∃ P', Es Z K1 W' s b room P') → (∃ P', Es Z K0 W' s b room P') ∧ Keeps (fun k => Z ≤ k ∧ ¬ K0 k) w W') := by
  obtain ⟨W, eW⟩ : ∃ W, W = (w.alloc (.cells #[.int .i64 kind, .int .i64 key, .string t] 37)).alloc (.cells #[.int .i64 l.p, .int .i64 l.f] 28) := ⟨_, rfl⟩
  have hK0 : Keeps (fun _ => False) w W := by rw [eW]; exact ((Keeps.refl _ w).alloc _).alloc _
  have hA : Blk W w.heap.size [.int .i64 kind, .int .i64 key, .string t] 37 := by rw [eW]; exact (Blk.new w _ 37).alloc _
  have hB : Blk W (w.heap.size + 1) [.int .i64 l.p, .int .i64 l.f] 28 := by
    rw [eW]
    have := Blk.new (w.alloc (.cells #[.int .i64 kind, .int .i64 key, .string t] 37)) #[.int .i64 l.p, .int .i64 l.f] 28
    simpa using this
  have hz : W.heap.size = w.heap.size + 1 + 1 := by rw [eW]; simp
  refine ⟨w.heap.size, w.heap.size + 1, W, fun k => K0 k ∨ (w.heap.size ≤ k ∧ k < W.heap.size), eW.symm, ⟨rfl, rfl⟩, h.third hK0 (fun _ e => e.elim), fun W' hK => ?_, fun W' hK hP => ⟨?_, ?_⟩⟩
  · have h1 := hA.kept hK fun e => e.2 (.inr ⟨by omega, by omega⟩)
    have h2 := hB.kept hK fun e => e.2 (.inr ⟨by omega, by omega⟩)
    exact ⟨h1.cell rfl, h1.cell rfl, h2.cell rfl, h2.cell rfl⟩
  · obtain ⟨P', hP'⟩ := hP
    exact ⟨P', hP'.less fun _ h => .inl h⟩
  · exact (hK0.mono fun _ _ h => h.elim).trans hK fun k _ e => ⟨e.1, fun h => e.2 (.inl h)⟩

/-- key, in a world in which nobody's block was touched. -/
theorem key_in {Z : Nat} {K1 : Nat → Prop} {w : World} {s b room : Nat} {P : List (ByteArray × S.Lf)} (h : Es Z K1 w s b room P) (n : Int) (hn : I.I64 n) :
    Calls Tryd.prog 19 #[.int .i64 n] w fun r w' => r = .returned (.string (tx n)) ∧ Es Z K1 w' s b room P ∧ Keeps (fun _ => False) w w' :=
  (key_any n w hn h.tb).mono fun r w' h' => ⟨h'.1, h.kept h'.2, h'.2⟩

set_option maxHeartbeats 4000000 in
theorem texts_other (Z s b room : Nat) (K0 : Nat → Prop) (P : List (ByteArray × S.Lf)) (kind : Int) (key : Int) (t : ByteArray) (l : S.Lf) (w : World) (h : Es Z K0 w s b room P) (hk : S.I64 t) (hl : LfOk l) (h5 : kind ≠ 0 ∧ kind ≠ 1 ∧ kind ≠ 2 ∧ kind ≠ 3 ∧ kind ≠ 4) :
    Calls Tryd.prog 8 #[ptr s, ptr b, .agg #[.int .i64 kind, .int .i64 key, .string t], l.v] w fun r w' => r = .returned (.bool true) ∧ (∃ P', Es Z K0 w' s b room P') ∧ Keeps (fun k => Z ≤ k ∧ ¬ K0 k) w w' := by
  have h0 : (kind == 0) = false := by simpa using h5.1
  have h1 : (kind == 1) = false := by simpa using h5.2.1
  have h2 : (kind == 2) = false := by simpa using h5.2.2.1
  have h3 : (kind == 3) = false := by simpa using h5.2.2.2.1
  have h4 : (kind == 4) = false := by simpa using h5.2.2.2.2
  clear h5
  obtain ⟨A, B, W, K1, HX, HAB, HE, HC, HF⟩ := tx_head Z s b room K0 P kind key t l w h
  have HI : Hid (S.I64 t ∧ LfOk l) := ⟨hk, hl⟩
  have z1 := tx_size hl.1
  have z2 := tx_size hl.2
  clear h hk hl
  go_enter Tryd.func8, Tryd.ntmps8
  go_upto_region 1 with fail
  rw [HX.out, HAB.out.1, HAB.out.2]
  clear HX HAB
  have hEd := HE.out.kept ((Keeps.refl (fun _ => False) W).drew)
  have hKd : Keeps (fun k => Z ≤ k ∧ ¬ K1 k) W W.drew := (Keeps.refl _ W).drew
  obtain ⟨y0, y2, x0, x1⟩ := HC.out W.drew hKd
  have hS : (fun w' : World => w'.cell? ⟨A, 2, none⟩ = some (.string t) ∧ w'.cell? ⟨B, 0, none⟩ = some (.int .i64 l.p) ∧ w'.cell? ⟨B, 1, none⟩ = some (.int .i64 l.f)) W.drew := ⟨y2, x0, x1⟩
  clear y0 y2 x0 x1
  refine wp_region_held_drew (S := (fun w' : World => w'.cell? ⟨A, 2, none⟩ = some (.string t) ∧ w'.cell? ⟨B, 0, none⟩ = some (.int .i64 l.p) ∧ w'.cell? ⟨B, 1, none⟩ = some (.int .i64 l.f))) (by kernel_rfl) hS (fun hHeld => ?_)
  simp only [List.size_toArray, List.length_cons, List.length_nil, Nat.reduceAdd, Array.replicate_succ, Array.replicate_zero, List.push_toArray, List.append_toArray, List.nil_append, List.cons_append]
  refine tk 0 (.pointer (some ⟨B, 0, none⟩)) hHeld ?_
  simp only [Act.put, List.setIfInBounds_toArray, List.set_cons_zero, List.set_cons_succ]
  refine tk 1 (.int .i64 l.p) hHeld ?_
  simp only [Act.put, List.setIfInBounds_toArray, List.set_cons_zero, List.set_cons_succ]
  refine tk 4 (.pointer (some ⟨B, 1, none⟩)) hHeld ?_
  simp only [Act.put, List.setIfInBounds_toArray, List.set_cons_zero, List.set_cons_succ]
  refine tk 5 (.int .i64 l.f) hHeld ?_
  simp only [Act.put, List.setIfInBounds_toArray, List.set_cons_zero, List.set_cons_succ]
  refine wpAnyH_ready (rs := [2]) (by kernel_rfl) (by simp) ?_
  refine AllReadyH.cons rfl (fun Kq hK => ?_) AllReadyH.nil
  go_simp
  refine (key_in hEd l.p HI.out.2.1).mono ?_
  rintro e w1 ⟨rfl, hE1, hk1⟩
  have hK1 : Keeps (fun k => Z ≤ k ∧ ¬ K1 k) W w1 := hKd.trans hk1 fun _ _ e => e.elim
  clear hEd hKd hk1
  obtain ⟨y0, y2, x0, x1⟩ := HC.out w1 hK1
  refine hK.out _ _ ⟨y2, x0, x1⟩ (fun hHeld => ?_)
  clear y0 y2 x0 x1
  simp only [Act.put, List.setIfInBounds_toArray, List.set_cons_zero, List.set_cons_succ]
  refine tk 3 (.string (tx l.p ++ ⟨#[44]⟩)) hHeld ?_ (hr := by intro w hSw; go_simp; omega)
  simp only [Act.put, List.setIfInBounds_toArray, List.set_cons_zero, List.set_cons_succ]
  refine wpAnyH_ready (rs := [6]) (by kernel_rfl) (by simp) ?_
  refine AllReadyH.cons rfl (fun Kq hK => ?_) AllReadyH.nil
  go_simp
  refine (key_in hE1 l.f HI.out.2.2).mono ?_
  rintro e w2 ⟨rfl, hE2, hk2⟩
  have hK2 : Keeps (fun k => Z ≤ k ∧ ¬ K1 k) W w2 := hK1.trans hk2 fun _ _ e => e.elim
  clear hE1 hK1 hk2
  obtain ⟨y0, y2, x0, x1⟩ := HC.out w2 hK2
  refine hK.out _ _ ⟨y2, x0, x1⟩ (fun hHeld => ?_)
  clear y0 y2 x0 x1
  simp only [Act.put, List.setIfInBounds_toArray, List.set_cons_zero, List.set_cons_succ]
  refine tk 7 (.string (tol l)) hHeld ?_ (hr := by intro w hSw; go_simp; rw [if_neg (by omega)]; rfl)
  simp only [Act.put, List.setIfInBounds_toArray, List.set_cons_zero, List.set_cons_succ]
  refine tk 8 (.string (tol l)) hHeld ?_
  simp only [Act.put, List.setIfInBounds_toArray, List.set_cons_zero, List.set_cons_succ]
  refine wpAnyH_done (by kernel_rfl) ?_ _
  have HE2 : Hid (Es Z K1 w2 s b room P) := hE2
  have HK2 : Hid (Keeps (fun k => Z ≤ k ∧ ¬ K1 k) W w2) := hK2
  clear hE2 hK2 hHeld hK hS HE
  obtain ⟨y0, y2, x0, x1⟩ := HC.out w2 HK2.out
  obtain ⟨T, hT⟩ : ∃ T, T = tol l := ⟨_, rfl⟩
  rw [← hT]
  have HT : Hid (T = tol l) := hT
  clear hT
  go_wp2
  go_ret
  exact ⟨rfl, HF.out _ HK2.out ⟨P, HE2.out⟩⟩

set_option maxHeartbeats 4000000 in
theorem texts_4 (Z s b room : Nat) (K0 : Nat → Prop) (P : List (ByteArray × S.Lf)) (key : Int) (t : ByteArray) (l : S.Lf) (w : World) (h : Es Z K0 w s b room P) (hk : S.I64 t) (hl : LfOk l) :
    Calls Tryd.prog 8 #[ptr s, ptr b, .agg #[.int .i64 4, .int .i64 key, .string t], l.v] w fun r w' => r = .returned (.bool true) ∧ (∃ P', Es Z K0 w' s b room P') ∧ Keeps (fun k => Z ≤ k ∧ ¬ K0 k) w w' := by
  obtain ⟨A, B, W, K1, HX, HAB, HE, HC, HF⟩ := tx_head Z s b room K0 P 4 key t l w h
  have HI : Hid (S.I64 t ∧ LfOk l) := ⟨hk, hl⟩
  have z1 := tx_size hl.1
  have z2 := tx_size hl.2
  clear h hk hl
  go_enter Tryd.func8, Tryd.ntmps8
  go_upto_region 1 with fail
  rw [HX.out, HAB.out.1, HAB.out.2]
  clear HX HAB
  have hEd := HE.out.kept ((Keeps.refl (fun _ => False) W).drew)
  have hKd : Keeps (fun k => Z ≤ k ∧ ¬ K1 k) W W.drew := (Keeps.refl _ W).drew
  obtain ⟨y0, y2, x0, x1⟩ := HC.out W.drew hKd
  have hS : (fun w' : World => w'.cell? ⟨A, 2, none⟩ = some (.string t) ∧ w'.cell? ⟨B, 0, none⟩ = some (.int .i64 l.p) ∧ w'.cell? ⟨B, 1, none⟩ = some (.int .i64 l.f)) W.drew := ⟨y2, x0, x1⟩
  clear y0 y2 x0 x1
  refine wp_region_held_drew (S := (fun w' : World => w'.cell? ⟨A, 2, none⟩ = some (.string t) ∧ w'.cell? ⟨B, 0, none⟩ = some (.int .i64 l.p) ∧ w'.cell? ⟨B, 1, none⟩ = some (.int .i64 l.f))) (by kernel_rfl) hS (fun hHeld => ?_)
  simp only [List.size_toArray, List.length_cons, List.length_nil, Nat.reduceAdd, Array.replicate_succ, Array.replicate_zero, List.push_toArray, List.append_toArray, List.nil_append, List.cons_append]
  refine tk 0 (.pointer (some ⟨B, 0, none⟩)) hHeld ?_
  simp only [Act.put, List.setIfInBounds_toArray, List.set_cons_zero, List.set_cons_succ]
  refine tk 1 (.int .i64 l.p) hHeld ?_
  simp only [Act.put, List.setIfInBounds_toArray, List.set_cons_zero, List.set_cons_succ]
  refine tk 4 (.pointer (some ⟨B, 1, none⟩)) hHeld ?_
  simp only [Act.put, List.setIfInBounds_toArray, List.set_cons_zero, List.set_cons_succ]
  refine tk 5 (.int .i64 l.f) hHeld ?_
  simp only [Act.put, List.setIfInBounds_toArray, List.set_cons_zero, List.set_cons_succ]
  refine wpAnyH_ready (rs := [2]) (by kernel_rfl) (by simp) ?_
  refine AllReadyH.cons rfl (fun Kq hK => ?_) AllReadyH.nil
  go_simp
  refine (key_in hEd l.p HI.out.2.1).mono ?_
  rintro e w1 ⟨rfl, hE1, hk1⟩
  have hK1 : Keeps (fun k => Z ≤ k ∧ ¬ K1 k) W w1 := hKd.trans hk1 fun _ _ e => e.elim
  clear hEd hKd hk1
  obtain ⟨y0, y2, x0, x1⟩ := HC.out w1 hK1
  refine hK.out _ _ ⟨y2, x0, x1⟩ (fun hHeld => ?_)
  clear y0 y2 x0 x1
  simp only [Act.put, List.setIfInBounds_toArray, List.set_cons_zero, List.set_cons_succ]
  refine tk 3 (.string (tx l.p ++ ⟨#[44]⟩)) hHeld ?_ (hr := by intro w hSw; go_simp; omega)
  simp only [Act.put, List.setIfInBounds_toArray, List.set_cons_zero, List.set_cons_succ]
  refine wpAnyH_ready (rs := [6]) (by kernel_rfl) (by simp) ?_
  refine AllReadyH.cons rfl (fun Kq hK => ?_) AllReadyH.nil
  go_simp
  refine (key_in hE1 l.f HI.out.2.2).mono ?_
  rintro e w2 ⟨rfl, hE2, hk2⟩
  have hK2 : Keeps (fun k => Z ≤ k ∧ ¬ K1 k) W w2 := hK1.trans hk2 fun _ _ e => e.elim
  clear hE1 hK1 hk2
  obtain ⟨y0, y2, x0, x1⟩ := HC.out w2 hK2
  refine hK.out _ _ ⟨y2, x0, x1⟩ (fun hHeld => ?_)
  clear y0 y2 x0 x1
  simp only [Act.put, List.setIfInBounds_toArray, List.set_cons_zero, List.set_cons_succ]
  refine tk 7 (.string (tol l)) hHeld ?_ (hr := by intro w hSw; go_simp; rw [if_neg (by omega)]; rfl)
  simp only [Act.put, List.setIfInBounds_toArray, List.set_cons_zero, List.set_cons_succ]
  refine tk 8 (.string (tol l)) hHeld ?_
  simp only [Act.put, List.setIfInBounds_toArray, List.set_cons_zero, List.set_cons_succ]
  refine wpAnyH_done (by kernel_rfl) ?_ _
  have HE2 : Hid (Es Z K1 w2 s b room P) := hE2
  have HK2 : Hid (Keeps (fun k => Z ≤ k ∧ ¬ K1 k) W w2) := hK2
  clear hE2 hK2 hHeld hK hS HE
  obtain ⟨y0, y2, x0, x1⟩ := HC.out w2 HK2.out
  obtain ⟨T, hT⟩ : ∃ T, T = tol l := ⟨_, rfl⟩
  rw [← hT]
  have HT : Hid (T = tol l) := hT
  clear hT
  have H1 : Hid (Calls _ _ _ _ _) := clear_stepP Z K1 w2 s b room P HE2.out
  go_wp2_with fail
  refine H1.out.mono ?_
  rintro e w3 ⟨rfl, ⟨F, G, hB⟩, hk3⟩
  have H2 : Hid (Calls _ _ _ _ _) := rclear_step Z K1 w3 s b room P F G hB
  have HK3 : Hid (Keeps (fun k => Z ≤ k ∧ ¬ K1 k) W w3) := HK2.out.trans hk3 fun _ _ e => e
  clear H1 hB hk3 y0 y2 x0 x1 HK2 HE2
  go_wp2_with fail
  refine H2.out.mono ?_
  rintro e w4 ⟨rfl, hP, hk4⟩
  have HK4 : Hid (Keeps (fun k => Z ≤ k ∧ ¬ K1 k) W w4 ∧ ∃ P', Es Z K1 w4 s b room P') := ⟨HK3.out.trans hk4 fun _ _ e => e, hP⟩
  clear H2 hP hk4 HK3
  go_wp2
  go_ret
  exact ⟨rfl, HF.out _ HK4.out.1 HK4.out.2⟩

set_option maxHeartbeats 4000000 in
theorem texts_0 (Z s b room : Nat) (K0 : Nat → Prop) (P : List (ByteArray × S.Lf)) (key : Int) (t : ByteArray) (l : S.Lf) (w : World) (h : Es Z K0 w s b room P) (hk : S.I64 t) (hl : LfOk l) :
    Calls Tryd.prog 8 #[ptr s, ptr b, .agg #[.int .i64 0, .int .i64 key, .string t], l.v] w fun r w' => r = .returned (.bool true) ∧ (∃ P', Es Z K0 w' s b room P') ∧ Keeps (fun k => Z ≤ k ∧ ¬ K0 k) w w' := by
  obtain ⟨A, B, W, K1, HX, HAB, HE, HC, HF⟩ := tx_head Z s b room K0 P 0 key t l w h
  have HI : Hid (S.I64 t ∧ LfOk l) := ⟨hk, hl⟩
  have z1 := tx_size hl.1
  have z2 := tx_size hl.2
  clear h hk hl
  go_enter Tryd.func8, Tryd.ntmps8
  go_upto_region 1 with fail
  rw [HX.out, HAB.out.1, HAB.out.2]
  clear HX HAB
  have hEd := HE.out.kept ((Keeps.refl (fun _ => False) W).drew)
  have hKd : Keeps (fun k => Z ≤ k ∧ ¬ K1 k) W W.drew := (Keeps.refl _ W).drew
  obtain ⟨y0, y2, x0, x1⟩ := HC.out W.drew hKd
  have hS : (fun w' : World => w'.cell? ⟨A, 2, none⟩ = some (.string t) ∧ w'.cell? ⟨B, 0, none⟩ = some (.int .i64 l.p) ∧ w'.cell? ⟨B, 1, none⟩ = some (.int .i64 l.f)) W.drew := ⟨y2, x0, x1⟩
  clear y0 y2 x0 x1
  refine wp_region_held_drew (S := (fun w' : World => w'.cell? ⟨A, 2, none⟩ = some (.string t) ∧ w'.cell? ⟨B, 0, none⟩ = some (.int .i64 l.p) ∧ w'.cell? ⟨B, 1, none⟩ = some (.int .i64 l.f))) (by kernel_rfl) hS (fun hHeld => ?_)
  simp only [List.size_toArray, List.length_cons, List.length_nil, Nat.reduceAdd, Array.replicate_succ, Array.replicate_zero, List.push_toArray, List.append_toArray, List.nil_append, List.cons_append]
  refine tk 0 (.pointer (some ⟨B, 0, none⟩)) hHeld ?_
  simp only [Act.put, List.setIfInBounds_toArray, List.set_cons_zero, List.set_cons_succ]
  refine tk 1 (.int .i64 l.p) hHeld ?_
  simp only [Act.put, List.setIfInBounds_toArray, List.set_cons_zero, List.set_cons_succ]
  refine tk 4 (.pointer (some ⟨B, 1, none⟩)) hHeld ?_
  simp only [Act.put, List.setIfInBounds_toArray, List.set_cons_zero, List.set_cons_succ]
  refine tk 5 (.int .i64 l.f) hHeld ?_
  simp only [Act.put, List.setIfInBounds_toArray, List.set_cons_zero, List.set_cons_succ]
  refine wpAnyH_ready (rs := [2]) (by kernel_rfl) (by simp) ?_
  refine AllReadyH.cons rfl (fun Kq hK => ?_) AllReadyH.nil
  go_simp
  refine (key_in hEd l.p HI.out.2.1).mono ?_
  rintro e w1 ⟨rfl, hE1, hk1⟩
  have hK1 : Keeps (fun k => Z ≤ k ∧ ¬ K1 k) W w1 := hKd.trans hk1 fun _ _ e => e.elim
  clear hEd hKd hk1
  obtain ⟨y0, y2, x0, x1⟩ := HC.out w1 hK1
  refine hK.out _ _ ⟨y2, x0, x1⟩ (fun hHeld => ?_)
  clear y0 y2 x0 x1
  simp only [Act.put, List.setIfInBounds_toArray, List.set_cons_zero, List.set_cons_succ]
  refine tk 3 (.string (tx l.p ++ ⟨#[44]⟩)) hHeld ?_ (hr := by intro w hSw; go_simp; omega)
  simp only [Act.put, List.setIfInBounds_toArray, List.set_cons_zero, List.set_cons_succ]
  refine wpAnyH_ready (rs := [6]) (by kernel_rfl) (by simp) ?_
  refine AllReadyH.cons rfl (fun Kq hK => ?_) AllReadyH.nil
  go_simp
  refine (key_in hE1 l.f HI.out.2.2).mono ?_
  rintro e w2 ⟨rfl, hE2, hk2⟩
  have hK2 : Keeps (fun k => Z ≤ k ∧ ¬ K1 k) W w2 := hK1.trans hk2 fun _ _ e => e.elim
  clear hE1 hK1 hk2
  obtain ⟨y0, y2, x0, x1⟩ := HC.out w2 hK2
  refine hK.out _ _ ⟨y2, x0, x1⟩ (fun hHeld => ?_)
  clear y0 y2 x0 x1
  simp only [Act.put, List.setIfInBounds_toArray, List.set_cons_zero, List.set_cons_succ]
  refine tk 7 (.string (tol l)) hHeld ?_ (hr := by intro w hSw; go_simp; rw [if_neg (by omega)]; rfl)
  simp only [Act.put, List.setIfInBounds_toArray, List.set_cons_zero, List.set_cons_succ]
  refine tk 8 (.string (tol l)) hHeld ?_
  simp only [Act.put, List.setIfInBounds_toArray, List.set_cons_zero, List.set_cons_succ]
  refine wpAnyH_done (by kernel_rfl) ?_ _
  have HE2 : Hid (Es Z K1 w2 s b room P) := hE2
  have HK2 : Hid (Keeps (fun k => Z ≤ k ∧ ¬ K1 k) W w2) := hK2
  clear hE2 hK2 hHeld hK hS HE
  obtain ⟨y0, y2, x0, x1⟩ := HC.out w2 HK2.out
  obtain ⟨T, hT⟩ : ∃ T, T = tol l := ⟨_, rfl⟩
  rw [← hT]
  have HT : Hid (T = tol l) := hT
  clear hT
  have H1 : Hid (Calls _ _ _ _ _) := put_stepP Z K1 w2 s b room P t l HE2.out HI.out.1
  obtain ⟨g1, e1⟩ : ∃ g1, g1 = (S.goneL room t P).1 := ⟨_, rfl⟩
  obtain ⟨g2, e2⟩ : ∃ g2, g2 = (S.goneL room t P).2 := ⟨_, rfl⟩
  have H2 : Hid (∀ w' F G, Bo Z K1 w' s b room (S.putL room t l P) (ksP P) (vsP P) F G → Calls Tryd.prog 21 #[ptr b, .string t, .string T] w' fun r w2 => r = .returned (.tuple #[.string g1, .bool g2]) ∧ (∃ P', Es Z K1 w2 s b room P') ∧ Keeps (fun k => Z ≤ k ∧ ¬ K1 k) w' w2) := fun w' F G hB => by
    rw [e1, e2, HT.out]; exact rput_step Z K1 w' s b room P t l HI.out.2 HE2.out.2 F G hB HE2.out.nodup.1 HE2.out.nodup.2
  rw [← e1, ← e2] at H1
  clear e1 e2
  go_wp2_with fail
  refine H1.out.mono ?_
  rintro e w3 ⟨rfl, ⟨F, G, hB⟩, hk3⟩
  have H3 : Hid (Calls _ _ _ _ _) := H2.out w3 F G hB
  have HK3 : Hid (Keeps (fun k => Z ≤ k ∧ ¬ K1 k) W w3) := HK2.out.trans hk3 fun _ _ e => e
  clear H1 H2 hB hk3 y0 y2 x0 x1 HE2 HT
  obtain ⟨y0, y2, x0, x1⟩ := HC.out w3 HK3.out
  clear HK2
  go_wp2_with fail
  refine H3.out.mono ?_
  rintro e w4 ⟨rfl, hP, hk4⟩
  have HK4 : Hid (Keeps (fun k => Z ≤ k ∧ ¬ K1 k) W w4 ∧ ∃ P', Es Z K1 w4 s b room P') := ⟨HK3.out.trans hk4 fun _ _ e => e, hP⟩
  clear H3 hP hk4 HK3 y0 y2 x0 x1
  go_wp2
  go_ret
  exact ⟨rfl, HF.out _ HK4.out.1 HK4.out.2⟩

end Go.Proofs.YtomjodoimjiceaaDoor
