import Derived.Test.YtljhdijledclhaaDc
namespace Go.Proofs.Ytljhdijledclhaa
open Go.RowKit
set_option linter.unusedVariables false
set_option linter.unusedSimpArgs false

set_option maxRecDepth 100000 in
set_option maxHeartbeats 8000000 in
theorem differs_any (k who oth a b c : Int) (W : Nat) (v : Value) (w0 w : World) (X T : Nat) (h : Game w0 w X T) (hwho : in64 who) (hoth : in64 oth) (hc : in64 c) :
    Calls Try.prog 9 #[.pointer (some ⟨X, 0, none⟩), .agg #[.int .i64 k, .int .i64 who, .int .i64 oth, .int .i64 a, .int .i64 b, .int .i64 c, .int .u32 W, v]] w fun e w' => e = .returned (.bool true) ∧ Game w0 w' X T := by
  obtain ⟨Ps, lb, lc, hP1, hP12, hpr⟩ := h.pairs
  have HG : Hid (Game w0 w X T) := h
  obtain ⟨L, hL⟩ : ∃ L, L = Ps.length := ⟨_, rfl⟩
  rw [← hL] at hP1 hP12 hpr
  have hLi : (L : Int) ≤ 12 := by omega
  obtain ⟨i, hi⟩ : ∃ i, i = pk who L := ⟨_, rfl⟩
  obtain ⟨j, hj⟩ : ∃ j, j = pk oth L := ⟨_, rfl⟩
  have hil : i < L := by rw [hi]; exact pk_lt who L hP1
  have hjl : j < L := by rw [hj]; exact pk_lt oth L hP1
  have hil' : (i : Int) < L := by omega
  have hjl' : (j : Int) < L := by omega
  obtain ⟨p, hp⟩ : ∃ p, Ps[i]? = some p := ⟨_, List.getElem?_eq_getElem (by omega)⟩
  obtain ⟨q, hq⟩ : ∃ p, Ps[j]? = some p := ⟨_, List.getElem?_eq_getElem (by omega)⟩
  have HP1 : Hid (∀ w, Calls Try.prog 15 #[.int .i64 who, .int .i64 L] w fun e w' => e = .returned (.int .i64 (i : Nat)) ∧ w' = w) := fun w => by rw [hi]; exact pick_any who L w hP1 (by omega) hwho.1 hwho.2
  have HP2 : Hid (∀ w, Calls Try.prog 15 #[.int .i64 oth, .int .i64 L] w fun e w' => e = .returned (.int .i64 (j : Nat)) ∧ w' = w) := fun w => by rw [hj]; exact pick_any oth L w hP1 (by omega) hoth.1 hoth.2
  obtain ⟨O, hO⟩ : ∃ O, O = w.heap.size := ⟨_, rfl⟩
  have HO : Hid (O = w.heap.size) := hO
  obtain ⟨w1, hw1⟩ : ∃ w1, w1 = w.alloc (.cells #[.int .i64 k, .int .i64 who, .int .i64 oth, .int .i64 a, .int .i64 b, .int .i64 c, .int .u32 W, v] 29) := ⟨_, rfl⟩
  have HW1 : Hid (w1 = w.alloc (.cells #[.int .i64 k, .int .i64 who, .int .i64 oth, .int .i64 a, .int .i64 b, .int .i64 c, .int .u32 W, v] 29)) := hw1
  have hK01 : Keeps (fun _ => False) w w1 := by rw [hw1]; exact (Keeps.refl _ w).alloc _
  have hB1 : Blk w1 O [.int .i64 k, .int .i64 who, .int .i64 oth, .int .i64 a, .int .i64 b, .int .i64 c, .int .u32 W, v] 29 := by rw [hw1, hO]; exact Blk.new w _ 29
  have HS : Hid (∀ w', Keeps (fun _ => False) w1 w' → w'.cell? ⟨X, 0, none⟩ = some (.slice (some ⟨lb, 0, none⟩) L lc) ∧ w'.cell? ⟨O, 1, none⟩ = some (.int .i64 who) ∧ w'.cell? ⟨O, 2, none⟩ = some (.int .i64 oth) ∧ w'.cell? ⟨lb, i * 2, none⟩ = some (.pointer (some ⟨p.b, 0, none⟩)) ∧ w'.cell? ⟨lb, i * 2 + 1, none⟩ = some (.pointer (some ⟨p.rb, 0, none⟩)) ∧ w'.cell? ⟨lb, j * 2, none⟩ = some (.pointer (some ⟨q.b, 0, none⟩)) ∧ w'.cell? ⟨lb, j * 2 + 1, none⟩ = some (.pointer (some ⟨q.rb, 0, none⟩))) := by
    intro w' hK
    have h1 := hpr w' (hK01.trans hK fun _ _ e => e)
    have h2 := h1.2 i p hp
    have h3 := h1.2 j q hq
    have hB := hB1.kept hK (fun e => e)
    exact ⟨h1.1, hB.cell rfl, hB.cell rfl, h2.1, h2.2.1, h3.1, h3.2.1⟩
  obtain ⟨Q1, hQ1⟩ : ∃ Q, Q = w1.heap.size := ⟨_, rfl⟩
  obtain ⟨w2, hw2⟩ : ∃ w2, w2 = (w1.alloc (Obj.cells #[.pointer (some ⟨p.b, 0, none⟩), .pointer (some ⟨p.rb, 0, none⟩)] 85)).drew := ⟨_, rfl⟩
  have HW2 : Hid (w2 = (w1.alloc (Obj.cells #[.pointer (some ⟨p.b, 0, none⟩), .pointer (some ⟨p.rb, 0, none⟩)] 85)).drew) := hw2
  have HK12 : Hid (Keeps (fun _ => False) w1 w2) := by rw [hw2]; exact ((Keeps.refl _ w1).alloc _).drew
  obtain ⟨Q2, hQ2⟩ : ∃ Q, Q = w2.heap.size := ⟨_, rfl⟩
  obtain ⟨w3, hw3⟩ : ∃ w3, w3 = (w2.alloc (Obj.cells #[.pointer (some ⟨q.b, 0, none⟩), .pointer (some ⟨q.rb, 0, none⟩)] 85)).drew := ⟨_, rfl⟩
  have HW3 : Hid (w3 = (w2.alloc (Obj.cells #[.pointer (some ⟨q.b, 0, none⟩), .pointer (some ⟨q.rb, 0, none⟩)] 85)).drew) := hw3
  have hK23 : Keeps (fun _ => False) w2 w3 := by rw [hw3]; exact ((Keeps.refl _ w2).alloc _).drew
  have HK13 : Hid (Keeps (fun _ => False) w1 w3) := HK12.out.trans hK23 fun _ _ e => e
  have HK03 : Hid (Keeps (fun _ => False) w w3) := hK01.trans HK13.out fun _ _ e => e
  have HQ2 : Hid (Q1 = w1.heap.size) := hQ1
  have HQ3 : Hid (Q2 = w2.heap.size) := hQ2
  have hBq1 : Blk w2 Q1 [.pointer (some ⟨p.b, 0, none⟩), .pointer (some ⟨p.rb, 0, none⟩)] 85 := by rw [hw2, hQ1]; exact (Blk.new w1 _ 85).drew
  have hBq2 : Blk w3 Q2 [.pointer (some ⟨q.b, 0, none⟩), .pointer (some ⟨q.rb, 0, none⟩)] 85 := by rw [hw3, hQ2]; exact (Blk.new w2 _ 85).drew
  have HCell : Hid (∀ w', Keeps (fun _ => False) w3 w' → w'.cell? ⟨Q1, 0, none⟩ = some (.pointer (some ⟨p.b, 0, none⟩)) ∧ w'.cell? ⟨Q1, 1, none⟩ = some (.pointer (some ⟨p.rb, 0, none⟩)) ∧ w'.cell? ⟨Q2, 0, none⟩ = some (.pointer (some ⟨q.b, 0, none⟩)) ∧ w'.cell? ⟨Q2, 1, none⟩ = some (.pointer (some ⟨q.rb, 0, none⟩)) ∧ w'.cell? ⟨O, 5, none⟩ = some (.int .i64 c)) := by
    intro w' hK
    have b1 := (hBq1.kept hK23 (fun e => e)).kept hK (fun e => e)
    have b2 := hBq2.kept hK (fun e => e)
    have b3 := (hB1.kept HK13.out (fun e => e)).kept hK (fun e => e)
    exact ⟨b1.cell rfl, b1.cell rfl, b2.cell rfl, b2.cell rfl, b3.cell rfl⟩
  obtain ⟨d, m, hd, hm, HCh⟩ := differs_chain p q c hc w3 (fun w' hK => ((hpr w' (HK03.out.trans hK fun _ _ e => e)).2 i p hp).2.2) (fun w' hK => ((hpr w' (HK03.out.trans hK fun _ _ e => e)).2 j q hq).2.2)

  have hd0 : (0 : Int) ≤ (d : Int) * d := Int.mul_nonneg (by omega) (by omega)
  have hdd : (d : Int) * d ≤ 268435456 := by
    have h2 : d * d ≤ 16384 * 16384 := Nat.mul_le_mul (by omega) (by omega)
    have e2 : ((d * d : Nat) : Int) = (d : Int) * d := by simp
    omega
  have hwd : IntKind.i64.wrap ((d : Int) * (d : Int)) = (d : Int) * d := by rw [IntKind.wrap_i64]; omega
  obtain ⟨x0, x1, x2, x3, x4⟩ := HCell.out w3 (Keeps.refl _ _)
  clear h hwho hoth hc hpr hP12 hP1 hL hi hj hp hq hw1 hK01 hB1 hQ1 hw2 hQ2 hw3 hK23 hBq1 hBq2 hO
  go_enter Try.func9, Try.ntmps9
  go_wp2_with fail
  rw [← HO.out, ← HW1.out]
  refine wp_region_held_drew (S := fun w' => w'.cell? ⟨X, 0, none⟩ = some (.slice (some ⟨lb, 0, none⟩) L lc) ∧ w'.cell? ⟨O, 1, none⟩ = some (.int .i64 who) ∧ w'.cell? ⟨O, 2, none⟩ = some (.int .i64 oth) ∧ w'.cell? ⟨lb, i * 2, none⟩ = some (.pointer (some ⟨p.b, 0, none⟩)) ∧ w'.cell? ⟨lb, i * 2 + 1, none⟩ = some (.pointer (some ⟨p.rb, 0, none⟩)) ∧ w'.cell? ⟨lb, j * 2, none⟩ = some (.pointer (some ⟨q.b, 0, none⟩)) ∧ w'.cell? ⟨lb, j * 2 + 1, none⟩ = some (.pointer (some ⟨q.rb, 0, none⟩))) Try.mixed (HS.out _ ((Keeps.refl _ w1).drew)) (fun hHeld => ?_)
  simp only [List.size_toArray, List.length_cons, List.length_nil, Nat.reduceAdd, Array.replicate_succ, Array.replicate_zero, List.push_toArray, List.append_toArray, List.nil_append, List.cons_append]
  refine hk 0 (.pointer (some ⟨X, 0, none⟩)) hHeld ?_
  simp only [Act.put, List.setIfInBounds_toArray, List.set_cons_zero, List.set_cons_succ]
  refine hk 1 (.pointer (some ⟨X, 0, none⟩)) hHeld ?_
  simp only [Act.put, List.setIfInBounds_toArray, List.set_cons_zero, List.set_cons_succ]
  refine hk 2 (.pointer (some ⟨X, 0, none⟩)) hHeld ?_
  simp only [Act.put, List.setIfInBounds_toArray, List.set_cons_zero, List.set_cons_succ]
  refine hk 3 (.slice (some ⟨lb, 0, none⟩) L lc) hHeld ?_
  simp only [Act.put, List.setIfInBounds_toArray, List.set_cons_zero, List.set_cons_succ]
  refine hk 4 (.pointer (some ⟨O, 1, none⟩)) hHeld ?_
  simp only [Act.put, List.setIfInBounds_toArray, List.set_cons_zero, List.set_cons_succ]
  refine hk 5 (.int .i64 who) hHeld ?_
  simp only [Act.put, List.setIfInBounds_toArray, List.set_cons_zero, List.set_cons_succ]
  refine hk 6 (.pointer (some ⟨X, 0, none⟩)) hHeld ?_
  simp only [Act.put, List.setIfInBounds_toArray, List.set_cons_zero, List.set_cons_succ]
  refine hk 7 (.pointer (some ⟨X, 0, none⟩)) hHeld ?_
  simp only [Act.put, List.setIfInBounds_toArray, List.set_cons_zero, List.set_cons_succ]
  refine hk 8 (.pointer (some ⟨X, 0, none⟩)) hHeld ?_
  simp only [Act.put, List.setIfInBounds_toArray, List.set_cons_zero, List.set_cons_succ]
  refine hk 9 (.slice (some ⟨lb, 0, none⟩) L lc) hHeld ?_
  simp only [Act.put, List.setIfInBounds_toArray, List.set_cons_zero, List.set_cons_succ]
  refine hk 10 (.int .i64 (L : Int)) hHeld ?_
  simp only [Act.put, List.setIfInBounds_toArray, List.set_cons_zero, List.set_cons_succ]
  refine wpAnyH_ready (rs := [11, 14]) (by kernel_rfl) (by simp) ?_
  refine AllReadyH.cons rfl (fun Kq hK => ?_) (AllReadyH.cons rfl (fun Kq hK => ?_) AllReadyH.nil)
  focus
    go_simp
    refine (HP1.out _).mono ?_
    rintro e wx ⟨rfl, hwx⟩
    subst hwx
    refine hK.out _ _ (HS.out _ ((Keeps.refl _ w1).drew)) (fun hHeld => ?_)
    simp only [Act.put, List.setIfInBounds_toArray, List.set_cons_zero, List.set_cons_succ]
    refine hk 12 (.pointer (some ⟨lb, i * 2, none⟩)) hHeld ?_
    simp only [Act.put, List.setIfInBounds_toArray, List.set_cons_zero, List.set_cons_succ]
    refine hk 13 (.agg #[.pointer (some ⟨p.b, 0, none⟩), .pointer (some ⟨p.rb, 0, none⟩)]) hHeld ?_
    simp only [Act.put, List.setIfInBounds_toArray, List.set_cons_zero, List.set_cons_succ]
    refine wpAnyH_ready (rs := [14]) (by kernel_rfl) (by simp) ?_
    refine AllReadyH.cons rfl (fun Kq hK => ?_) AllReadyH.nil
    go_simp
    refine hK.out _ _ (HS.out _ (((Keeps.refl _ w1).alloc _).drew)) (fun hHeld => ?_)
    simp only [Act.put, List.setIfInBounds_toArray, List.set_cons_zero, List.set_cons_succ]
  rotate_left
  focus
    go_simp
    refine hK.out _ _ (HS.out _ (((Keeps.refl _ w1).alloc _).drew)) (fun hHeld => ?_)
    simp only [Act.put, List.setIfInBounds_toArray, List.set_cons_zero, List.set_cons_succ]
    refine wpAnyH_ready (rs := [11]) (by kernel_rfl) (by simp) ?_
    refine AllReadyH.cons rfl (fun Kq hK => ?_) AllReadyH.nil
    go_simp
    refine (HP1.out _).mono ?_
    rintro e wx ⟨rfl, hwx⟩
    subst hwx
    refine hK.out _ _ (HS.out _ (((Keeps.refl _ w1).alloc _).drew)) (fun hHeld => ?_)
    simp only [Act.put, List.setIfInBounds_toArray, List.set_cons_zero, List.set_cons_succ]
    refine hk 12 (.pointer (some ⟨lb, i * 2, none⟩)) hHeld ?_
    simp only [Act.put, List.setIfInBounds_toArray, List.set_cons_zero, List.set_cons_succ]
    refine hk 13 (.agg #[.pointer (some ⟨p.b, 0, none⟩), .pointer (some ⟨p.rb, 0, none⟩)]) hHeld ?_
    simp only [Act.put, List.setIfInBounds_toArray, List.set_cons_zero, List.set_cons_succ]
  all_goals
    refine wpAnyH_ready (rs := [15]) (by kernel_rfl) (by simp) ?_
    refine AllReadyH.cons rfl (fun Kq hK => ?_) AllReadyH.nil
    go_simp
    rw [← HW2.out, ← HQ2.out]
    refine hK.out _ _ (HS.out _ HK12.out) (fun hHeld => ?_)
    simp only [Act.put, List.setIfInBounds_toArray, List.set_cons_zero, List.set_cons_succ]
    refine wpAnyH_done (by kernel_rfl) ?_ _
    clear hHeld hK
    go_wp2_with fail
    refine wp_region_held_drew (S := fun w' => w'.cell? ⟨X, 0, none⟩ = some (.slice (some ⟨lb, 0, none⟩) L lc) ∧ w'.cell? ⟨O, 1, none⟩ = some (.int .i64 who) ∧ w'.cell? ⟨O, 2, none⟩ = some (.int .i64 oth) ∧ w'.cell? ⟨lb, i * 2, none⟩ = some (.pointer (some ⟨p.b, 0, none⟩)) ∧ w'.cell? ⟨lb, i * 2 + 1, none⟩ = some (.pointer (some ⟨p.rb, 0, none⟩)) ∧ w'.cell? ⟨lb, j * 2, none⟩ = some (.pointer (some ⟨q.b, 0, none⟩)) ∧ w'.cell? ⟨lb, j * 2 + 1, none⟩ = some (.pointer (some ⟨q.rb, 0, none⟩))) Try.mixed (HS.out _ ((Keeps.none HK12.out).drew)) (fun hHeld => ?_)
    simp only [List.size_toArray, List.length_cons, List.length_nil, Nat.reduceAdd, Array.replicate_succ, Array.replicate_zero, List.push_toArray, List.append_toArray, List.nil_append, List.cons_append]
    refine hk 0 (.pointer (some ⟨X, 0, none⟩)) hHeld ?_
    simp only [Act.put, List.setIfInBounds_toArray, List.set_cons_zero, List.set_cons_succ]
    refine hk 1 (.pointer (some ⟨X, 0, none⟩)) hHeld ?_
    simp only [Act.put, List.setIfInBounds_toArray, List.set_cons_zero, List.set_cons_succ]
    refine hk 2 (.pointer (some ⟨X, 0, none⟩)) hHeld ?_
    simp only [Act.put, List.setIfInBounds_toArray, List.set_cons_zero, List.set_cons_succ]
    refine hk 3 (.slice (some ⟨lb, 0, none⟩) L lc) hHeld ?_
    simp only [Act.put, List.setIfInBounds_toArray, List.set_cons_zero, List.set_cons_succ]
    refine hk 4 (.pointer (some ⟨O, 2, none⟩)) hHeld ?_
    simp only [Act.put, List.setIfInBounds_toArray, List.set_cons_zero, List.set_cons_succ]
    refine hk 5 (.int .i64 oth) hHeld ?_
    simp only [Act.put, List.setIfInBounds_toArray, List.set_cons_zero, List.set_cons_succ]
    refine hk 6 (.pointer (some ⟨X, 0, none⟩)) hHeld ?_
    simp only [Act.put, List.setIfInBounds_toArray, List.set_cons_zero, List.set_cons_succ]
    refine hk 7 (.pointer (some ⟨X, 0, none⟩)) hHeld ?_
    simp only [Act.put, List.setIfInBounds_toArray, List.set_cons_zero, List.set_cons_succ]
    refine hk 8 (.pointer (some ⟨X, 0, none⟩)) hHeld ?_
    simp only [Act.put, List.setIfInBounds_toArray, List.set_cons_zero, List.set_cons_succ]
    refine hk 9 (.slice (some ⟨lb, 0, none⟩) L lc) hHeld ?_
    simp only [Act.put, List.setIfInBounds_toArray, List.set_cons_zero, List.set_cons_succ]
    refine hk 10 (.int .i64 (L : Int)) hHeld ?_
    simp only [Act.put, List.setIfInBounds_toArray, List.set_cons_zero, List.set_cons_succ]
    refine wpAnyH_ready (rs := [11, 14]) (by kernel_rfl) (by simp) ?_
    refine AllReadyH.cons rfl (fun Kq hK => ?_) (AllReadyH.cons rfl (fun Kq hK => ?_) AllReadyH.nil)
    focus
      go_simp
      refine (HP2.out _).mono ?_
      rintro e wx ⟨rfl, hwx⟩
      subst hwx
      refine hK.out _ _ (HS.out _ ((Keeps.none HK12.out).drew)) (fun hHeld => ?_)
      simp only [Act.put, List.setIfInBounds_toArray, List.set_cons_zero, List.set_cons_succ]
      refine hk 12 (.pointer (some ⟨lb, j * 2, none⟩)) hHeld ?_
      simp only [Act.put, List.setIfInBounds_toArray, List.set_cons_zero, List.set_cons_succ]
      refine hk 13 (.agg #[.pointer (some ⟨q.b, 0, none⟩), .pointer (some ⟨q.rb, 0, none⟩)]) hHeld ?_
      simp only [Act.put, List.setIfInBounds_toArray, List.set_cons_zero, List.set_cons_succ]
      refine wpAnyH_ready (rs := [14]) (by kernel_rfl) (by simp) ?_
      refine AllReadyH.cons rfl (fun Kq hK => ?_) AllReadyH.nil
      go_simp
      refine hK.out _ _ (HS.out _ (((Keeps.none HK12.out).alloc _).drew)) (fun hHeld => ?_)
      simp only [Act.put, List.setIfInBounds_toArray, List.set_cons_zero, List.set_cons_succ]
    rotate_left
    focus
      go_simp
      refine hK.out _ _ (HS.out _ (((Keeps.none HK12.out).alloc _).drew)) (fun hHeld => ?_)
      simp only [Act.put, List.setIfInBounds_toArray, List.set_cons_zero, List.set_cons_succ]
      refine wpAnyH_ready (rs := [11]) (by kernel_rfl) (by simp) ?_
      refine AllReadyH.cons rfl (fun Kq hK => ?_) AllReadyH.nil
      go_simp
      refine (HP2.out _).mono ?_
      rintro e wx ⟨rfl, hwx⟩
      subst hwx
      refine hK.out _ _ (HS.out _ (((Keeps.none HK12.out).alloc _).drew)) (fun hHeld => ?_)
      simp only [Act.put, List.setIfInBounds_toArray, List.set_cons_zero, List.set_cons_succ]
      refine hk 12 (.pointer (some ⟨lb, j * 2, none⟩)) hHeld ?_
      simp only [Act.put, List.setIfInBounds_toArray, List.set_cons_zero, List.set_cons_succ]
      refine hk 13 (.agg #[.pointer (some ⟨q.b, 0, none⟩), .pointer (some ⟨q.rb, 0, none⟩)]) hHeld ?_
      simp only [Act.put, List.setIfInBounds_toArray, List.set_cons_zero, List.set_cons_succ]
    all_goals
      refine wpAnyH_ready (rs := [15]) (by kernel_rfl) (by simp) ?_
      refine AllReadyH.cons rfl (fun Kq hK => ?_) AllReadyH.nil
      go_simp
      rw [← HW3.out, ← HQ3.out]
      refine hK.out _ _ (HS.out _ HK13.out) (fun hHeld => ?_)
      simp only [Act.put, List.setIfInBounds_toArray, List.set_cons_zero, List.set_cons_succ]
      refine wpAnyH_done (by kernel_rfl) ?_ _
      clear hHeld hK
      go_wp2_with fail
      refine HCh.out.mono ?_
      rintro e w4 ⟨wa, wc, rfl, hK4, ⟨u1, u2⟩, C1⟩
      obtain ⟨y0, y1, y2, y3, y4⟩ := HCell.out w4 hK4
      clear x0 x1 x2 x3 x4
      go_wp2_with fail
      refine C1.out.mono ?_
      rintro e w5 ⟨B1, B2, rfl, hK5, C2, C3⟩
      obtain ⟨z0, z1, z2, z3, z4⟩ := HCell.out w5 hK5
      clear C1 hK4 y0 y1 y2 y3 y4
      go_wp2_with fail
      refine C2.out.mono ?_
      rintro e wx ⟨rfl, hwx⟩
      subst hwx
      clear C2 z0 z1 z2 z3 z4
      go_wp2_with fail
      refine C3.out.mono ?_
      rintro e w6 ⟨oa, oc, rfl, hK6, C4⟩
      clear C3 hK6
      go_wp2_with fail
      refine C4.out.mono ?_
      rintro e w7 ⟨ya, yc, rfl, hK7, C5⟩
      clear C4 hK7
      go_wp2_with fail
      refine C5.out.mono ?_
      rintro e w8 ⟨rfl, hK8, C6⟩
      clear C5 hK8
      go_wp2_with fail
      refine C6.out.mono ?_
      rintro e wx ⟨⟨c', rfl, C7⟩, hwx⟩
      subst hwx
      clear C6
      go_wp2_with fail
      refine C7.out.mono ?_
      rintro e w10 ⟨rfl, C8⟩
      clear C7
      go_wp2_with fail
      refine C8.out.mono ?_
      rintro e w11 ⟨rfl, hK11⟩
      have HF : Hid (Game w0 w11 X T) := HG.out.quiet (HK03.out.trans hK11 fun _ _ e => e)
      clear C8 hK11
      go_wp2
      go_ret
      exact ⟨rfl, HF.out⟩

end Go.Proofs.Ytljhdijledclhaa
