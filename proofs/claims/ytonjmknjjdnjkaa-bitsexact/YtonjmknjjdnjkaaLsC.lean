import Derived.Test.YtonjmknjjdnjkaaLsB
namespace Go.Proofs.Ytonjmknjjdnjkaa
open Go.RowKit
set_option linter.unusedVariables false
set_option linter.unusedSimpArgs false

set_option maxRecDepth 100000 in
set_option maxHeartbeats 4000000 in
theorem lists_5 (who a b : Int) (W V N : Nat) (pb : Option Addr) (lb cb : Nat) (pw : Option Addr) (ws : List UInt32) (cw : Nat) (str : ByteArray) (w0 w : World) (X T : Nat) (h : Game w0 w X T) (hx : SegW w0 pw ws) (hxl : ws.length ≤ 536870911) (hT : T + 4 * ws.length ≤ 2147483700) :
    Calls Try.prog 13 #[.pointer (some ⟨X, 0, none⟩), .agg #[.int .i64 5, .int .i64 who, .int .i64 a, .int .i64 b, .int .u32 W, .int .u32 V, .int .u64 N, .slice pb lb cb, .slice pw ws.length cw, .string str]] w fun e w' => e = .returned (.bool true) ∧ Game w0 w' X (T + (8 + 4 * ws.length)) := by
  obtain ⟨m, n, s1, S1⟩ := h.stt #[.int .i64 5, .int .i64 who, .int .i64 a, .int .i64 b, .int .u32 W, .int .u32 V, .int .u64 N, .slice pb lb cb, .slice pw ws.length cw, .string str]
  have S1 := S1.more (T' := T + 4 * ws.length) (by omega)
  obtain ⟨bo, hbo⟩ : ∃ bo, bo = w.heap.size := ⟨_, rfl⟩
  obtain ⟨w1, hw1⟩ : ∃ w1, w1 = w.alloc (.cells #[.int .i64 5, .int .i64 who, .int .i64 a, .int .i64 b, .int .u32 W, .int .u32 V, .int .u64 N, .slice pb lb cb, .slice pw ws.length cw, .string str] 41) := ⟨_, rfl⟩
  rw [← hw1, ← hbo] at S1
  have HT : Hid (ws.length ≤ 536870911 ∧ T + 4 * ws.length ≤ 2147483700) := ⟨hxl, hT⟩
  have HX : Hid (SegW w0 pw ws) := hx
  have HS1 : Hid (Stt w0 X (T + 4 * ws.length) m n bo _ w1 s1) := S1
  clear S1 h hx hxl hT
  go_enter Try.func13, Try.ntmps13
  go_wp2_with fail
  rw [← hbo, ← hw1]
  clear hbo hw1
  refine (lentWords_any pw cw ws w1 (HS1.out.segW HX.out).1 (by have := HT.out.1; omega)).mono ?_
  rintro e w2 ⟨rfl, hB2, hK2⟩
  obtain ⟨G, hG⟩ : ∃ G, G = w1.heap.size := ⟨_, rfl⟩
  obtain ⟨s2, S2, k2⟩ : ∃ s2, Stt w0 X (T + 4 * ws.length) m n bo _ w2 s2 ∧ s2 (20, 0) = .blk G (wvs ws ++ List.replicate 9 n77) 36 := ⟨_, HS1.out.key (by omega) (by omega) (HS1.out.has.newBlk (20, 0) hB2 (Nat.le_refl _) hK2), by rw [hG]; exact upd_self _ _ _⟩
  rw [← hG] at hB2 ⊢
  have HP2 : Hid (Calls _ _ _ _ _) := pack_any (some ⟨G, 0, none⟩) (ws.length + 9) ws w2 (segW_pre hB2) (by have := HT.out.1; omega)
  have HS2 : Hid (Stt w0 X (T + 4 * ws.length) m n bo _ w2 s2 ∧ s2 (20, 0) = _) := ⟨S2, k2⟩
  clear S2 k2 hG hB2 hK2
  go_wp2_with fail
  refine HP2.out.mono ?_
  rintro e w3 ⟨rfl, hB3, hK3⟩
  obtain ⟨G3, hG3⟩ : ∃ G3, G3 = w2.heap.size := ⟨_, rfl⟩
  rw [← hG3] at hB3 ⊢
  have hO3 := own_of_blk hB3 (by rw [packB_length]; unfold maxLen; have := HT.out.1; omega)
  rw [packB_length] at hO3
  obtain ⟨s3, S3, k3, l3⟩ : ∃ s3, Stt w0 X (T + 4 * ws.length) m n bo _ w3 s3 ∧ s3 (20, 0) = .blk G (wvs ws ++ List.replicate 9 n77) 36 ∧ s3 (12, m) = .row 5 1 (.slice (some ⟨G3, 0, none⟩) (4 * ws.length) (4 * ws.length)) (4 * ws.length) (bvs (packB ws)) :=
    ⟨_, HS2.out.1.told (HS2.out.1.has.newRow (12, m) hO3 (fun k hk => by cases hk; exact Nat.le_of_eq hG3.symm) hK3), (upd_ne _ _ _ _ (by simp)).trans HS2.out.2, upd_self _ _ _⟩
  have o8 := (S3.has.blk S3.box).1.cell (i := 8) rfl
  have HS3 : Hid (Stt w0 X (T + 4 * ws.length) m n bo _ w3 s3 ∧ s3 (20, 0) = _ ∧ s3 (12, m) = _) := ⟨S3, k3, l3⟩
  have HP3 : Hid (Calls _ _ _ _ _) := refPack_any pw cw ws w3.drew ((S3.quiet ((Keeps.refl _ w3).drew)).segW HX.out).1 (by have := HT.out.1; omega)
  clear S3 k3 l3 hO3 hB3 hK3 hG3 HP2
  go_wp2_with fail
  refine wp_region_held_drew (S := fun w' => w'.cell? ⟨bo, 8, none⟩ = some (.slice pw ws.length cw)) Try.mixed o8 (fun hHeld => ?_)
  simp only [List.size_toArray, List.length_cons, List.length_nil, Nat.reduceAdd, Array.replicate_succ, Array.replicate_zero, List.push_toArray, List.append_toArray, List.nil_append, List.cons_append]
  refine hk 0 (.pointer (some ⟨X, 0, none⟩)) hHeld ?_
  simp only [Act.put, List.setIfInBounds_toArray, List.set_cons_zero, List.set_cons_succ]
  refine hk 1 (.pointer (some ⟨X, 0, none⟩)) hHeld ?_
  simp only [Act.put, List.setIfInBounds_toArray, List.set_cons_zero, List.set_cons_succ]
  refine hk 2 (.pointer (some ⟨X, 4, none⟩)) hHeld ?_
  simp only [Act.put, List.setIfInBounds_toArray, List.set_cons_zero, List.set_cons_succ]
  refine hk 3 (.slice (some ⟨G3, 0, none⟩) (4 * ws.length) (4 * ws.length)) hHeld ?_
  simp only [Act.put, List.setIfInBounds_toArray, List.set_cons_zero, List.set_cons_succ]
  refine hk 4 (.pointer (some ⟨bo, 8, none⟩)) hHeld ?_
  simp only [Act.put, List.setIfInBounds_toArray, List.set_cons_zero, List.set_cons_succ]
  refine hk 5 (.slice pw ws.length cw) hHeld ?_
  simp only [Act.put, List.setIfInBounds_toArray, List.set_cons_zero, List.set_cons_succ]
  refine wpAnyH_ready (rs := [6]) (by kernel_rfl) (by simp) ?_
  refine AllReadyH.cons rfl (fun Kq hK => ?_) AllReadyH.nil
  clear o8
  go_simp
  refine HP3.out.mono ?_
  rintro e w4 ⟨v4, rfl, hown, hGr⟩
  rw [packB_length] at hown
  obtain ⟨a4, c4, rfl, -, -⟩ := own_slice hown
  obtain ⟨s4, S4, k4, l4, r4⟩ : ∃ s4, Stt w0 X (T + 4 * ws.length) m n bo _ w4 s4 ∧ s4 (20, 0) = .blk G (wvs ws ++ List.replicate 9 n77) 36 ∧ s4 (12, m) = .row 5 1 (.slice (some ⟨G3, 0, none⟩) (4 * ws.length) (4 * ws.length)) (4 * ws.length) (bvs (packB ws)) ∧ s4 (22, 0) = .row 5 1 (.slice a4 (4 * ws.length) c4) (4 * ws.length) (bvs (packB ws)) :=
    ⟨_, (HS3.out.1.quiet ((Keeps.refl _ w3).drew)).key (by omega) (by omega) ((HS3.out.1.quiet ((Keeps.refl _ w3).drew)).has.newRow (22, 0) hown hGr.new.1 hGr.new.2), (upd_ne _ _ _ _ (by simp)).trans HS3.out.2.1, (upd_ne _ _ _ _ (by simp)).trans HS3.out.2.2, upd_self _ _ _⟩
  have o8 := (S4.has.blk S4.box).1.cell (i := 8) rfl
  have HS4 : Hid (Stt w0 X (T + 4 * ws.length) m n bo _ w4 s4 ∧ s4 (20, 0) = _ ∧ s4 (12, m) = _ ∧ s4 (22, 0) = _) := ⟨S4, k4, l4, r4⟩
  clear S4 k4 l4 r4 hown hGr HP3
  refine hK.out _ _ o8 (fun hHeld => ?_)
  simp only [Act.put, List.setIfInBounds_toArray, List.set_cons_zero, List.set_cons_succ]
  refine wpAnyH_ready (rs := [7]) (by kernel_rfl) (by simp) ?_
  refine AllReadyH.cons rfl (fun Kq hK => ?_) AllReadyH.nil
  clear o8
  go_simp
  refine (HS4.out.1.keep (packB_length ws) HS4.out.2.2.1 HS4.out.2.2.2 (by omega) (by have := HT.out; omega)).mono ?_
  rintro e w5 ⟨rfl, s5, S5, e5⟩
  have o8 := (S5.has.blk S5.box).1.cell (i := 8) rfl
  have HS5 : Hid (Stt w0 X (T + 4 * ws.length + 1) (m + 1) n bo _ w5 s5 ∧ s5 (20, 0) = _) := ⟨S5, (e5 20 0 (by omega)).trans HS4.out.2.1⟩
  clear S5 e5
  refine hK.out _ _ o8 (fun hHeld => ?_)
  simp only [Act.put, List.setIfInBounds_toArray, List.set_cons_zero, List.set_cons_succ]
  refine hk 8 (.bool true) hHeld ?_
  simp only [Act.put, List.setIfInBounds_toArray, List.set_cons_zero, List.set_cons_succ]
  refine wpAnyH_done (by kernel_rfl) ?_ _
  clear hHeld hK
  go_wp2_with fail
  obtain ⟨hB5, next5⟩ := HS5.out.1.has.blk HS5.out.2
  obtain ⟨hsg, hne⟩ := HS5.out.1.segW HX.out
  refine (backWords_any G cw pw ws w5 hsg hB5 (hne _ _ _ HS5.out.2) (by have := HT.out.1; omega)).mono ?_
  rintro e w6 ⟨rfl, hB6, hK6⟩
  obtain ⟨s6, S6⟩ : ∃ s6, Stt w0 X (T + 4 * ws.length + 1) (m + 1) n bo _ w6 s6 := ⟨_, HS5.out.1.key (by omega) (by omega) (next5 _ _ _ hB6 hK6)⟩
  obtain ⟨us, hus⟩ : ∃ us : List UInt32, us = List.replicate ws.length 2021161080 := ⟨_, rfl⟩
  have hul : us.length = ws.length := by rw [hus, List.length_replicate]
  have hsu : SegW w6 (some ⟨G, 0, none⟩) us := by rw [hus]; exact segW_rep hB6
  have hp6 := pack_any (some ⟨G, 0, none⟩) (ws.length + 9) us w6 hsu (by rw [hul]; have := HT.out.1; omega)
  rw [hul] at hp6
  have HP6 : Hid (Calls _ _ _ _ _) := hp6
  clear hp6
  have HS6 : Hid (Stt w0 X (T + 4 * ws.length + 1) (m + 1) n bo _ w6 s6 ∧ us.length = ws.length ∧ SegW w6 (some ⟨G, 0, none⟩) us) := ⟨S6, hul, hsu⟩
  clear S6 hus hul hsu hB5 hB6 hK6 next5 hsg hne o8
  go_wp2_with fail
  refine HP6.out.mono ?_
  rintro e w7 ⟨rfl, hB7, hK7⟩
  obtain ⟨G7, hG7⟩ : ∃ G7, G7 = w6.heap.size := ⟨_, rfl⟩
  rw [← hG7] at hB7 ⊢
  have hO7 := own_of_blk hB7 (by rw [packB_length, HS6.out.2.1]; unfold maxLen; have := HT.out.1; omega)
  rw [packB_length, HS6.out.2.1] at hO7
  obtain ⟨s7, S7, l7⟩ : ∃ s7, Stt w0 X (T + 4 * ws.length + 1) (m + 1) n bo _ w7 s7 ∧ s7 (12, m + 1) = .row 5 1 (.slice (some ⟨G7, 0, none⟩) (4 * ws.length) (4 * ws.length)) (4 * ws.length) (bvs (packB us)) :=
    ⟨_, HS6.out.1.told (HS6.out.1.has.newRow (12, m + 1) hO7 (fun k hk => by cases hk; exact Nat.le_of_eq hG7.symm) hK7), upd_self _ _ _⟩
  have hp7 := refPack_any (some ⟨G, 0, none⟩) (ws.length + 9) us w7.drew ((HS6.out.2.2.kept hK7 (fun _ _ e => e)).kept ((Keeps.refl (fun _ => False) w7).drew) (fun _ _ e => e)) (by rw [HS6.out.2.1]; have := HT.out.1; omega)
  rw [HS6.out.2.1] at hp7
  have HP7 : Hid (Calls _ _ _ _ _) := hp7
  clear hp7
  have HS7 : Hid (Stt w0 X (T + 4 * ws.length + 1) (m + 1) n bo _ w7 s7 ∧ s7 (12, m + 1) = _) := ⟨S7, l7⟩
  clear S7 l7 hO7 hB7 hK7 hG7 HP6
  go_wp2_with fail
  refine wp_region_held_drew (S := fun _ => True) Try.mixed trivial (fun hHeld => ?_)
  simp only [List.size_toArray, List.length_cons, List.length_nil, Nat.reduceAdd, Array.replicate_succ, Array.replicate_zero, List.push_toArray, List.append_toArray, List.nil_append, List.cons_append]
  refine hk 0 (.pointer (some ⟨X, 0, none⟩)) hHeld ?_
  simp only [Act.put, List.setIfInBounds_toArray, List.set_cons_zero, List.set_cons_succ]
  refine hk 1 (.pointer (some ⟨X, 0, none⟩)) hHeld ?_
  simp only [Act.put, List.setIfInBounds_toArray, List.set_cons_zero, List.set_cons_succ]
  refine hk 2 (.pointer (some ⟨X, 4, none⟩)) hHeld ?_
  simp only [Act.put, List.setIfInBounds_toArray, List.set_cons_zero, List.set_cons_succ]
  refine hk 3 (.slice (some ⟨G7, 0, none⟩) (4 * ws.length) (4 * ws.length)) hHeld ?_
  simp only [Act.put, List.setIfInBounds_toArray, List.set_cons_zero, List.set_cons_succ]
  refine hk 4 (.slice (some ⟨G, 0, none⟩) ws.length (ws.length + 9)) hHeld ?_
  simp only [Act.put, List.setIfInBounds_toArray, List.set_cons_zero, List.set_cons_succ]
  refine wpAnyH_ready (rs := [5]) (by kernel_rfl) (by simp) ?_
  refine AllReadyH.cons rfl (fun Kq hK => ?_) AllReadyH.nil
  go_simp
  refine HP7.out.mono ?_
  rintro e w8 ⟨v8, rfl, hown, hGr⟩
  rw [packB_length, HS6.out.2.1] at hown
  obtain ⟨a8, c8, rfl, -, -⟩ := own_slice hown
  obtain ⟨s8, S8, l8, r8⟩ : ∃ s8, Stt w0 X (T + 4 * ws.length + 1) (m + 1) n bo _ w8 s8 ∧ s8 (12, m + 1) = .row 5 1 (.slice (some ⟨G7, 0, none⟩) (4 * ws.length) (4 * ws.length)) (4 * ws.length) (bvs (packB us)) ∧ s8 (22, 0) = .row 5 1 (.slice a8 (4 * ws.length) c8) (4 * ws.length) (bvs (packB us)) :=
    ⟨_, (HS7.out.1.quiet ((Keeps.refl _ w7).drew)).key (by omega) (by omega) ((HS7.out.1.quiet ((Keeps.refl _ w7).drew)).has.newRow (22, 0) hown hGr.new.1 hGr.new.2), (upd_ne _ _ _ _ (by simp)).trans HS7.out.2, upd_self _ _ _⟩
  have HS8 : Hid (Stt w0 X (T + 4 * ws.length + 1) (m + 1) n bo _ w8 s8 ∧ s8 (12, m + 1) = _ ∧ s8 (22, 0) = _) := ⟨S8, l8, r8⟩
  clear S8 l8 r8 hown hGr HP7
  refine hK.out _ _ trivial (fun hHeld => ?_)
  simp only [Act.put, List.setIfInBounds_toArray, List.set_cons_zero, List.set_cons_succ]
  refine wpAnyH_ready (rs := [6]) (by kernel_rfl) (by simp) ?_
  refine AllReadyH.cons rfl (fun Kq hK => ?_) AllReadyH.nil
  go_simp
  refine (HS8.out.1.keep (by rw [packB_length, HS6.out.2.1]) HS8.out.2.1 HS8.out.2.2 (by omega) (by have := HT.out; omega)).mono ?_
  rintro e w9 ⟨rfl, s9, S9, e9⟩
  have HF : Hid (Game w0 w9 X (T + (8 + 4 * ws.length))) := (S9.more (T' := T + (8 + 4 * ws.length)) (by omega)).game
  clear S9 e9
  refine hK.out _ _ trivial (fun hHeld => ?_)
  simp only [Act.put, List.setIfInBounds_toArray, List.set_cons_zero, List.set_cons_succ]
  refine hk 7 (.bool true) hHeld ?_
  simp only [Act.put, List.setIfInBounds_toArray, List.set_cons_zero, List.set_cons_succ]
  refine wpAnyH_done (by kernel_rfl) ?_ _
  clear hHeld hK
  go_wp2
  go_ret
  exact ⟨rfl, HF.out⟩
end Go.Proofs.Ytonjmknjjdnjkaa
