import Derived.Test.YtpccdhoaicabcaaF
namespace Go.Proofs.Ytpccdhoaicabcaa
open Go.RowKit
set_option linter.unusedVariables false

theorem nmE_cases (n x : Nat) : nmE n x = 0 ∨ nmE n x = 91 ∨ nmE n x = 92 := by
  unfold nmE; split
  · split
    · exact .inl rfl
    · exact .inr (.inl rfl)
  · exact .inr (.inr rfl)
theorem nmE_zero {n x : Nat} (h : nmE n x = 0) : isT x = true ∧ frm x < n ∧ nmF n x = frm x ∧ nmR n x = rts x := by
  by_cases c1 : isT x = true
  · by_cases c2 : frm x < n
    · exact ⟨c1, c2, (in_nm c1 c2).2⟩
    · rw [(out_nm c1 c2).1] at h; omega
  · rw [(isT_nm (Bool.eq_false_iff.2 c1)).1] at h; omega
theorem frm_lt (x : Nat) : frm x < 1024 := by unfold frm; split <;> omega
theorem rts_lt (x : Nat) : rts x < 8 := by unfold rts; split <;> omega

theorem walk_root {n : Nat} {xs : List UInt32} {root page : Int} (h : ¬ (0 ≤ root ∧ root < n)) : walkE n xs root page = 91 ∧ walkL n xs root page = lf0 := by
  have e : walkE n xs root page = 91 := by unfold walkE; rw [if_pos h]
  exact ⟨e, by unfold walkL; rw [e]; rfl⟩
theorem walk_page {n : Nat} {xs : List UInt32} {root page : Int} (h : 0 ≤ root ∧ root < n) (hp : ¬ (0 ≤ page ∧ page < 256)) : walkE n xs root page = 92 ∧ walkL n xs root page = lf0 := by
  have e : walkE n xs root page = 92 := by unfold walkE; rw [if_neg (fun k => k h), if_pos hp]
  exact ⟨e, by unfold walkL; rw [e]; rfl⟩
theorem walk_top {n : Nat} {xs : List UInt32} {root page : Int} (h : 0 ≤ root ∧ root < n) (hp : 0 ≤ page ∧ page < 256) (ht : ¬ nmE n (walkT n xs root page) = 0) : walkE n xs root page = nmE n (walkT n xs root page) ∧ walkL n xs root page = lf0 := by
  have e : walkE n xs root page = nmE n (walkT n xs root page) := by unfold walkE; rw [if_neg (fun k => k h), if_neg (fun k => k hp), if_neg ht]
  exact ⟨e, by unfold walkL; rw [e, if_neg ht]⟩
theorem walk_low {n : Nat} {xs : List UInt32} {root page : Int} (h : 0 ≤ root ∧ root < n) (hp : 0 ≤ page ∧ page < 256) (ht : nmE n (walkT n xs root page) = 0) : walkE n xs root page = nmE n (walkB n xs root page) := by
  unfold walkE; rw [if_neg (fun k => k h), if_neg (fun k => k hp), if_pos ht]

theorem walkE_cases (n : Nat) (xs : List UInt32) (root page : Int) : walkE n xs root page = 0 ∨ walkE n xs root page = 91 ∨ walkE n xs root page = 92 := by
  unfold walkE
  split
  · exact .inr (.inl rfl)
  · split
    · exact .inr (.inr rfl)
    · split
      · exact nmE_cases _ _
      · exact nmE_cases _ _

set_option maxHeartbeats 800000 in
theorem walk_nil (root page : Int) (w : World) : Calls Try.prog 16 #[.pointer none, .int .i64 root, .int .i64 page] w fun e w' => e = .returned (.tuple #[lf0.v, .int .i64 3]) ∧ Keeps (fun _ => False) w w' := by
  go_enter Try.func16, Try.ntmps16
  go_wp2
  refine bodyPost_ret (results_cell_tmp rfl _ _ _ lf0.v rfl (load_leaf (Blk.new w _ 51))) rfl ?_
  exact ⟨rfl, (Keeps.refl _ w).alloc _⟩

set_option maxHeartbeats 2000000 in
theorem walk_any (b g n : Nat) (xs : List UInt32) (root page : Int) (w : World) (h : Mn w b g n xs) :
    Calls Try.prog 16 #[.pointer (some ⟨b, 0, none⟩), .int .i64 root, .int .i64 page] w fun e w' =>
      e = .returned (.tuple #[(walkL n xs root page).v, .int .i64 (walkE n xs root page : Nat)]) ∧ Keeps (fun _ => False) w w' := by
  obtain ⟨W, hW⟩ : ∃ W, W = w.alloc (.cells #[.int .i64 0, .int .i64 0, .int .i64 0] 51) := ⟨_, rfl⟩
  have hB : Blk W w.heap.size lf0.vs 51 := by rw [hW]; exact Blk.new w _ 51
  have hK : Keeps (fun _ => False) w W := by rw [hW]; exact (Keeps.refl _ w).alloc _
  have hM := h.grown hK
  have H1 := has_any b g n xs root W hM
  have H2 := within_any page 256 W
  have c0 := hB.cell (i := 0) rfl
  have c1 := hB.cell (i := 1) rfl
  have c2 := hB.cell (i := 2) rfl
  have f0 := hB.frozen 0
  have f1 := hB.frozen 1
  have f2 := hB.frozen 2
  have HB : Hid (Blk W w.heap.size lf0.vs 51 ∧ Keeps (fun _ => False) w W) := ⟨hB, hK⟩
  have HE : Hid (W = w.alloc (.cells #[.int .i64 0, .int .i64 0, .int .i64 0] 51)) := hW
  have fin : ∀ l : Lf, Keeps (fun _ => False) w (setLf W w.heap.size l) := fun l => hK.setLf _ _ fun e => absurd e (Nat.lt_irrefl _)
  have HF : Hid (∀ l : Lf, Keeps (fun _ => False) w (setLf W w.heap.size l)) := fin
  clear fin hB hK h
  by_cases h1 : 0 ≤ root ∧ root < n
  · rw [inR_true h1.1 h1.2] at H1
    have H1 : Hid (Calls _ _ _ _ _) := H1
    by_cases h2 : 0 ≤ page ∧ page < 256
    · rw [inR_true h2.1 h2.2] at H2
      have H2 : Hid (Calls _ _ _ _ _) := H2
      obtain ⟨r, rfl⟩ := Int.eq_ofNat_of_zero_le h1.1
      obtain ⟨p, rfl⟩ := Int.eq_ofNat_of_zero_le h2.1
      obtain ⟨X, hX⟩ : ∃ X, X = walkT n xs (r : Int) (p : Int) := ⟨_, rfl⟩
      have H3 := named_any b g n xs r (p / 16) W hM (by omega) (by omega) X hX
      have hp0 : (p : Int) < 256 := by omega
      have e3 : ((p / 16 : Nat) : Int) = (p : Int) / 16 := by omega
      rw [e3] at H3
      have H3 : Hid (Calls _ _ _ _ _) := H3
      by_cases ht : nmE n X = 0
      · obtain ⟨_, ht2, ht3, _⟩ := nmE_zero ht
        obtain ⟨Y, hY⟩ : ∃ Y, Y = walkB n xs (r : Int) (p : Int) := ⟨_, rfl⟩
        have hY' : Y = (xs.getD (16 * frm X + p % 16) 0).toNat := by rw [hY, hX]; rfl
        have H4 := named_any b g n xs (frm X) (p % 16) W hM ht2 (by omega) Y hY'
        rw [walk_low h1 h2 (by rw [← hX]; exact ht), ← hY]
        rw [show walkL n xs (r : Int) (p : Int) = if nmE n Y = 0 then ⟨p, frm Y, rts Y⟩ else lf0 by
          unfold walkL; rw [walk_low h1 h2 (by rw [← hX]; exact ht), ← hY]; rfl]
        have e4 : ((p % 16 : Nat) : Int) = (p : Int) % 16 := by omega
        rw [e4, ← ht3] at H4
        obtain ⟨T, hT⟩ : ∃ T, T = nmF n X := ⟨_, rfl⟩
        rw [← hT] at H3 H4
        rw [ht] at H3
        have H4 : Hid (Calls _ _ _ _ _) := H4
        clear hT ht3 ht2 hY hY' hX e3 e4 h1 h2 hM ht hW
        by_cases hy : nmE n Y = 0
        · obtain ⟨_, _, hf, hr⟩ := nmE_zero hy
          rw [if_pos hy, hy]
          rw [hf, hr, hy] at H4
          have e5 : ∀ l : Lf, Hid (l = l) := fun l => rfl
          clear hf hr hy
          obtain ⟨F, hF⟩ : ∃ F, F = frm Y := ⟨_, rfl⟩
          obtain ⟨R, hR⟩ : ∃ R, R = rts Y := ⟨_, rfl⟩
          rw [← hF, ← hR] at H4 ⊢
          clear hF hR
          go_enter Try.func16, Try.ntmps16
          go_wp2_with fail
          rw [← HE.out]
          refine H1.out.mono ?_
          rintro e w1 ⟨rfl, hw⟩
          obtain rfl := hw.symm
          clear hw
          go_wp2_with fail
          refine H2.out.mono ?_
          rintro e w1 ⟨rfl, hw⟩
          obtain rfl := hw.symm
          clear hw
          go_wp2_with fail
          refine H3.out.mono ?_
          rintro e w1 ⟨rfl, hw⟩
          obtain rfl := hw.symm
          clear hw
          go_wp2_with fail
          refine H4.out.mono ?_
          rintro e w1 ⟨rfl, hw⟩
          obtain rfl := hw.symm
          clear hw
          go_wp2
          have HL : Hid (_ = _) := load_leaf (HB.out.1.setLf (⟨p, F, R⟩ : Lf))
          refine bodyPost_ret (results_cell_tmp (p := 6) (u := 7) (ty := 51) rfl _ _ ⟨w.heap.size, 0, none⟩ (⟨p, F, R⟩ : Lf).v rfl HL.out) rfl ?_
          exact ⟨rfl, HF.out (⟨p, F, R⟩ : Lf)⟩
        · rw [if_neg hy]
          obtain ⟨E, hE⟩ : ∃ E, E = nmE n Y := ⟨_, rfl⟩
          rw [← hE] at hy H4 ⊢
          have hy' : ((E : Int) != 0) = true := by rw [bne_iff_ne]; omega
          clear hE hy
          go_enter Try.func16, Try.ntmps16
          go_wp2_with fail
          rw [← HE.out]
          refine H1.out.mono ?_
          rintro e w1 ⟨rfl, hw⟩
          obtain rfl := hw.symm
          clear hw
          go_wp2_with fail
          refine H2.out.mono ?_
          rintro e w1 ⟨rfl, hw⟩
          obtain rfl := hw.symm
          clear hw
          go_wp2_with fail
          refine H3.out.mono ?_
          rintro e w1 ⟨rfl, hw⟩
          obtain rfl := hw.symm
          clear hw
          go_wp2_with fail
          refine H4.out.mono ?_
          rintro e w1 ⟨rfl, hw⟩
          obtain rfl := hw.symm
          clear hw
          go_wp2
          have HL : Hid (_ = _) := load_leaf (HB.out.1.setLf lf0)
          refine bodyPost_ret (results_cell_tmp (p := 6) (u := 7) (ty := 51) rfl _ _ ⟨w.heap.size, 0, none⟩ lf0.v rfl HL.out) rfl ?_
          exact ⟨rfl, HF.out lf0⟩
      · obtain ⟨q1, q2⟩ := walk_top h1 h2 (show ¬ nmE n (walkT n xs (r : Int) (p : Int)) = 0 by rw [← hX]; exact ht)
        rw [q1, q2, ← hX]
        obtain ⟨E, hE⟩ : ∃ E, E = nmE n X := ⟨_, rfl⟩
        rw [← hE] at ht H3 ⊢
        have hy' : ((E : Int) != 0) = true := by rw [bne_iff_ne]; omega
        clear hE ht q1 q2 hX e3 h1 h2 hM hW
        go_enter Try.func16, Try.ntmps16
        go_wp2_with fail
        rw [← HE.out]
        refine H1.out.mono ?_
        rintro e w1 ⟨rfl, hw⟩
        obtain rfl := hw.symm
        clear hw
        go_wp2_with fail
        refine H2.out.mono ?_
        rintro e w1 ⟨rfl, hw⟩
        obtain rfl := hw.symm
        clear hw
        go_wp2_with fail
        refine H3.out.mono ?_
        rintro e w1 ⟨rfl, hw⟩
        obtain rfl := hw.symm
        clear hw
        go_wp2
        have HL : Hid (_ = _) := load_leaf (HB.out.1.setLf lf0)
        refine bodyPost_ret (results_cell_tmp (p := 6) (u := 7) (ty := 51) rfl _ _ ⟨w.heap.size, 0, none⟩ lf0.v rfl HL.out) rfl ?_
        exact ⟨rfl, HF.out lf0⟩
    · rw [inR_false h2] at H2
      have H2 : Hid (Calls _ _ _ _ _) := H2
      obtain ⟨q1, q2⟩ := walk_page (xs := xs) h1 h2
      rw [q1, q2]
      clear q1 q2 h1 h2 hM hW
      go_enter Try.func16, Try.ntmps16
      go_wp2_with fail
      rw [← HE.out]
      refine H1.out.mono ?_
      rintro e w1 ⟨rfl, hw⟩
      obtain rfl := hw.symm
      clear hw
      go_wp2_with fail
      refine H2.out.mono ?_
      rintro e w1 ⟨rfl, hw⟩
      obtain rfl := hw.symm
      clear hw
      go_wp2
      have HL : Hid (_ = _) := load_leaf (HB.out.1.setLf lf0)
      refine bodyPost_ret (results_cell_tmp (p := 6) (u := 7) (ty := 51) rfl _ _ ⟨w.heap.size, 0, none⟩ lf0.v rfl HL.out) rfl ?_
      exact ⟨rfl, HF.out lf0⟩
  · rw [inR_false h1] at H1
    have H1 : Hid (Calls _ _ _ _ _) := H1
    obtain ⟨q1, q2⟩ := walk_root (xs := xs) (page := page) h1
    rw [q1, q2]
    clear q1 q2 h1 hM H2 hW
    go_enter Try.func16, Try.ntmps16
    go_wp2_with fail
    rw [← HE.out]
    refine H1.out.mono ?_
    rintro e w1 ⟨rfl, hw⟩
    obtain rfl := hw.symm
    clear hw
    go_wp2
    have HL : Hid (_ = _) := load_leaf (HB.out.1.setLf lf0)
    refine bodyPost_ret (results_cell_tmp (p := 6) (u := 7) (ty := 51) rfl _ _ ⟨w.heap.size, 0, none⟩ lf0.v rfl HL.out) rfl ?_
    exact ⟨rfl, HF.out lf0⟩

end Go.Proofs.Ytpccdhoaicabcaa
