import Derived.Test.YtpccdhoaicabcaaAd
namespace Go.Proofs.Ytpccdhoaicabcaa
open Go.RowKit
set_option linter.unusedVariables false

/-- The document's memory of n frames. -/
structure Rn (w : World) (b g n : Nat) (xs : List UInt32) : Prop where
  ne : b ≠ g
  blk : Blk w b [.slice (some ⟨g, 0, none⟩) xs.length xs.length] 40
  row : Blk w g (wvs xs) 27
  small : n ≤ 1024
  len : xs.length = n * 16
theorem Rn.kept {S : Nat → Prop} {w w' : World} {b g n : Nat} {xs : List UInt32} (h : Rn w b g n xs) (k : Keeps S w w') (hb : ¬ S b) (hg : ¬ S g) : Rn w' b g n xs :=
  ⟨h.ne, h.blk.kept k hb, h.row.kept k hg, h.small, h.len⟩
theorem Rn.grown {w w' : World} {b g n : Nat} {xs : List UInt32} (h : Rn w b g n xs) (k : Keeps (fun _ => False) w w') : Rn w' b g n xs := h.kept k (fun e => e) fun e => e

set_option maxHeartbeats 400000 in
theorem rframes_any (b g n : Nat) (xs : List UInt32) (w : World) (h : Rn w b g n xs) :
    Calls Try.prog 49 #[.pointer (some ⟨b, 0, none⟩)] w fun e w' => e = .returned (.int .i64 n) ∧ w' = w := by
  have c0 := h.blk.cell (i := 0) rfl
  have hs := h.small
  rw [h.len] at c0
  have h2 : (n : Int) ≤ 1024 := by omega
  clear h hs
  go_enter Try.func49, Try.ntmps49
  go_wp2
  go_ret
  exact ⟨ret_int (by omega), rfl⟩

set_option maxHeartbeats 400000 in
theorem rhas_any (b g n : Nat) (xs : List UInt32) (f : Int) (w : World) (h : Rn w b g n xs) :
    Calls Try.prog 47 #[.pointer (some ⟨b, 0, none⟩), .int .i64 f] w fun e w' => e = .returned (.bool (inR f n)) ∧ w' = w := by
  have H1 : Hid (Calls _ _ _ _ _) := rframes_any b g n xs w h
  clear h
  by_cases h0 : 0 ≤ f
  · go_enter Try.func47, Try.ntmps47
    go_wp2_with fail
    refine H1.out.mono ?_
    rintro e w1 ⟨rfl, hw⟩
    obtain rfl := hw.symm
    clear hw
    go_wp2
    go_ret
    exact ⟨ret_bool (by simp [inR, h0]), rfl⟩
  · clear H1
    go_enter Try.func47, Try.ntmps47
    go_wp2
    go_ret
    exact ⟨ret_bool (inR_false (by omega)).symm, rfl⟩

set_option maxHeartbeats 400000 in
theorem rwalk_nil (root page : Int) (w : World) : Calls Try.prog 25 #[.pointer none, .int .i64 root, .int .i64 page] w fun e w' => e = .returned (.tuple #[lf0.v, .int .i64 3]) ∧ Keeps (fun _ => False) w w' := by
  go_enter Try.func25, Try.ntmps25
  go_wp2
  have HL : Hid (_ = _) := load_leaf (l := lf0) (Blk.new w _ 51)
  refine bodyPost_ret (results_cell_tmp (p := 6) (u := 7) (ty := 51) rfl _ _ ⟨w.heap.size, 0, none⟩ lf0.v rfl HL.out) rfl ?_
  exact ⟨rfl, (Keeps.refl _ w).alloc _⟩

/-- Where the walk has an own block for the leaf. -/
structure Own (w W : World) : Prop where
  eq : W = w.alloc (.cells #[.int .i64 0, .int .i64 0, .int .i64 0] 51)
  blk : Blk W w.heap.size lf0.vs 51
  k : Keeps (fun _ => False) w W
  fin : ∀ l : Lf, Keeps (fun _ => False) w (setLf W w.heap.size l)
theorem own_mk (w : World) : Own w (w.alloc (.cells #[.int .i64 0, .int .i64 0, .int .i64 0] 51)) :=
  ⟨rfl, Blk.new w _ 51, (Keeps.refl _ w).alloc _, fun l => ((Keeps.refl _ w).alloc _).setLf _ _ fun e => absurd e (Nat.lt_irrefl _)⟩

set_option maxRecDepth 20000 in
set_option maxHeartbeats 2000000 in
theorem rwalk_any (b g n : Nat) (xs : List UInt32) (root page : Int) (w : World) (h : Rn w b g n xs) (hr1 : -9223372036854775808 ≤ root) (hr2 : root ≤ 9223372036854775807) :
    Calls Try.prog 25 #[.pointer (some ⟨b, 0, none⟩), .int .i64 root, .int .i64 page] w fun e w' =>
      e = .returned (.tuple #[(walkL n xs root page).v, .int .i64 (walkE n xs root page : Nat)]) ∧ Keeps (fun _ => False) w w' := by
  have hO := own_mk w
  obtain ⟨W, hW⟩ : ∃ W, W = w.alloc (.cells #[.int .i64 0, .int .i64 0, .int .i64 0] 51) := ⟨_, rfl⟩
  rw [← hW] at hO
  have hB := hO.blk
  have hM := h.grown hO.k
  have hl := h.len
  have hn := h.small
  have m0 := hM.blk.cell (i := 0) rfl
  have H1 := rhas_any b g n xs root W hM
  have c0 := hB.cell (i := 0) rfl
  have c1 := hB.cell (i := 1) rfl
  have c2 := hB.cell (i := 2) rfl
  have f0 := hB.frozen 0
  have f1 := hB.frozen 1
  have f2 := hB.frozen 2
  have HO : Hid (Own w W) := hO
  have HE : Hid (W = w.alloc (.cells #[.int .i64 0, .int .i64 0, .int .i64 0] 51)) := hW
  clear hB hO h hr1 hr2 hW
  by_cases h1 : 0 ≤ root ∧ root < n
  · rw [inR_true h1.1 h1.2] at H1
    have H1 : Hid (Calls _ _ _ _ _) := H1
    by_cases h2 : 0 ≤ page ∧ page < 256
    · obtain ⟨r, rfl⟩ := Int.eq_ofNat_of_zero_le h1.1
      obtain ⟨p, rfl⟩ := Int.eq_ofNat_of_zero_le h2.1
      obtain ⟨X, hX⟩ : ∃ X, X = walkT n xs (r : Int) (p : Int) := ⟨_, rfl⟩
      have hp0 : (p : Int) < 256 := by omega
      have hr0 : (r : Int) < 1024 := by omega
      have hi1 : 16 * r + p / 16 < xs.length := by omega
      have x0 := hM.row.cell (wvs_get xs _ hi1)
      rw [← getD_toNat xs _ hi1] at x0
      rw [show (xs.getD (16 * r + p / 16) 0).toNat = X by rw [hX]; rfl] at x0
      have i1 : (16 : Int) * r + p / 16 < xs.length := by omega
      have H2 : Hid (Calls _ _ _ _ _) := rdecode_any X W (by rw [hX]; exact nat_lt _)
      obtain ⟨L, hL⟩ : ∃ L, L = xs.length := ⟨_, rfl⟩
      rw [← hL] at m0 i1 hl
      by_cases ht : isT X = true
      · have H3 := rhas_any b g n xs (frm X) W hM
        have hfx := frm_lt X
        by_cases hf : frm X < n
        · obtain ⟨t1, t2, t3⟩ := in_nm ht hf
          rw [inR_true (by omega) (by omega)] at H3
          obtain ⟨Y, hY⟩ : ∃ Y, Y = walkB n xs (r : Int) (p : Int) := ⟨_, rfl⟩
          have hY' : Y = (xs.getD (16 * frm X + p % 16) 0).toNat := by rw [hY, hX]; rfl
          have hi2 : 16 * frm X + p % 16 < xs.length := by omega
          have y0 := hM.row.cell (wvs_get xs _ hi2)
          rw [← getD_toNat xs _ hi2, ← hY'] at y0
          have i2 : (16 : Int) * frm X + p % 16 < L := by omega
          have H4 : Hid (Calls _ _ _ _ _) := rdecode_any Y W (by rw [hY']; exact nat_lt _)
          have H5 := rhas_any b g n xs (frm Y) W hM
          have hfy := frm_lt Y
          rw [walk_low h1 h2 (by rw [← hX]; exact t1), ← hY]
          rw [show walkL n xs (r : Int) (p : Int) = if nmE n Y = 0 then ⟨p, frm Y, rts Y⟩ else lf0 by
            unfold walkL; rw [walk_low h1 h2 (by rw [← hX]; exact t1), ← hY]; rfl]
          rw [ht] at H2
          obtain ⟨T, hT⟩ : ∃ T, T = frm X := ⟨_, rfl⟩
          rw [← hT] at H2 H3 y0 i2 hf
          have hT4 : (T : Int) < 1024 := by omega
          have H3 : Hid (Calls _ _ _ _ _) := H3
          clear t1 t2 t3 hT hfx hY hY' hi2 hX hL ht hi1 h1 h2 hM
          by_cases hy : isT Y = true
          · by_cases hfY : frm Y < n
            · obtain ⟨u1, u2, u3⟩ := in_nm hy hfY
              rw [u1, if_pos rfl]
              rw [hy] at H4
              rw [inR_true (by omega) (by omega)] at H5
              obtain ⟨F, hF⟩ : ∃ F, F = frm Y := ⟨_, rfl⟩
              obtain ⟨R, hR⟩ : ∃ R, R = rts Y := ⟨_, rfl⟩
              rw [← hF, ← hR] at H4 ⊢
              rw [← hF] at H5
              have H5 : Hid (Calls _ _ _ _ _) := H5
              clear hF hR u1 u2 u3 hfY hfy hy hf hl
              go_enter Try.func25, Try.ntmps25
              go_wp2_with fail
              rw [← HE.out]
              refine H1.out.mono ?_
              rintro e w1 ⟨rfl, hw⟩
              obtain rfl := hw.symm
              clear hw
              go_wp2_with fail
              refine H2.out.mono ?_
              rintro e w1 ⟨rfl, hw⟩
              obtain rfl := hw.symm
              clear hw
              go_wp2_with fail
              refine H3.out.mono ?_
              rintro e w1 ⟨rfl, hw⟩
              obtain rfl := hw.symm
              clear hw
              go_wp2_with fail
              refine H4.out.mono ?_
              rintro e w1 ⟨rfl, hw⟩
              obtain rfl := hw.symm
              clear hw
              go_wp2_with fail
              refine H5.out.mono ?_
              rintro e w1 ⟨rfl, hw⟩
              obtain rfl := hw.symm
              clear hw
              go_wp2
              have HL : Hid (_ = _) := load_leaf (HO.out.blk.setLf (⟨p, F, R⟩ : Lf))
              refine bodyPost_ret (results_cell_tmp (p := 6) (u := 7) (ty := 51) rfl _ _ ⟨w.heap.size, 0, none⟩ (⟨p, F, R⟩ : Lf).v rfl HL.out) rfl ?_
              exact ⟨rfl, HO.out.fin ⟨p, F, R⟩⟩
            · obtain ⟨u1, u2, u3⟩ := out_nm hy hfY
              rw [u1, if_neg (by omega)]
              rw [hy] at H4
              rw [inR_false (by omega)] at H5
              have H5 : Hid (Calls _ _ _ _ _) := H5
              clear u1 u2 u3 hfY hfy hy hf hl
              go_enter Try.func25, Try.ntmps25
              go_wp2_with fail
              rw [← HE.out]
              refine H1.out.mono ?_
              rintro e w1 ⟨rfl, hw⟩
              obtain rfl := hw.symm
              clear hw
              go_wp2_with fail
              refine H2.out.mono ?_
              rintro e w1 ⟨rfl, hw⟩
              obtain rfl := hw.symm
              clear hw
              go_wp2_with fail
              refine H3.out.mono ?_
              rintro e w1 ⟨rfl, hw⟩
              obtain rfl := hw.symm
              clear hw
              go_wp2_with fail
              refine H4.out.mono ?_
              rintro e w1 ⟨rfl, hw⟩
              obtain rfl := hw.symm
              clear hw
              go_wp2_with fail
              refine H5.out.mono ?_
              rintro e w1 ⟨rfl, hw⟩
              obtain rfl := hw.symm
              clear hw
              go_wp2
              have HL : Hid (_ = _) := load_leaf (HO.out.blk.setLf lf0)
              refine bodyPost_ret (results_cell_tmp (p := 6) (u := 7) (ty := 51) rfl _ _ ⟨w.heap.size, 0, none⟩ lf0.v rfl HL.out) rfl ?_
              exact ⟨rfl, HO.out.fin lf0⟩
          · have hy := Bool.eq_false_iff.2 hy
            obtain ⟨u1, u2, u3⟩ := isT_nm (n := n) hy
            rw [u1, if_neg (by omega)]
            rw [hy] at H4
            clear u1 u2 u3 hfy hy hf hl H5
            go_enter Try.func25, Try.ntmps25
            go_wp2_with fail
            rw [← HE.out]
            refine H1.out.mono ?_
            rintro e w1 ⟨rfl, hw⟩
            obtain rfl := hw.symm
            clear hw
            go_wp2_with fail
            refine H2.out.mono ?_
            rintro e w1 ⟨rfl, hw⟩
            obtain rfl := hw.symm
            clear hw
            go_wp2_with fail
            refine H3.out.mono ?_
            rintro e w1 ⟨rfl, hw⟩
            obtain rfl := hw.symm
            clear hw
            go_wp2_with fail
            refine H4.out.mono ?_
            rintro e w1 ⟨rfl, hw⟩
            obtain rfl := hw.symm
            clear hw
            go_wp2
            have HL : Hid (_ = _) := load_leaf (HO.out.blk.setLf lf0)
            refine bodyPost_ret (results_cell_tmp (p := 6) (u := 7) (ty := 51) rfl _ _ ⟨w.heap.size, 0, none⟩ lf0.v rfl HL.out) rfl ?_
            exact ⟨rfl, HO.out.fin lf0⟩
        · obtain ⟨t1, t2, t3⟩ := out_nm ht hf
          obtain ⟨q1, q2⟩ := walk_top h1 h2 (show ¬ nmE n (walkT n xs (r : Int) (p : Int)) = 0 by rw [← hX]; omega)
          rw [q1, q2, ← hX, t1]
          rw [inR_false (by omega)] at H3
          rw [ht] at H2
          have H3 : Hid (Calls _ _ _ _ _) := H3
          clear q1 q2 t1 t2 t3 hfx hX hL ht hi1 h1 h2 hM hf hl
          go_enter Try.func25, Try.ntmps25
          go_wp2_with fail
          rw [← HE.out]
          refine H1.out.mono ?_
          rintro e w1 ⟨rfl, hw⟩
          obtain rfl := hw.symm
          clear hw
          go_wp2_with fail
          refine H2.out.mono ?_
          rintro e w1 ⟨rfl, hw⟩
          obtain rfl := hw.symm
          clear hw
          go_wp2_with fail
          refine H3.out.mono ?_
          rintro e w1 ⟨rfl, hw⟩
          obtain rfl := hw.symm
          clear hw
          go_wp2
          have HL : Hid (_ = _) := load_leaf (HO.out.blk.setLf lf0)
          refine bodyPost_ret (results_cell_tmp (p := 6) (u := 7) (ty := 51) rfl _ _ ⟨w.heap.size, 0, none⟩ lf0.v rfl HL.out) rfl ?_
          exact ⟨rfl, HO.out.fin lf0⟩
      · have ht := Bool.eq_false_iff.2 ht
        obtain ⟨t1, t2, t3⟩ := isT_nm (n := n) ht
        obtain ⟨q1, q2⟩ := walk_top h1 h2 (show ¬ nmE n (walkT n xs (r : Int) (p : Int)) = 0 by rw [← hX]; omega)
        rw [q1, q2, ← hX, t1]
        rw [ht] at H2
        clear q1 q2 t1 t2 t3 hX hL ht hi1 h1 h2 hM hl
        go_enter Try.func25, Try.ntmps25
        go_wp2_with fail
        rw [← HE.out]
        refine H1.out.mono ?_
        rintro e w1 ⟨rfl, hw⟩
        obtain rfl := hw.symm
        clear hw
        go_wp2_with fail
        refine H2.out.mono ?_
        rintro e w1 ⟨rfl, hw⟩
        obtain rfl := hw.symm
        clear hw
        go_wp2
        have HL : Hid (_ = _) := load_leaf (HO.out.blk.setLf lf0)
        refine bodyPost_ret (results_cell_tmp (p := 6) (u := 7) (ty := 51) rfl _ _ ⟨w.heap.size, 0, none⟩ lf0.v rfl HL.out) rfl ?_
        exact ⟨rfl, HO.out.fin lf0⟩
    · obtain ⟨q1, q2⟩ := walk_page (xs := xs) h1 h2
      rw [q1, q2]
      by_cases h3 : page < 0
      · clear q1 q2 h1 h2 hM m0 hl
        go_enter Try.func25, Try.ntmps25
        go_wp2_with fail
        rw [← HE.out]
        refine H1.out.mono ?_
        rintro e w1 ⟨rfl, hw⟩
        obtain rfl := hw.symm
        clear hw
        go_wp2
        have HL : Hid (_ = _) := load_leaf (HO.out.blk.setLf lf0)
        refine bodyPost_ret (results_cell_tmp (p := 6) (u := 7) (ty := 51) rfl _ _ ⟨w.heap.size, 0, none⟩ lf0.v rfl HL.out) rfl ?_
        exact ⟨rfl, HO.out.fin lf0⟩
      · have h4 : 256 ≤ page := by omega
        clear q1 q2 h1 h2 hM m0 hl
        go_enter Try.func25, Try.ntmps25
        go_wp2_with fail
        rw [← HE.out]
        refine H1.out.mono ?_
        rintro e w1 ⟨rfl, hw⟩
        obtain rfl := hw.symm
        clear hw
        go_wp2
        have HL : Hid (_ = _) := load_leaf (HO.out.blk.setLf lf0)
        refine bodyPost_ret (results_cell_tmp (p := 6) (u := 7) (ty := 51) rfl _ _ ⟨w.heap.size, 0, none⟩ lf0.v rfl HL.out) rfl ?_
        exact ⟨rfl, HO.out.fin lf0⟩
  · rw [inR_false h1] at H1
    have H1 : Hid (Calls _ _ _ _ _) := H1
    obtain ⟨q1, q2⟩ := walk_root (xs := xs) (page := page) h1
    rw [q1, q2]
    clear q1 q2 h1 hM m0 hl
    go_enter Try.func25, Try.ntmps25
    go_wp2_with fail
    rw [← HE.out]
    refine H1.out.mono ?_
    rintro e w1 ⟨rfl, hw⟩
    obtain rfl := hw.symm
    clear hw
    go_wp2
    have HL : Hid (_ = _) := load_leaf (HO.out.blk.setLf lf0)
    refine bodyPost_ret (results_cell_tmp (p := 6) (u := 7) (ty := 51) rfl _ _ ⟨w.heap.size, 0, none⟩ lf0.v rfl HL.out) rfl ?_
    exact ⟨rfl, HO.out.fin lf0⟩

end Go.Proofs.Ytpccdhoaicabcaa
