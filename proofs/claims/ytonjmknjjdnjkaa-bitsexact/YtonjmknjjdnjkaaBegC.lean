import Derived.Test.YtonjmknjjdnjkaaBegB
namespace Go.Proofs.Ytonjmknjjdnjkaa
open Go.RowKit
set_option linter.unusedVariables false
set_option linter.unusedSimpArgs false

set_option maxRecDepth 100000 in
set_option maxHeartbeats 4000000 in
theorem begins_14m (s : Nat × Nat → Ob) (g : GS) (who a b : Int) (W V N : Nat) (pb : Option Addr) (xs : List UInt8) (cb : Nat) (pw : Option Addr) (lw cw : Nat) (str : ByteArray) (w0 w : World) (X T nw nr : Nat) (hH : Has s w) (hR : Rel s g w0) (hF : Fits g T) (h4 : g.X = X) (h5 : g.W.length = nw) (h6 : g.R.length = nr) (hT : T + xs.length ≤ 2147483700) (hx : SrcM (s (24, 0)) g w0 pb xs) :
    Calls Try.prog 10 #[.pointer (some ⟨X, 0, none⟩), .agg #[.int .i64 14, .int .i64 who, .int .i64 a, .int .i64 b, .int .u32 W, .int .u32 V, .int .u64 N, .slice pb xs.length cb, .slice pw lw cw, .string str]] w fun e w' => e = .returned (.bool true) ∧ Play w0 w' X (T + xs.length + 8) nw (nr + 1) := by
  subst h4 h5 h6
  obtain ⟨ob, hob⟩ : ∃ ob, ob = s (24, 0) := ⟨_, rfl⟩
  rw [← hob] at hx
  have H1 := has_box hH #[.int .i64 14, .int .i64 who, .int .i64 a, .int .i64 b, .int .u32 W, .int .u32 V, .int .u64 N, .slice pb xs.length cb, .slice pw lw cw, .string str]
  have R1 := hR.other 21 0 (by omega) (.blk w.heap.size (#[.int .i64 14, .int .i64 who, .int .i64 a, .int .i64 b, .int .u32 W, .int .u32 V, .int .u64 N, .slice pb xs.length cb, .slice pw lw cw, .string str] : Array Value).toList 41)
  obtain ⟨w1, hw1⟩ : ∃ w1, w1 = w.alloc (.cells #[.int .i64 14, .int .i64 who, .int .i64 a, .int .i64 b, .int .u32 W, .int .u32 V, .int .u64 N, .slice pb xs.length cb, .slice pw lw cw, .string str] 41) := ⟨_, rfl⟩
  obtain ⟨s1, hs1⟩ : ∃ s1, s1 = upd s (21, 0) (.blk w.heap.size (#[.int .i64 14, .int .i64 who, .int .i64 a, .int .i64 b, .int .u32 W, .int .u32 V, .int .u64 N, .slice pb xs.length cb, .slice pw lw cw, .string str] : Array Value).toList 41) := ⟨_, rfl⟩
  rw [← hw1, ← hs1] at H1
  rw [← hs1] at R1
  have e1 : s1 (24, 0) = ob := by rw [hs1, upd_ne _ _ _ _ (by simp), hob]
  clear hH hR hs1 hob
  have hF2 := hF.more (T' := T + xs.length) (by omega)
  have HS : Hid (SrcM ob g w0 pb xs) := hx
  obtain ⟨X, sw, sv, sr, sq, sb, sk, gW, gV, gR, gQ, gB, gK⟩ := g
  have x1 := R1.x
  have rr1 := R1.rr
  have rq1 := R1.rq
  have hlQ : gQ.length = gR.length := R1.lenQ
  dsimp only at x1 rr1 rq1
  obtain ⟨asr, csr, rfl, -, -⟩ := own_slice (H1.row rr1).1
  obtain ⟨asq, csq, rfl, -, -⟩ := own_slice (H1.row rq1).1
  obtain ⟨L, hL⟩ : ∃ L, L = gR.length := ⟨_, rfl⟩
  rw [hlQ, ← hL] at x1 R1 hF2 HS
  obtain ⟨g0, hg0⟩ : ∃ g0, g0 = GS.mk X sw sv (.slice asr L csr) (.slice asq L csq) sb sk gW gV gR gQ gB gK := ⟨_, rfl⟩
  have eX : g0.X = X := by rw [hg0]
  have eq3 : g0.sq = .slice asq L csq := by rw [hg0]
  have er3 : g0.sr = .slice asr L csr := by rw [hg0]
  have eL : g0.R.length = L := by rw [hg0, hL]
  have eW : g0.W.length = gW.length := by rw [hg0]
  rw [← hg0] at R1 hF2 HS
  have HR : Hid (Rel s1 g0 w0 ∧ Fits g0 (T + xs.length) ∧ g0.X = X ∧ g0.sq = .slice asq L csq ∧ g0.sr = .slice asr L csr ∧ g0.R.length = L ∧ g0.W.length = gW.length) := ⟨R1, hF2, eX, eq3, er3, eL, eW⟩
  have HH : Hid (Has s1 w1 ∧ s1 (1, 0) = _) := ⟨H1, x1⟩
  have HT : Hid (T + xs.length ≤ 4294967280 ∧ xs.length ≤ 17592186044416 ∧ xs.length ≤ T + xs.length + 8) := by unfold Hid; omega
  have HL0 : Hid (Seg w1 pb xs) := (HS.out.out _ _ _ H1 R1 rfl rfl e1).1
  have HE1 : Hid (s1 (24, 0) = ob) := e1
  rw [← hL]
  clear hL hlQ R1 hF hF2 x1 rr1 rq1 H1 hg0 eX eq3 er3 eL eW hT e1 hx
  go_enter Try.func10, Try.ntmps10
  go_wp2_with fail
  rw [← hw1]
  clear hw1
  refine (lentBytes_any pb cb xs w1 HL0.out HT.out.2.1).mono ?_
  rintro e w2 ⟨rfl, hB2, hK2⟩
  obtain ⟨s2, H2, k2, n2⟩ := (HH.out.1.newBlk (20, 0) hB2 (Nat.le_refl _) hK2).name
  obtain ⟨G, hG⟩ : ∃ G, G = w1.heap.size := ⟨_, rfl⟩
  rw [← hG] at k2 hB2 ⊢
  have HS2 : Hid (Seg w2 pb xs) := HL0.out.kept hK2 (fun _ _ e => e)
  have HNR : Hid (Calls _ _ _ _ _) := newReader_any (some ⟨G, 0, none⟩) (xs.length + 9) xs w2 (seg_pre hB2) (by have := HT.out.2.1; omega)
  have HH2 : Hid (Has s2 w2 ∧ s2 (20, 0) = _ ∧ ∀ o', o' ≠ (20, 0) → s2 o' = s1 o') := ⟨H2, k2, n2⟩
  clear H2 k2 n2 hG hB2 hK2
  go_wp2_with fail
  refine HNR.out.mono ?_
  rintro e w3 ⟨rfl, hR3, hK3⟩
  obtain ⟨s3, H3, k3, n3⟩ := (HH2.out.1.newRd (10, L) hR3 (Nat.le_succ _) (Nat.le_refl _) hK3).name
  obtain ⟨b3, hb3⟩ : ∃ b3, b3 = w2.heap.size + 1 := ⟨_, rfl⟩
  rw [← hb3] at k3 ⊢
  have y3 := (cells_x H3 ((n3 (1, 0) (by simp)).trans ((HH2.out.2.2 (1, 0) (by simp)).trans HH.out.2))).2.2.2.1
  have HS3 : Hid (∀ k, Seg (w3.drewN k) pb xs) := fun k => (HS2.out.kept hK3 (fun _ _ e => e)).kept ((Keeps.refl (fun _ => False) w3).drewN k) (fun _ _ e => e)
  have HH3 : Hid (Has s3 w3 ∧ s3 (10, L) = _ ∧ s3 (20, 0) = _ ∧ ∀ x y, x < 16 → (x, y) ≠ (10, L) → s3 (x, y) = s1 (x, y)) := ⟨H3, k3, (n3 _ (by simp)).trans HH2.out.2.1, fun x y hx hn => (n3 _ hn).trans (HH2.out.2.2 _ (by intro e; cases e; omega))⟩
  have HM3 : Hid (s3 (24, 0) = ob) := (n3 _ (by simp)).trans ((HH2.out.2.2 _ (by simp)).trans HE1.out)
  clear H3 k3 n3 hb3 hR3 hK3 HNR HS2
  go_wp2_with fail
  refine wp_region_held_drew (S := fun _ => True) Try.mixed trivial (fun hHeld => ?_)
  simp only [List.size_toArray, List.length_cons, List.length_nil, Nat.reduceAdd, Array.replicate_succ, Array.replicate_zero, List.push_toArray, List.append_toArray, List.nil_append, List.cons_append]
  refine hk 0 (.pointer (some ⟨X, 0, none⟩)) hHeld ?_
  simp only [Act.put, List.setIfInBounds_toArray, List.set_cons_zero, List.set_cons_succ]
  refine hk 1 (.pointer (some ⟨X, 0, none⟩)) hHeld ?_
  simp only [Act.put, List.setIfInBounds_toArray, List.set_cons_zero, List.set_cons_succ]
  refine hk 2 (.pointer (some ⟨X, 0, none⟩)) hHeld ?_
  simp only [Act.put, List.setIfInBounds_toArray, List.set_cons_zero, List.set_cons_succ]
  refine hk 3 (.pointer (some ⟨X, 3, none⟩)) hHeld ?_
  simp only [Act.put, List.setIfInBounds_toArray, List.set_cons_zero, List.set_cons_succ]
  refine hk 5 (.slice pb xs.length cb) hHeld ?_
  simp only [Act.put, List.setIfInBounds_toArray, List.set_cons_zero, List.set_cons_succ]
  refine wpAnyH_ready (rs := [4, 6]) (by kernel_rfl) (by simp) ?_
  refine AllReadyH.cons rfl (fun Kq hK => ?_) (AllReadyH.cons rfl (fun Kq hK => ?_) AllReadyH.nil)
  · go_simp
    refine hK.out _ _ trivial (fun hHeld => ?_)
    simp only [Act.put, List.setIfInBounds_toArray, List.set_cons_zero, List.set_cons_succ]
    clear y3
    refine wpAnyH_ready (rs := [6]) (by kernel_rfl) (by simp) ?_
    refine AllReadyH.cons rfl (fun Kq hK => ?_) AllReadyH.nil
    go_simp
    refine (refNewReader_any pb cb xs w3.drew (HS3.out 1) (by have := HT.out.2.1; omega)).mono ?_
    rintro e w4 ⟨rfl, v', hRR, hv, hK4⟩
    obtain ⟨s4, H4, k4, n4⟩ := ((HH3.out.1.quiet ((Keeps.refl _ w3).drew)).newDr (11, L) hRR (Nat.le_refl _) hv hK4).name
    obtain ⟨c4, hc4⟩ : ∃ c4, c4 = w3.drew.heap.size := ⟨_, rfl⟩
    rw [← hc4] at k4 ⊢
    clear hc4 hRR hv hK4
    refine hK.out _ _ trivial (fun hHeld => ?_)
    simp only [Act.put, List.setIfInBounds_toArray, List.set_cons_zero, List.set_cons_succ]
    obtain ⟨a5, c5, W5, a7, c7, W7, W6, W8, s8, g8, q4, happ5, ⟨hB5, hW6⟩, hB6, happ7, ⟨hB7, hW8⟩, H8, R8, F8, eX8, eW8, eV8, eL8, k8, m8⟩ := beg_rest (G := G) H4 HR.out.1 HR.out.2.1 HR.out.2.2.2.2.2.1 HT.out.1 ((n4 _ (by simp)).trans HH3.out.2.1) k4 ((n4 _ (by simp)).trans HH3.out.2.2.1) (fun x y hx m10 m11 => (n4 _ m11).trans (HH3.out.2.2.2 x y hx m10)) HT.out.2.2
    rw [HR.out.2.2.1] at q4 hB5 hW6 hB6 hB7 hW8
    rw [HR.out.2.2.2.1] at q4 happ5 hB5
    rw [HR.out.2.2.2.2.1] at happ7 hB5 hB6 hB7
    have q5 := hB5.cell (i := 3) rfl
    have f5 := hB5.frozen 3
    have q6 := hB6.cell (i := 2) rfl
    have q7 := hB7.cell (i := 2) rfl
    have f7 := hB7.frozen 2
    have HAP5 : Hid (∀ ty, _) := happ5
    have HAP7 : Hid (∀ ty, _) := happ7
    have HW : Hid (True ∧ W6 = W5.setCell ⟨X, 3, none⟩ (.slice a5 (L + 1) c5) ∧ W8 = W7.setCell ⟨X, 2, none⟩ (.slice a7 (L + 1) c7)) := ⟨trivial, hW6, hW8⟩
    have HP : Hid (Has s8 W8 ∧ Rel s8 g8 w0 ∧ Fits g8 (T + xs.length + 8) ∧ g8.X = X ∧ g8.W = g0.W ∧ g8.V = g0.V ∧ g8.R.length = L + 1 ∧ s8 (20, 0) = _) := ⟨H8, R8, F8, eX8.trans HR.out.2.2.1, eW8, eV8, eL8, k8⟩
    have HM8 : Hid (s8 (24, 0) = ob) := m8.trans ((n4 _ (by simp)).trans HM3.out)
    clear hB5 hB6 hB7 happ5 happ7 hW6 hW8 H8 R8 F8 eX8 eW8 eV8 eL8 k8 m8 H4 k4 n4
    clear q4
    refine wpAnyH_ready (rs := [7]) (by kernel_rfl) (by simp) ?_
    refine AllReadyH.cons rfl (fun Kq hK => ?_) AllReadyH.nil
    go_simp
    refine hK.out _ _ trivial (fun hHeld => ?_)
    simp only [Act.put, List.setIfInBounds_toArray, List.set_cons_zero, List.set_cons_succ]
    refine wpAnyH_ready (rs := [8]) (by kernel_rfl) (by simp) ?_
    refine AllReadyH.cons rfl (fun Kq hK => ?_) AllReadyH.nil
    rw [if_pos (by rfl)]
    refine wp_append_run (.tmp 67) (.tmp 70) 28 28 rfl (.slice asq L csq) (.slice (some ⟨w4.heap.size, 0, none⟩) 1 1) _ W5 rfl rfl HAP5.out ?_
    refine hK.out _ _ trivial (fun hHeld => ?_)
    simp only [Act.put, List.setIfInBounds_toArray, List.set_cons_zero, List.set_cons_succ]
    refine hk 9 (.pointer (some ⟨X, 0, none⟩)) hHeld ?_
    simp only [Act.put, List.setIfInBounds_toArray, List.set_cons_zero, List.set_cons_succ]
    refine hk 10 (.pointer (some ⟨X, 3, none⟩)) hHeld ?_
    simp only [Act.put, List.setIfInBounds_toArray, List.set_cons_zero, List.set_cons_succ]
    refine wpAnyH_ready (rs := [11]) (by kernel_rfl) (by simp) ?_
    refine AllReadyH.cons rfl (fun Kq hK => ?_) AllReadyH.nil
    go_simp
    refine hK.out _ _ trivial (fun hHeld => ?_)
    simp only [Act.put, List.setIfInBounds_toArray, List.set_cons_zero, List.set_cons_succ]
    refine wpAnyH_done (by kernel_rfl) ?_ _
    rw [← HW.out.2.1]
    clear hHeld hK q5 f5 HAP5
    go_wp2_with (at_builtin; refine wpList_append_run rfl (.tmp 78) (.tmp 80) 27 27 rfl (.slice asr L csr) (.slice (some ⟨W6.heap.size, 0, none⟩) 1 1) (.slice a7 (L + 1) c7) W7 rfl rfl HAP7.out ?_; refine Hid.out ?_)
    unfold Hid
    clear HAP7 q6
    go_wp2_with fail
    rw [← HW.out.2.2]
    clear q7 f7 HW
    obtain ⟨hB8, next8⟩ := HP.out.1.blk HP.out.2.2.2.2.2.2.2
    obtain ⟨hsg, hne⟩ := HS.out.out _ _ _ HP.out.1 HP.out.2.1 HP.out.2.2.2.2.1 HP.out.2.2.2.2.2.1 HM8.out
    refine (backBytes_any G cb pb xs W8 hsg hB8 (hne _ _ _ HP.out.2.2.2.2.2.2.2) HT.out.2.1).mono ?_
    rintro e w9 ⟨rfl, hB9, hK9⟩
    have HF : Hid (Play w0 w9 X (T + xs.length + 8) gW.length (L + 1)) := ⟨_, _, next8 _ _ _ hB9 hK9, HP.out.2.1.other 20 0 (by omega) _, HP.out.2.2.1, HP.out.2.2.2.1, by rw [HP.out.2.2.2.2.1]; exact HR.out.2.2.2.2.2.2, HP.out.2.2.2.2.2.2.1⟩
    clear hB9 hK9 hB8 next8 hsg hne
    go_wp2
    go_ret
    exact ⟨rfl, HF.out⟩
  · go_simp
    refine (refNewReader_any pb cb xs w3.drew (HS3.out 1) (by have := HT.out.2.1; omega)).mono ?_
    rintro e w4 ⟨rfl, v', hRR, hv, hK4⟩
    obtain ⟨s4, H4, k4, n4⟩ := ((HH3.out.1.quiet ((Keeps.refl _ w3).drew)).newDr (11, L) hRR (Nat.le_refl _) hv hK4).name
    obtain ⟨c4, hc4⟩ : ∃ c4, c4 = w3.drew.heap.size := ⟨_, rfl⟩
    rw [← hc4] at k4 ⊢
    clear hc4 hRR hv hK4
    refine hK.out _ _ trivial (fun hHeld => ?_)
    simp only [Act.put, List.setIfInBounds_toArray, List.set_cons_zero, List.set_cons_succ]
    clear y3
    obtain ⟨a5, c5, W5, a7, c7, W7, W6, W8, s8, g8, q4, happ5, ⟨hB5, hW6⟩, hB6, happ7, ⟨hB7, hW8⟩, H8, R8, F8, eX8, eW8, eV8, eL8, k8, m8⟩ := beg_rest (G := G) H4 HR.out.1 HR.out.2.1 HR.out.2.2.2.2.2.1 HT.out.1 ((n4 _ (by simp)).trans HH3.out.2.1) k4 ((n4 _ (by simp)).trans HH3.out.2.2.1) (fun x y hx m10 m11 => (n4 _ m11).trans (HH3.out.2.2.2 x y hx m10)) HT.out.2.2
    rw [HR.out.2.2.1] at q4 hB5 hW6 hB6 hB7 hW8
    rw [HR.out.2.2.2.1] at q4 happ5 hB5
    rw [HR.out.2.2.2.2.1] at happ7 hB5 hB6 hB7
    have q5 := hB5.cell (i := 3) rfl
    have f5 := hB5.frozen 3
    have q6 := hB6.cell (i := 2) rfl
    have q7 := hB7.cell (i := 2) rfl
    have f7 := hB7.frozen 2
    have HAP5 : Hid (∀ ty, _) := happ5
    have HAP7 : Hid (∀ ty, _) := happ7
    have HW : Hid (True ∧ W6 = W5.setCell ⟨X, 3, none⟩ (.slice a5 (L + 1) c5) ∧ W8 = W7.setCell ⟨X, 2, none⟩ (.slice a7 (L + 1) c7)) := ⟨trivial, hW6, hW8⟩
    have HP : Hid (Has s8 W8 ∧ Rel s8 g8 w0 ∧ Fits g8 (T + xs.length + 8) ∧ g8.X = X ∧ g8.W = g0.W ∧ g8.V = g0.V ∧ g8.R.length = L + 1 ∧ s8 (20, 0) = _) := ⟨H8, R8, F8, eX8.trans HR.out.2.2.1, eW8, eV8, eL8, k8⟩
    have HM8 : Hid (s8 (24, 0) = ob) := m8.trans ((n4 _ (by simp)).trans HM3.out)
    clear hB5 hB6 hB7 happ5 happ7 hW6 hW8 H8 R8 F8 eX8 eW8 eV8 eL8 k8 m8 H4 k4 n4
    refine wpAnyH_ready (rs := [4, 7]) (by kernel_rfl) (by simp) ?_
    refine AllReadyH.cons rfl (fun Kq hK => ?_) (AllReadyH.cons rfl (fun Kq hK => ?_) AllReadyH.nil)
    · go_simp
      refine hK.out _ _ trivial (fun hHeld => ?_)
      simp only [Act.put, List.setIfInBounds_toArray, List.set_cons_zero, List.set_cons_succ]
      clear q4
      refine wpAnyH_ready (rs := [7]) (by kernel_rfl) (by simp) ?_
      refine AllReadyH.cons rfl (fun Kq hK => ?_) AllReadyH.nil
      go_simp
      refine hK.out _ _ trivial (fun hHeld => ?_)
      simp only [Act.put, List.setIfInBounds_toArray, List.set_cons_zero, List.set_cons_succ]
      refine wpAnyH_ready (rs := [8]) (by kernel_rfl) (by simp) ?_
      refine AllReadyH.cons rfl (fun Kq hK => ?_) AllReadyH.nil
      rw [if_pos (by rfl)]
      refine wp_append_run (.tmp 67) (.tmp 70) 28 28 rfl (.slice asq L csq) (.slice (some ⟨w4.heap.size, 0, none⟩) 1 1) _ W5 rfl rfl HAP5.out ?_
      refine hK.out _ _ trivial (fun hHeld => ?_)
      simp only [Act.put, List.setIfInBounds_toArray, List.set_cons_zero, List.set_cons_succ]
      refine hk 9 (.pointer (some ⟨X, 0, none⟩)) hHeld ?_
      simp only [Act.put, List.setIfInBounds_toArray, List.set_cons_zero, List.set_cons_succ]
      refine hk 10 (.pointer (some ⟨X, 3, none⟩)) hHeld ?_
      simp only [Act.put, List.setIfInBounds_toArray, List.set_cons_zero, List.set_cons_succ]
      refine wpAnyH_ready (rs := [11]) (by kernel_rfl) (by simp) ?_
      refine AllReadyH.cons rfl (fun Kq hK => ?_) AllReadyH.nil
      go_simp
      refine hK.out _ _ trivial (fun hHeld => ?_)
      simp only [Act.put, List.setIfInBounds_toArray, List.set_cons_zero, List.set_cons_succ]
      refine wpAnyH_done (by kernel_rfl) ?_ _
      rw [← HW.out.2.1]
      clear hHeld hK q5 f5 HAP5
      go_wp2_with (at_builtin; refine wpList_append_run rfl (.tmp 78) (.tmp 80) 27 27 rfl (.slice asr L csr) (.slice (some ⟨W6.heap.size, 0, none⟩) 1 1) (.slice a7 (L + 1) c7) W7 rfl rfl HAP7.out ?_; refine Hid.out ?_)
      unfold Hid
      clear HAP7 q6
      go_wp2_with fail
      rw [← HW.out.2.2]
      clear q7 f7 HW
      obtain ⟨hB8, next8⟩ := HP.out.1.blk HP.out.2.2.2.2.2.2.2
      obtain ⟨hsg, hne⟩ := HS.out.out _ _ _ HP.out.1 HP.out.2.1 HP.out.2.2.2.2.1 HP.out.2.2.2.2.2.1 HM8.out
      refine (backBytes_any G cb pb xs W8 hsg hB8 (hne _ _ _ HP.out.2.2.2.2.2.2.2) HT.out.2.1).mono ?_
      rintro e w9 ⟨rfl, hB9, hK9⟩
      have HF : Hid (Play w0 w9 X (T + xs.length + 8) gW.length (L + 1)) := ⟨_, _, next8 _ _ _ hB9 hK9, HP.out.2.1.other 20 0 (by omega) _, HP.out.2.2.1, HP.out.2.2.2.1, by rw [HP.out.2.2.2.2.1]; exact HR.out.2.2.2.2.2.2, HP.out.2.2.2.2.2.2.1⟩
      clear hB9 hK9 hB8 next8 hsg hne
      go_wp2
      go_ret
      exact ⟨rfl, HF.out⟩
    · have q4' : (w4.alloc (.cells #[.pointer (some ⟨c4, 0, none⟩)] 90)).cell? ⟨X, 3, none⟩ = some (.slice asq L csq) := cell_kept (S := fun _ => False) q4 ((Keeps.refl _ w4).alloc _) fun h => h
      clear q4
      go_simp
      refine hK.out _ _ trivial (fun hHeld => ?_)
      simp only [Act.put, List.setIfInBounds_toArray, List.set_cons_zero, List.set_cons_succ]
      refine wpAnyH_ready (rs := [4]) (by kernel_rfl) (by simp) ?_
      refine AllReadyH.cons rfl (fun Kq hK => ?_) AllReadyH.nil
      go_simp
      refine hK.out _ _ trivial (fun hHeld => ?_)
      simp only [Act.put, List.setIfInBounds_toArray, List.set_cons_zero, List.set_cons_succ]
      clear q4'
      refine wpAnyH_ready (rs := [8]) (by kernel_rfl) (by simp) ?_
      refine AllReadyH.cons rfl (fun Kq hK => ?_) AllReadyH.nil
      rw [if_pos (by rfl)]
      refine wp_append_run (.tmp 67) (.tmp 70) 28 28 rfl (.slice asq L csq) (.slice (some ⟨w4.heap.size, 0, none⟩) 1 1) _ W5 rfl rfl HAP5.out ?_
      refine hK.out _ _ trivial (fun hHeld => ?_)
      simp only [Act.put, List.setIfInBounds_toArray, List.set_cons_zero, List.set_cons_succ]
      refine hk 9 (.pointer (some ⟨X, 0, none⟩)) hHeld ?_
      simp only [Act.put, List.setIfInBounds_toArray, List.set_cons_zero, List.set_cons_succ]
      refine hk 10 (.pointer (some ⟨X, 3, none⟩)) hHeld ?_
      simp only [Act.put, List.setIfInBounds_toArray, List.set_cons_zero, List.set_cons_succ]
      refine wpAnyH_ready (rs := [11]) (by kernel_rfl) (by simp) ?_
      refine AllReadyH.cons rfl (fun Kq hK => ?_) AllReadyH.nil
      go_simp
      refine hK.out _ _ trivial (fun hHeld => ?_)
      simp only [Act.put, List.setIfInBounds_toArray, List.set_cons_zero, List.set_cons_succ]
      refine wpAnyH_done (by kernel_rfl) ?_ _
      rw [← HW.out.2.1]
      clear hHeld hK q5 f5 HAP5
      go_wp2_with (at_builtin; refine wpList_append_run rfl (.tmp 78) (.tmp 80) 27 27 rfl (.slice asr L csr) (.slice (some ⟨W6.heap.size, 0, none⟩) 1 1) (.slice a7 (L + 1) c7) W7 rfl rfl HAP7.out ?_; refine Hid.out ?_)
      unfold Hid
      clear HAP7 q6
      go_wp2_with fail
      rw [← HW.out.2.2]
      clear q7 f7 HW
      obtain ⟨hB8, next8⟩ := HP.out.1.blk HP.out.2.2.2.2.2.2.2
      obtain ⟨hsg, hne⟩ := HS.out.out _ _ _ HP.out.1 HP.out.2.1 HP.out.2.2.2.2.1 HP.out.2.2.2.2.2.1 HM8.out
      refine (backBytes_any G cb pb xs W8 hsg hB8 (hne _ _ _ HP.out.2.2.2.2.2.2.2) HT.out.2.1).mono ?_
      rintro e w9 ⟨rfl, hB9, hK9⟩
      have HF : Hid (Play w0 w9 X (T + xs.length + 8) gW.length (L + 1)) := ⟨_, _, next8 _ _ _ hB9 hK9, HP.out.2.1.other 20 0 (by omega) _, HP.out.2.2.1, HP.out.2.2.2.1, by rw [HP.out.2.2.2.2.1]; exact HR.out.2.2.2.2.2.2, HP.out.2.2.2.2.2.2.1⟩
      clear hB9 hK9 hB8 next8 hsg hne
      go_wp2
      go_ret
      exact ⟨rfl, HF.out⟩
theorem begins_14 (who a b : Int) (W V N : Nat) (pb : Option Addr) (xs : List UInt8) (cb : Nat) (pw : Option Addr) (lw cw : Nat) (str : ByteArray) (w0 w : World) (X T nw nr : Nat) (h : Play w0 w X T nw nr) (hT : T + xs.length ≤ 2147483700) (hx : Seg w0 pb xs) :
    Calls Try.prog 10 #[.pointer (some ⟨X, 0, none⟩), .agg #[.int .i64 14, .int .i64 who, .int .i64 a, .int .i64 b, .int .u32 W, .int .u32 V, .int .u64 N, .slice pb xs.length cb, .slice pw lw cw, .string str]] w fun e w' => e = .returned (.bool true) ∧ Play w0 w' X (T + xs.length + 8) nw (nr + 1) := by
  obtain ⟨s, g, hH, hR, hF, h4, h5, h6⟩ := h.out
  exact begins_14m s g who a b W V N pb xs cb pw lw cw str w0 w X T nw nr hH hR hF h4 h5 h6 hT ((src_base hx).m _)
end Go.Proofs.Ytonjmknjjdnjkaa
