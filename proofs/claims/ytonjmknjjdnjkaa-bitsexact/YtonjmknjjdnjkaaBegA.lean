import Derived.Test.YtonjmknjjdnjkaaPush
namespace Go.Proofs.Ytonjmknjjdnjkaa
open Go.RowKit
set_option linter.unusedVariables false

/-- The play, with so many writers and readers. -/
structure Play (w0 w : World) (X T nw nr : Nat) : Prop where
  out : ∃ s g, Has s w ∧ Rel s g w0 ∧ Fits g T ∧ g.X = X ∧ g.W.length = nw ∧ g.R.length = nr
theorem Has.name {s : Nat × Nat → Ob} {o : Nat × Nat} {ob : Ob} {w : World} (h : Has (upd s o ob) w) : ∃ s', Has s' w ∧ s' o = ob ∧ ∀ o', o' ≠ o → s' o' = s o' :=
  ⟨_, h, upd_self _ _ _, fun o' hn => upd_ne _ _ _ _ hn⟩

theorem Game.play {w0 w : World} {X T : Nat} (h : Game w0 w X T) : ∃ nw nr, 0 < nw ∧ 0 < nr ∧ Play w0 w X T nw nr := by
  obtain ⟨s, g, h1, h2, h3, h4⟩ := h.out
  exact ⟨_, _, h3.w0, h3.r0, ⟨s, g, h1, h2, h3.fits, h4, rfl, rfl⟩⟩
theorem Play.game {w0 w : World} {X T nw nr : Nat} (h : Play w0 w X T nw nr) (hw : 0 < nw) (hr : 0 < nr) : Game w0 w X T := by
  obtain ⟨s, g, h1, h2, h3, h4, h5, h6⟩ := h.out
  exact ⟨s, g, h1, h2, h3.small (by omega) (by omega), h4⟩

set_option maxRecDepth 100000 in
set_option maxHeartbeats 2000000 in
theorem begins_writer (who a b : Int) (W V N : Nat) (pb : Option Addr) (lb cb : Nat) (pw : Option Addr) (lw cw : Nat) (str : ByteArray) (w0 w : World) (X T nw nr : Nat) (h : Play w0 w X T nw nr) (hT : T ≤ 2147483700) :
    Calls Try.prog 10 #[.pointer (some ⟨X, 0, none⟩), .agg #[.int .i64 8, .int .i64 who, .int .i64 a, .int .i64 b, .int .u32 W, .int .u32 V, .int .u64 N, .slice pb lb cb, .slice pw lw cw, .string str]] w fun e w' => e = .returned (.bool true) ∧ Play w0 w' X (T + 8) (nw + 1) nr := by
  obtain ⟨s, g, hH, hR, hF, rfl, rfl, rfl⟩ := h.out
  have H1 := has_box hH #[.int .i64 8, .int .i64 who, .int .i64 a, .int .i64 b, .int .u32 W, .int .u32 V, .int .u64 N, .slice pb lb cb, .slice pw lw cw, .string str]
  have R1 := hR.other 21 0 (by omega) (.blk w.heap.size (#[.int .i64 8, .int .i64 who, .int .i64 a, .int .i64 b, .int .u32 W, .int .u32 V, .int .u64 N, .slice pb lb cb, .slice pw lw cw, .string str] : Array Value).toList 41)
  obtain ⟨w1, hw1⟩ : ∃ w1, w1 = w.alloc (.cells #[.int .i64 8, .int .i64 who, .int .i64 a, .int .i64 b, .int .u32 W, .int .u32 V, .int .u64 N, .slice pb lb cb, .slice pw lw cw, .string str] 41) := ⟨_, rfl⟩
  obtain ⟨s1, hs1⟩ : ∃ s1, s1 = upd s (21, 0) (.blk w.heap.size (#[.int .i64 8, .int .i64 who, .int .i64 a, .int .i64 b, .int .u32 W, .int .u32 V, .int .u64 N, .slice pb lb cb, .slice pw lw cw, .string str] : Array Value).toList 41) := ⟨_, rfl⟩
  rw [← hw1, ← hs1] at H1
  rw [← hs1] at R1
  clear hH hR hs1 h
  obtain ⟨X, sw, sv, sr, sq, sb, sk, gW, gV, gR, gQ, gB, gK⟩ := g
  have hnT : gW.length ≤ T + 8 := hF.w
  have x1 := R1.x
  have rw1 := R1.rw
  have rv1 := R1.rv
  have hlV : gV.length = gW.length := R1.lenV
  dsimp only at x1 rw1 rv1
  obtain ⟨asw, csw, rfl, -, -⟩ := own_slice (H1.row rw1).1
  obtain ⟨asv, csv, rfl, -, -⟩ := own_slice (H1.row rv1).1
  obtain ⟨L, hL⟩ : ∃ L, L = gW.length := ⟨_, rfl⟩
  rw [hlV] at rv1 x1
  rw [hlV] at R1 hF
  rw [← hL] at rw1 rv1 x1 R1 hF
  -- the new writer
  have hK2 : Keeps (fun _ => False) w1 (w1.alloc (.cells #[.slice none 0 0, .int .i64 0] 110)) := (Keeps.refl _ w1).alloc _
  have hB2 : Blk (w1.alloc (.cells #[.slice none 0 0, .int .i64 0] 110)) w1.heap.size [.slice none 0 0, .int .i64 0] 110 := Blk.new w1 _ 110
  obtain ⟨s2, H2, k2, n2⟩ := (H1.newWr (8, L) ⟨rfl, hB2⟩ (Nat.le_refl _) hK2).name
  have hNew := newWriter_any w1
  obtain ⟨b1, hb1⟩ : ∃ b1, b1 = w1.heap.size := ⟨_, rfl⟩
  obtain ⟨w2, hw2⟩ : ∃ w2, w2 = w1.alloc (.cells #[.slice none 0 0, .int .i64 0] 110) := ⟨_, rfl⟩
  rw [← hb1, ← hw2] at hNew
  rw [← hw2] at H2
  rw [← hb1] at k2
  clear hb1 hw2 hK2 hB2
  have x2 := (n2 (1, 0) (by simp)).trans x1
  obtain ⟨hrow2, next2⟩ := H2.row ((n2 (2, 0) (by simp)).trans rw1)
  obtain ⟨a3, c3, W3, happ3, hown3, hG3⟩ := append_ptr 25 58 Try.under25 Try.info58 b1 _ _ _ hrow2 (by omega)
  obtain ⟨s3, H3, k3, n3⟩ := (next2 _ _ _ _ hown3 hG3).name
  obtain ⟨hB3, next3⟩ := H3.blk ((n3 (1, 0) (by simp)).trans x2)
  have hK4 : ∀ v, Keeps (· = X) W3 (W3.setCell ⟨X, 0, none⟩ v) := fun v => (Keeps.refl (· = X) W3).setCell ⟨X, 0, none⟩ _ (fun _ => Eq.refl X)
  obtain ⟨s4, H4, k4, n4⟩ := (next3 _ _ _ (hB3.setCell 0 (.slice a3 (L + 1) c3)) (hK4 _)).name
  have q2 := (H2.blk x2).1.cell (i := 0) rfl
  have q3 := hB3.cell (i := 0) rfl
  have f3 := hB3.frozen 0
  have q3b := hB3.cell (i := 1) rfl
  have q4 := (hB3.setCell 0 (.slice a3 (L + 1) c3)).cell (i := 1) rfl
  obtain ⟨w4, hw4⟩ : ∃ w4, w4 = W3.setCell ⟨X, 0, none⟩ (.slice a3 (L + 1) c3) := ⟨_, rfl⟩
  rw [← hw4] at H4 q4
  -- the document's writer
  have hK5 : Keeps (fun _ => False) w4 (w4.alloc (.cells #[.slice none 0 0] 88)) := (Keeps.refl _ w4).alloc _
  have hB5 : Blk (w4.alloc (.cells #[.slice none 0 0] 88)) w4.heap.size [.slice none 0 0] 88 := Blk.new w4 _ 88
  obtain ⟨s5, H5, k5, n5⟩ := (H4.newDw (9, L) ⟨hB5, World.ownsRow_nil _ _ _ _, by simp [Value.ownBlock]⟩ (Nat.le_refl _) hK5).name
  obtain ⟨b5, hb5⟩ : ∃ b5, b5 = w4.heap.size := ⟨_, rfl⟩
  obtain ⟨w5, hw5⟩ : ∃ w5, w5 = w4.alloc (.cells #[.slice none 0 0] 88) := ⟨_, rfl⟩
  rw [← hw5] at H5
  rw [← hb5] at k5
  have rv5 := (n5 (3, 0) (by simp)).trans ((n4 (3, 0) (by simp)).trans ((n3 (3, 0) (by simp)).trans ((n2 (3, 0) (by simp)).trans rv1)))
  obtain ⟨hrow5, next5⟩ := H5.row rv5
  obtain ⟨a6, c6, W6, happ6, hown6, hG6⟩ := append_ptr 26 86 Try.under26 Try.info86 b5 _ _ _ hrow5 (by omega)
  obtain ⟨s6, H6, k6, n6⟩ := (next5 _ _ _ _ hown6 hG6).name
  have x6 := (n6 (1, 0) (by simp)).trans ((n5 (1, 0) (by simp)).trans k4)
  obtain ⟨hB6, next6⟩ := H6.blk x6
  have hK7 : ∀ v, Keeps (· = X) W6 (W6.setCell ⟨X, 1, none⟩ v) := fun v => (Keeps.refl (· = X) W6).setCell ⟨X, 1, none⟩ _ (fun _ => Eq.refl X)
  obtain ⟨s7, H7, k7, n7⟩ := (next6 _ _ _ (hB6.setCell 1 (.slice a6 (L + 1) c6)) (hK7 _)).name
  have q6 := hB6.cell (i := 1) rfl
  have f6 := hB6.frozen 1
  have R7 := R1.pushW (s' := s7) b1 b5 (.slice a3 (L + 1) c3) (.slice a6 (L + 1) c6) k7
    (by show _ = Ob.row 58 1 _ (gW.length + 1) _; rw [← hL]; exact (n7 (2, 0) (by simp)).trans ((n6 (2, 0) (by simp)).trans ((n5 (2, 0) (by simp)).trans ((n4 (2, 0) (by simp)).trans k3))))
    (by show _ = Ob.row 86 1 _ (gW.length + 1) _; rw [← hL]; exact (n7 (3, 0) (by simp)).trans k6)
    (by show s7 (8, gW.length) = _; rw [← hL]; exact (n7 (8, L) (by simp)).trans ((n6 (8, L) (by simp)).trans ((n5 (8, L) (by simp)).trans ((n4 (8, L) (by simp)).trans ((n3 (8, L) (by simp)).trans k2)))))
    (by show s7 (9, gW.length) = _; rw [← hL]; exact (n7 (9, L) (by simp)).trans ((n6 (9, L) (by simp)).trans k5))
    (by
      show ∀ x y, x < 16 → (x, y) ≠ (1, 0) → (x, y) ≠ (2, 0) → (x, y) ≠ (3, 0) → (x, y) ≠ (8, gW.length) → (x, y) ≠ (9, gW.length) → s7 (x, y) = s1 (x, y)
      intro x y _ m1 m2 m3 m8 m9
      rw [← hL] at m8 m9
      exact (n7 _ m1).trans ((n6 _ m3).trans ((n5 _ m9).trans ((n4 _ m1).trans ((n3 _ m2).trans (n2 _ m8))))))
  have HF7 : Hid (Play w0 (W6.setCell ⟨X, 1, none⟩ (.slice a6 (L + 1) c6)) X (T + 8) (L + 1) gR.length) := ⟨_, _, H7, R7, hF.pushW (by omega), rfl, by show (gW ++ [_]).length = _; rw [List.length_append, List.length_singleton, hL], rfl⟩
  rw [← hL]
  have HNew : Hid (Calls _ _ _ _ _) := hNew
  have HAP3 : Hid (∀ ty, _) := happ3
  have HW : Hid (True ∧ w4 = W3.setCell ⟨X, 0, none⟩ (.slice a3 (L + 1) c3) ∧ w5 = w4.alloc (.cells #[.slice none 0 0] 88) ∧ b5 = w4.heap.size) := ⟨trivial, hw4, hw5, hb5⟩
  clear hw4 hw5 hb5 q4
  have HAP6 : Hid (∀ ty, _) := happ6
  clear hNew happ3 happ6 H1 H2 H3 H4 H5 H6 H7 R1 R7 hF x1 x2 x6 rw1 rv1 rv5 hrow2 hrow5 next2 next3 next5 next6 k2 k3 k4 k5 k6 k7 n2 n3 n4 n5 n6 n7 hown3 hown6 hG3 hG6 hB3 hB5 hB6 hK4 hK5 hK7 hL hlV hnT hT
  go_enter Try.func10, Try.ntmps10
  go_wp2_with fail
  rw [← hw1]
  clear hw1
  refine HNew.out.mono ?_
  rintro e w' ⟨rfl, rfl⟩
  go_wp2_with (at_builtin; refine wpList_append_run rfl (.tmp 18) (.tmp 20) 25 25 rfl (.slice asw L csw) (.slice (some ⟨w'.heap.size, 0, none⟩) 1 1) (.slice a3 (L + 1) c3) W3 rfl rfl HAP3.out ?_; refine Hid.out ?_)
  unfold Hid
  go_wp2_with (at_builtin; refine Hid.out ?_)
  unfold Hid
  have h6 := HAP6.out
  have e4 : w4.heap.size = W3.heap.size := by rw [HW.out.2.1]; simp
  have e5 : w5.heap.size = W3.heap.size + 1 := by rw [HW.out.2.2.1]; simp [e4]
  rw [e5, HW.out.2.2.2, e4, HW.out.2.2.1, HW.out.2.1] at h6
  refine wpList_append_run rfl (.tmp 28) (.tmp 31) 26 26 rfl (.slice asv L csv) (.slice (some ⟨W3.heap.size + 1, 0, none⟩) 1 1) (.slice a6 (L + 1) c6) W6 rfl rfl h6 ?_
  clear h6 e4 e5 HAP6 HAP3 HW q2 q3 q3b f3
  go_wp2
  go_ret
  exact ⟨rfl, HF7.out⟩
end Go.Proofs.Ytonjmknjjdnjkaa
