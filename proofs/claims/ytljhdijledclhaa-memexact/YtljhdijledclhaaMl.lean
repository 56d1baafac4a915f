import Derived.Test.YtljhdijledclhaaMk
namespace Go.Proofs.Ytljhdijledclhaa
open Go.RowKit
set_option linter.unusedVariables false
set_option linter.unusedSimpArgs false

/-- Both sides are new: they are taken up. -/
theorem take_up {w0 w3 w4 : World} {s : Nat × Nat → Ob} {g : GS} {X T B G rB rG : Nat} {xs : List UInt32} (h3 : Has (upd s (5, g.P.length) (.mm B G xs)) w3) (hR : Rel s g w0) (hS : Small g T) (hX : g.X = X)
    (hr : Rm w4 rB rG xs) (n1 : w3.heap.size ≤ rB) (n2 : w3.heap.size ≤ rG) (hK : Keeps (fun _ => False) w3 w4) (hx : ∃ n, 1 ≤ n ∧ n ≤ 1024 ∧ xs.length = n * 16) :
    Calls Try.prog 29 #[.pointer (some ⟨X, 0, none⟩), ptr B, .int .i64 0, ptr rB, .int .i64 0] w4 fun e w' => e = .returned (.bool true) ∧ Game w0 w' X T := by
  have H4 := h3.newRm (6, g.P.length) hr n1 n2 hK
  have R4 := (hR.spareP 5 g.P.length (.inl rfl) (Nat.le_refl _) (.mm B G xs)).spareP 6 g.P.length (.inr rfl) (Nat.le_refl _) (.rm rB rG xs)
  exact made_step (p := ⟨B, G, rB, rG, xs⟩) H4 R4 hS hX (by rw [upd_ne _ _ _ _ (by simp), upd_self]) (upd_self _ _ _) hx

theorem new_chain {w0 w2 : World} {S2 : Nat × Nat → Ob} {g : GS} {O X T : Nat} {oc : List Value} (hH : Has S2 w2) (hR : Rel S2 g w0) (hS : Small g T) (hX : g.X = X) (hO : S2 (21, 0) = .blk O oc 29) (a : Int) :
    ∃ E : Int, Hid (Calls Try.prog 14 #[.int .i64 a] w2 fun e w3 => ∃ px, e = .returned (.tuple #[.pointer px, .int .i64 E]) ∧ Blk w3 O oc 29 ∧
      Hid (Calls Try.prog 28 #[.int .i64 a] w3 fun e w4 => ∃ py, e = .returned (.tuple #[.pointer py, .int .i64 E]) ∧
        Hid (Calls Try.prog 29 #[.pointer (some ⟨X, 0, none⟩), .pointer px, .int .i64 E, .pointer py, .int .i64 E] w4 fun e w5 => e = .returned (.bool true) ∧ Game w0 w5 X T))) := by
  by_cases hin : 1 ≤ a ∧ a ≤ 1024
  · obtain ⟨n, rfl⟩ : ∃ n : Nat, a = n := ⟨a.toNat, by omega⟩
    refine ⟨0, (new_in n w2 (by omega) (by omega)).mono ?_⟩
    rintro e w3 ⟨rfl, hm, hK⟩
    have H3 := hH.newMm (5, g.P.length) hm (by omega) (by omega) hK
    refine ⟨_, rfl, (H3.blk (o := (21, 0)) (by rw [upd_ne _ _ _ _ (by simp)]; exact hO)).1, (rnew_in n w3 (by omega) (by omega)).mono ?_⟩
    rintro e w4 ⟨rfl, hr, hK4⟩
    refine ⟨_, rfl, ?_⟩
    exact take_up H3 hR hS hX hr (by omega) (by omega) hK4 ⟨n, by omega, by omega, by simp⟩
  · refine ⟨50, (new_out a w2 hin).mono ?_⟩
    rintro e w3 ⟨rfl, rfl⟩
    refine ⟨_, rfl, (hH.blk hO).1, (rnew_out a _ hin).mono ?_⟩
    rintro e w4 ⟨rfl, rfl⟩
    refine ⟨_, rfl, (made_none X 50 _).mono ?_⟩
    rintro e w5 ⟨rfl, rfl⟩
    exact ⟨rfl, S2, g, hH, hR, hS, hX⟩

theorem clone_chain {w0 w2 : World} {S2 : Nat × Nat → Ob} {g : GS} {i Q X T : Nat} {p : Pr} (hH : Has S2 w2) (hR : Rel S2 g w0) (hS : Small g T) (hX : g.X = X) (hp : g.P[i]? = some p) (hQ : S2 (22, 0) = .blk Q [ptr p.b, ptr p.rb] 85) :
    Hid (Calls Try.prog 18 #[ptr p.b] w2 fun e w3 => ∃ B, e = .returned (ptr B) ∧ Blk w3 Q [ptr p.b, ptr p.rb] 85 ∧
      Hid (∀ w4, Keeps (fun _ => False) w3 w4 → Calls Try.prog 30 #[ptr p.rb] w4 fun e w5 => ∃ rB, e = .returned (ptr rB) ∧
        Hid (Calls Try.prog 29 #[.pointer (some ⟨X, 0, none⟩), ptr B, .int .i64 0, ptr rB, .int .i64 0] w5 fun e w6 => e = .returned (.bool true) ∧ Game w0 w6 X T))) := by
  have hm := hR.mm i p hp
  obtain ⟨n, n1, n2, hx⟩ := hS.px i p hp
  refine (clone_any p.b p.g p.xs w2 (hH.mm hm.1).1).mono ?_
  rintro e w3 ⟨B, hB, rfl, m3, hK⟩
  have H3 := hH.newMm (5, g.P.length) m3 (by omega) (by omega) hK
  refine ⟨B, rfl, (H3.blk (o := (22, 0)) (by rw [upd_ne _ _ _ _ (by simp)]; exact hQ)).1, fun w4 hK4 => ?_⟩
  have H4 := H3.quiet hK4
  refine (rclone_any p.rb p.rg p.xs w4 (H4.rm (o := (6, i)) (by rw [upd_ne _ _ _ _ (by simp)]; exact hm.2)).1 (by intro e; rw [e] at hx; simp at hx; omega)).mono ?_
  rintro e w5 ⟨rfl, hr, hK5⟩
  exact ⟨_, rfl, take_up H4 hR hS hX hr (by omega) (by omega) hK5 ⟨n, n1, n2, hx⟩⟩

theorem of_chain {w0 w2 : World} {S2 : Nat × Nat → Ob} {g : GS} {O X T : Nat} {oc : List Value} (hH : Has S2 w2) (hR : Rel S2 g w0) (hS : Small g T) (hX : g.X = X) (hO : S2 (21, 0) = .blk O oc 29) (pw : Option Addr) (ws : List UInt32) (cw : Nat) (hseg : SegW w0 pw ws) (hl : ws.length ≤ 4294967000) :
    ∃ (B : Nat) (E : Int), Hid (Calls Try.prog 31 #[.slice pw ws.length cw] w2 fun e w3 => e = .returned (.slice (some ⟨B, 0, none⟩) ws.length (ws.length + 9)) ∧ Blk w3 O oc 29 ∧
      Hid (Calls Try.prog 32 #[.slice (some ⟨B, 0, none⟩) ws.length (ws.length + 9)] w3 fun e w4 => ∃ px, e = .returned (.tuple #[.pointer px, .int .i64 E]) ∧ Blk w4 O oc 29 ∧
        Hid (Calls Try.prog 33 #[.slice pw ws.length cw] w4 fun e w5 => ∃ py, e = .returned (.tuple #[.pointer py, .int .i64 E]) ∧ Blk w5 O oc 29 ∧
          Hid (Calls Try.prog 34 #[.slice (some ⟨B, 0, none⟩) ws.length (ws.length + 9), .slice pw ws.length cw] w5 fun e w6 => e = .returned (.bool true) ∧ 
            Hid (Calls Try.prog 29 #[.pointer (some ⟨X, 0, none⟩), .pointer px, .int .i64 E, .pointer py, .int .i64 E] w6 fun e w7 => e = .returned (.bool true) ∧ Game w0 w7 X T))))) := by
  have segAt : ∀ {s : Nat × Nat → Ob} {w' : World}, Has s w' → s (0, 0) = .base w0 → SegW w' pw ws := fun h hb => hseg.kept (h.base hb) (fun _ _ e => e)
  -- the list that is lent, and given back
  have lent := lentW pw cw ws w2 (segAt hH hR.base) hl
  have back : ∀ {s : Nat × Nat → Ob} {w : World}, Has s w → s (0, 0) = .base w0 → s (20, 0) = .blk w2.heap.size (wvs (ws ++ marksW 9)) 26 →
      Calls Try.prog 34 #[.slice (some ⟨w2.heap.size, 0, none⟩) ws.length (ws.length + 9), .slice pw ws.length cw] w fun e w6 => e = .returned (.bool true) ∧ Has (upd s (20, 0) .nothing) w6 := fun {s w} h hb h20 => by
    have hB := (h.blk h20).1
    have hge := h.blk_ge h20 hb (by simp)
    refine (backW w2.heap.size pw cw ws w hB (segAt h hb) (fun x hx h0 => ?_) hl).mono ?_
    · have := segW_lt hseg x hx h0
      omega
    rintro e w5 ⟨rfl, hK5⟩
    exact ⟨rfl, h.drop h20 hK5⟩
  have H3 : ∀ {w3}, Blk w3 w2.heap.size (wvs (ws ++ marksW 9)) 26 → Keeps (fun _ => False) w2 w3 → ∃ S3, Has S3 w3 ∧ Rel S3 g w0 ∧ S3 (21, 0) = .blk O oc 29 ∧ S3 (20, 0) = .blk w2.heap.size (wvs (ws ++ marksW 9)) 26 ∧ SegW w3 (some ⟨w2.heap.size, 0, none⟩) ws := fun hB3 hK3 => by
    refine ⟨_, hH.newBlk (20, 0) hB3 (Nat.le_refl _) hK3, hR.other 20 0 (by omega) _, by rw [upd_ne _ _ _ _ (by simp)]; exact hO, upd_self _ _ _, ?_⟩
    have h := segW_part hB3 0 ws.length (by rw [List.length_append]; omega)
    rw [List.drop_zero, List.take_left'] at h
    · exact h
    · rfl
  by_cases hin : ∃ n, 1 ≤ n ∧ n ≤ 1024 ∧ ws.length = n * 16
  · obtain ⟨n, n1, n2, hn⟩ := hin
    refine ⟨w2.heap.size, 0, lent.mono ?_⟩
    rintro e w3 ⟨rfl, hB3, hK3⟩
    obtain ⟨S3, h3, r3, o3, t3, sg3⟩ := H3 hB3 hK3
    refine ⟨rfl, (h3.blk o3).1, (of_in _ _ n ws w3 sg3 hn n1 n2).mono ?_⟩
    rintro e w4 ⟨B, hB, rfl, m4, hK4⟩
    have H4 := h3.newMm (5, g.P.length) m4 (by omega) (by omega) hK4
    have e4 : ∀ o, o ≠ (5, g.P.length) → upd S3 (5, g.P.length) (.mm B w3.heap.size ws) o = S3 o := fun o ho => upd_ne _ _ _ _ ho
    refine ⟨_, rfl, (H4.blk (o := (21, 0)) (by rw [e4 _ (by simp)]; exact o3)).1, (rof_in pw cw n ws w4 (segAt H4 (by rw [e4 _ (by simp)]; exact r3.base)) hn n1 n2).mono ?_⟩
    rintro e w5 ⟨rfl, r5, hK5⟩
    have H5 := H4.newRm (6, g.P.length) r5 (by omega) (by omega) hK5
    have e5 : ∀ o, o ≠ (5, g.P.length) → o ≠ (6, g.P.length) → upd (upd S3 (5, g.P.length) (.mm B w3.heap.size ws)) (6, g.P.length) (.rm w4.heap.size (w4.heap.size + 1) ws) o = S3 o := fun o h1 h2 => by rw [upd_ne _ _ _ _ h2, upd_ne _ _ _ _ h1]
    refine ⟨_, rfl, (H5.blk (o := (21, 0)) (by rw [e5 _ (by simp) (by simp)]; exact o3)).1, (back H5 (by rw [e5 _ (by simp) (by simp)]; exact r3.base) (by rw [e5 _ (by simp) (by simp)]; exact t3)).mono ?_⟩
    rintro e w6 ⟨rfl, H6⟩
    refine ⟨rfl, ?_⟩
    have R6 := ((r3.spareP 5 g.P.length (.inl rfl) (Nat.le_refl _) (.mm B w3.heap.size ws)).spareP 6 g.P.length (.inr rfl) (Nat.le_refl _) (.rm w4.heap.size (w4.heap.size + 1) ws)).other 20 0 (by omega) .nothing
    exact made_step (p := ⟨B, w3.heap.size, w4.heap.size, w4.heap.size + 1, ws⟩) H6 R6 hS hX (by rw [upd_ne _ _ _ _ (by simp), upd_ne _ _ _ _ (by simp), upd_self]) (by rw [upd_ne _ _ _ _ (by simp), upd_self]) ⟨n, n1, n2, hn⟩
  · obtain ⟨E, hA, hB⟩ : ∃ E : Int, (∀ a c w, Calls Try.prog 32 #[.slice a ws.length c] w fun e w' => e = .returned (.tuple #[.pointer none, .int .i64 E]) ∧ w' = w) ∧ ∀ a c w, Calls Try.prog 33 #[.slice a ws.length c] w fun e w' => e = .returned (.tuple #[.pointer none, .int .i64 E]) ∧ w' = w := by
      by_cases h1 : (16384 : Int) < (ws.length : Int)
      · exact ⟨2, fun a c w => of_long a c _ w h1, fun a c w => rof_long a c _ w h1⟩
      · by_cases h2 : ws.length % 16 = 0
        · by_cases h3 : ws.length = 0
          · rw [h3]
            exact ⟨50, fun a c w => of_none a c w, fun a c w => rof_none a c w⟩
          · exact absurd ⟨ws.length / 16, by omega, by omega, by omega⟩ hin
        · exact ⟨50, fun a c w => of_odd a c _ w (by omega) h2, fun a c w => rof_odd a c _ w (by omega) h2⟩
    refine ⟨w2.heap.size, E, lent.mono ?_⟩
    rintro e w3 ⟨rfl, hB3, hK3⟩
    obtain ⟨S3, h3, r3, o3, t3, sg3⟩ := H3 hB3 hK3
    refine ⟨rfl, (h3.blk o3).1, (hA _ _ w3).mono ?_⟩
    rintro e w4 ⟨rfl, hw4⟩
    obtain rfl := hw4.symm
    refine ⟨_, rfl, (h3.blk o3).1, (hB _ _ w3).mono ?_⟩
    rintro e w5 ⟨rfl, hw5⟩
    obtain rfl := hw5.symm
    refine ⟨_, rfl, (h3.blk o3).1, (back h3 r3.base t3).mono ?_⟩
    rintro e w6 ⟨rfl, H6⟩
    refine ⟨rfl, (made_none X E w6).mono ?_⟩
    rintro e w7 ⟨rfl, rfl⟩
    exact ⟨rfl, _, g, H6, r3.other 20 0 (by omega) .nothing, hS, hX⟩

end Go.Proofs.Ytljhdijledclhaa
