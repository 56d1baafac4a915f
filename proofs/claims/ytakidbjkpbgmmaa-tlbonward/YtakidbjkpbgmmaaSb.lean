import Derived.Test.YtakidbjkpbgmmaaSa
namespace Go.Proofs.Ytakidbjkpbgmmaa
open Go.RowKit Go.Shelf
set_option linter.unusedVariables false

theorem row_own {w : World} {g n cap : Nat} {ls : List Lf} (h : w.ownsRow 0 38 3 (.slice (some ⟨g, 0, none⟩) ls.length cap) ls.length (flatL ls)) : OwnAt w g ls.length cap := own_at h

/-- A row that was told, with its block. -/
theorem told_row {w w' : World} {v : Value} {ls : List Lf} (h : w'.ownsRow 0 38 3 v ls.length (flatL ls)) (hg : ∃ g, v.ownBlock = some g ∧ w.heap.size ≤ g) :
    ∃ g cap, v = .slice (some ⟨g, 0, none⟩) ls.length cap ∧ w.heap.size ≤ g ∧ g < w'.heap.size ∧ (ls.length ≤ cap ∧ cap ≤ maxLen) ∧ SegL w' (some ⟨g, 0, none⟩) ls ∧ OwnAt w' g ls.length cap := by
  obtain ⟨g, hg1, hg2⟩ := hg
  rcases row_at h with ⟨rfl, _⟩ | ⟨g', cap, rfl, h2, h3, h4, h5, h6⟩
  · simp [Value.ownBlock] at hg1
  · rw [h2] at hg1; cases hg1
    exact ⟨g, cap, rfl, hg2, h3, ⟨h4, by unfold maxLen; omega⟩, .inr ⟨g, 0, rfl, fun j l hj => by rw [Nat.zero_add]; exact h6 j l hj⟩, own_at h⟩

theorem told_any (t : Nat) (ls : List Lf) (F : Nat → Prop) (w : World) (h : Tl w t ls F) :
    Calls Try.prog 10 #[ptr t] w fun r w' => ∃ g cap, r = .returned (.slice (some ⟨g, 0, none⟩) ls.length cap) ∧ w.heap.size ≤ g ∧ g < w'.heap.size ∧ (ls.length ≤ cap ∧ cap ≤ maxLen) ∧ SegL w' (some ⟨g, 0, none⟩) ls ∧ OwnAt w' g ls.length cap ∧ Keeps (fun _ => False) w w' := by
  refine (leaves_any t ls F w h).mono ?_
  rintro r w' ⟨v, rfl, hO, hg, hK⟩
  obtain ⟨g, cap, rfl, h1, h2, h3, h4, h5⟩ := told_row hO hg
  exact ⟨g, cap, rfl, h1, h2, h3, h4, h5, hK⟩

theorem toldR_any (d : Nat) (L : List Lf) (G : Nat → Prop) (w : World) (h : Rf w d L G) :
    Calls Try.prog 20 #[ptr d] w fun r w' => ∃ a cap, r = .returned (.slice a L.length cap) ∧ (L.length ≤ cap ∧ cap ≤ maxLen) ∧ SegL w' a L ∧ (∀ x, a = some x → w.heap.size ≤ x.block ∧ x.block < w'.heap.size) ∧ Keeps (fun _ => False) w w' := by
  refine (leavesR_any d L G w h).mono ?_
  rintro r w' ⟨v, rfl, hO, hg, hK⟩
  obtain ⟨a, cap, rfl, h1, h2, h3, h4⟩ := row_val hO
  exact ⟨a, cap, rfl, ⟨h1, by unfold maxLen; omega⟩, h4, fun x hx => ⟨hg _ (h3 x hx), owns_lt hO (h3 x hx)⟩, hK⟩

theorem Pr.keep {w w' : World} {t d : Nat} {ls L : List Lf} {F G : Nat → Prop} (h : Pr w t d ls L F G) (hK : Keeps (fun _ => False) w w') : Pr w' t d ls L F G := h.kept hK (fun _ _ h => h) (fun _ _ h => h)

set_option maxHeartbeats 4000000 in
theorem step_told (t d : Nat) (ls L : List Lf) (F G : Nat → Prop) (which : Int) (l : Lf) (ad : Option Addr) (n cap : Nat) (w : World) (h : Pr w t d ls L F G) :
    Calls Try.prog 8 #[ptr t, ptr d, oV which 3 l ad n cap] w fun r w' => (∃ b, r = .returned (.bool b) ∧ (ls = L → b = true)) ∧ NowP w w' t d ls L F G := by
  obtain ⟨W, hW⟩ : ∃ W, W = w.alloc (.cells #[.int .i64 which, .int .i64 3, .int .i64 l.p, .int .i64 l.f, .int .i64 l.r, .slice ad n cap] 30) := ⟨_, rfl⟩
  have hKW : Keeps (fun _ => False) w W := by rw [hW]; exact (Keeps.refl _ w).alloc _
  have hPW := h.keep hKW
  have HR : Hid (Calls _ _ _ _ _) := toldR_any d L G W hPW.rf
  have HW : Hid (W = _ ∧ Keeps (fun _ => False) w W ∧ Pr w t d ls L F G) := ⟨hW, hKW, h⟩
  obtain ⟨NL, hNL⟩ : ∃ NL, NL = L.length := ⟨_, rfl⟩
  obtain ⟨NA, hNA⟩ : ∃ NA, NA = ls.length := ⟨_, rfl⟩
  rw [← hNL] at HR
  have HNN : Hid (NL = L.length ∧ NA = ls.length) := ⟨hNL, hNA⟩
  clear hW hKW h hPW hNL hNA
  go_enter Try.func8, Try.ntmps8
  go_wp2_with fail
  rw [← HW.out.1]
  refine HR.out.mono ?_
  rintro r w1 ⟨a1, c1, rfl, hc1, hs1, ha1, hK1⟩
  have hKw1 : Keeps (fun _ => False) w w1 := HW.out.2.1.trans hK1 fun _ _ h => h
  have H1 : Hid ((NL ≤ c1 ∧ c1 ≤ maxLen) ∧ SegL w1 a1 L ∧ (∀ x, a1 = some x → w.heap.size ≤ x.block ∧ x.block < w1.heap.size) ∧ Keeps (fun _ => False) w w1) := ⟨hc1, hs1, fun x hx => ⟨by have := ha1 x hx; have := HW.out.2.1.size; omega, (ha1 x hx).2⟩, hKw1⟩
  have HA : Hid (Calls _ _ _ _ _) := told_any t ls F w1 (HW.out.2.2.keep hKw1).tl
  rw [← HNN.out.2] at HA
  clear hc1 hs1 ha1 hK1 hKw1 HR
  go_wp2_with fail
  refine HA.out.mono ?_
  rintro r w2 ⟨g2, c2, rfl, hg2, hg2', hc2, hs2, ho2, hK2⟩
  have hKw2 : Keeps (fun _ => False) w w2 := H1.out.2.2.2.trans hK2 fun _ _ h => h
  have H2 : Hid (w1.heap.size ≤ g2 ∧ g2 < w2.heap.size ∧ (NA ≤ c2 ∧ c2 ≤ maxLen) ∧ SegL w2 (some ⟨g2, 0, none⟩) ls ∧ OwnAt w2 g2 NA c2 ∧ Keeps (fun _ => False) w w2 ∧ Keeps (fun _ => False) w1 w2) := ⟨hg2, hg2', hc2, hs2, ho2, hKw2, hK2⟩
  have HB : Hid (Calls _ _ _ _ _) := told_any t ls F w2 (HW.out.2.2.keep hKw2).tl
  rw [← HNN.out.2] at HB
  clear hg2 hg2' hc2 hs2 ho2 hK2 hKw2 HA
  go_wp2_with fail
  refine HB.out.mono ?_
  rintro r w3 ⟨g3, c3, rfl, hg3, hg3', hc3, hs3, ho3, hK3⟩
  have hKw3 : Keeps (fun _ => False) w w3 := H2.out.2.2.2.2.2.1.trans hK3 fun _ _ h => h
  have H3 : Hid (w2.heap.size ≤ g3 ∧ g3 < w3.heap.size ∧ (NA ≤ c3 ∧ c3 ≤ maxLen) ∧ SegL w3 (some ⟨g3, 0, none⟩) ls ∧ Keeps (fun _ => False) w w3 ∧ Keeps (fun _ => False) w2 w3 ∧ SegL w3 (some ⟨g2, 0, none⟩) ls ∧ SegL w3 a1 L ∧ OwnAt w3 g2 NA c2) := by
    obtain ⟨l2, b1, b2⟩ := H2.out.2.2.2.2.1
    exact ⟨hg3, hg3', hc3, hs3, hKw3, hK3, H2.out.2.2.2.1.kept hK3 (fun _ _ h => h), (H1.out.2.1.kept H2.out.2.2.2.2.2.2 fun _ _ h => h).kept hK3 fun _ _ h => h, l2, b1.kept hK3 (fun h => h), b2⟩
  have HC : Hid (Calls Try.prog 9 #[.slice (some ⟨g2, 0, none⟩) NA c2, .slice a1 NL c1] w3 fun r w' => r = .returned (.bool (decide (ls = L))) ∧ Keeps (fun _ => False) w3 w') := by
    have := same_any (some ⟨g2, 0, none⟩) a1 ls L c2 c1 w3 (by rw [← HNN.out.2]; exact H2.out.2.2.1) (by rw [← HNN.out.1]; exact H1.out.1) H3.out.2.2.2.2.2.2.1 H3.out.2.2.2.2.2.2.2.1
    rw [← HNN.out.2, ← HNN.out.1] at this
    exact this
  clear hg3 hg3' hc3 hs3 ho3 hK3 hKw3 HB
  by_cases hE : ls = L
  · rw [decide_eq_true hE] at HC
    have HEQ : Hid (ls = L) := hE
    clear hE
    go_wp2_with fail
    refine HC.out.mono ?_
    rintro r w4 ⟨rfl, hK4⟩
    have H4 : Hid (Keeps (fun _ => False) w3 w4) := hK4
    have HD : Hid (Calls Try.prog 9 #[.slice (some ⟨g3, 0, none⟩) NA c3, .slice a1 NL c1] w4 fun r w' => r = .returned (.bool true) ∧ Keeps (fun _ => False) w4 w') := by
      have := same_any (some ⟨g3, 0, none⟩) a1 ls L c3 c1 w4 (by rw [← HNN.out.2]; exact H3.out.2.2.1) (by rw [← HNN.out.1]; exact H1.out.1) (H3.out.2.2.2.1.kept hK4 fun _ _ h => h) (H3.out.2.2.2.2.2.2.2.1.kept hK4 fun _ _ h => h)
      rw [← HNN.out.2, ← HNN.out.1, decide_eq_true HEQ.out] at this
      exact this
    clear hK4 HC
    go_wp2_with fail
    refine HD.out.mono ?_
    rintro r w5 ⟨rfl, hK5⟩
    have hK35 : Keeps (fun _ => False) w3 w5 := H4.out.trans hK5 fun _ _ h => h
    have H5 : Hid (Keeps (fun _ => False) w3 w5) := hK35
    have HSp : Hid (Calls _ _ _ _ _) := spoil_any g2 NA c2 700 w5 (by
      obtain ⟨l2, b1, b2⟩ := H3.out.2.2.2.2.2.2.2.2
      exact ⟨l2, b1.kept hK35 (fun h => h), b2⟩) (by have := HNN.out.2; have := HW.out.2.2.tl.le; omega) (by omega)
    clear hK5 HD hK35
    go_wp2_with fail
    refine HSp.out.mono ?_
    rintro r w6 ⟨rfl, hK6⟩
    have hne : g3 ≠ g2 := by have := H3.out.1; have := H2.out.2.1; omega
    have hKw6 : Keeps (fun b => b = g2) w w6 := ((H3.out.2.2.2.2.1.trans H5.out fun _ _ h => h).mono fun _ _ h => h.elim).trans hK6 fun _ _ h => h
    have hs36 : SegL w6 (some ⟨g3, 0, none⟩) ls := (H3.out.2.2.2.1.kept H5.out fun _ _ h => h).kept hK6 fun x hx he => by simp at hx; subst hx; exact hne he
    have hs16 : SegL w6 a1 L := (H3.out.2.2.2.2.2.2.2.1.kept H5.out fun _ _ h => h).kept hK6 fun x hx he => by have := H1.out.2.2.1 x hx; have := H2.out.1; omega
    have hg2w : w.heap.size ≤ g2 := by have := H2.out.1; have := H1.out.2.2.2.size; omega
    have hP6 : Pr w6 t d ls L F G := HW.out.2.2.kept hKw6 (fun b hb he => by have := HW.out.2.2.tl.lt b hb; omega) (fun b hb he => by have := HW.out.2.2.rf.lt b hb; omega)
    have H6 : Hid (SegL w6 (some ⟨g3, 0, none⟩) ls ∧ SegL w6 a1 L ∧ Pr w6 t d ls L F G ∧ Keeps (fun _ => False) w w6) := ⟨hs36, hs16, hP6, hKw6.mono fun b hb he => by omega⟩
    have HD2 : Hid (∀ w', Keeps (fun _ => False) w6 w' → Calls Try.prog 9 #[.slice (some ⟨g3, 0, none⟩) NA c3, .slice a1 NL c1] w' fun r w'' => r = .returned (.bool true) ∧ Keeps (fun _ => False) w' w'') := fun w' hK => by
      have := same_any (some ⟨g3, 0, none⟩) a1 ls L c3 c1 w' (by rw [← HNN.out.2]; exact H3.out.2.2.1) (by rw [← HNN.out.1]; exact H1.out.1) (hs36.kept hK fun _ _ h => h) (hs16.kept hK fun _ _ h => h)
      rw [← HNN.out.2, ← HNN.out.1, decide_eq_true HEQ.out] at this
      exact this
    clear hK6 hne hKw6 hs36 hs16 hg2w hP6 HSp
    go_wp2_with fail
    refine (HD2.out w6 (Keeps.refl _ _)).mono ?_
    rintro r w7 ⟨rfl, hK7⟩
    have H7 : Hid (Keeps (fun _ => False) w6 w7) := hK7
    have HL : Hid (Calls _ _ _ _ _) := told_any t ls F w7 (H6.out.2.2.1.keep hK7).tl
    rw [← HNN.out.2] at HL
    clear hK7
    go_wp2_with fail
    refine HL.out.mono ?_
    rintro r w8 ⟨g8, c8, rfl, hg8, hg8', hc8, hs8, ho8, hK8⟩
    have hK68 : Keeps (fun _ => False) w6 w8 := H7.out.trans hK8 fun _ _ h => h
    have HD8 : Hid (Calls Try.prog 9 #[.slice (some ⟨g8, 0, none⟩) NA c8, .slice a1 NL c1] w8 fun r w' => r = .returned (.bool true) ∧ Keeps (fun _ => False) w8 w') := by
      have := same_any (some ⟨g8, 0, none⟩) a1 ls L c8 c1 w8 (by rw [← HNN.out.2]; exact hc8) (by rw [← HNN.out.1]; exact H1.out.1) hs8 (H6.out.2.1.kept hK68 fun _ _ h => h)
      rw [← HNN.out.2, ← HNN.out.1, decide_eq_true HEQ.out] at this
      exact this
    have H8 : Hid (Keeps (fun _ => False) w6 w8) := hK68
    clear hg8 hg8' hc8 hs8 ho8 hK8 hK68 HL
    go_wp2_with fail
    refine HD8.out.mono ?_
    rintro r w9 ⟨rfl, hK9⟩
    have H9 : Hid (Keeps (fun _ => False) w6 w9) := H8.out.trans hK9 fun _ _ h => h
    clear hK9 HD8
    go_wp2_with fail
    refine (HD2.out w9 H9.out).mono ?_
    rintro r w10 ⟨rfl, hK10⟩
    have H10 : Hid (Keeps (fun _ => False) w6 w10) := H9.out.trans hK10 fun _ _ h => h
    clear hK10
    go_wp2
    go_ret
    refine ⟨⟨_, rfl, fun _ => rfl⟩, ⟨F, G, H6.out.2.2.1.keep H10.out, fun b hb => .inl hb, fun b hb => .inl hb⟩, (H6.out.2.2.2.trans H10.out fun _ _ h => h).mono fun _ _ h => h.elim⟩
  · rw [decide_eq_false hE] at HC
    have HEQ : Hid (¬ ls = L) := hE
    clear hE
    go_wp2_with fail
    refine HC.out.mono ?_
    rintro r w4 ⟨rfl, hK4⟩
    have H4 : Hid (Keeps (fun _ => False) w w4) := H3.out.2.2.2.2.1.trans hK4 fun _ _ h => h
    clear hK4 HC
    go_wp2
    go_ret
    exact ⟨⟨_, rfl, fun e => absurd e HEQ.out⟩, nowP_same HW.out.2.2 H4.out⟩

end Go.Proofs.Ytakidbjkpbgmmaa
