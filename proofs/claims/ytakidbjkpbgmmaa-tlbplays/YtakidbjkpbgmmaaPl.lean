import Derived.Test.YtakidbjkpbgmmaaSd
namespace Go.Proofs.Ytakidbjkpbgmmaa
open Go.RowKit Go.Shelf
set_option linter.unusedVariables false

/-- Two pairs, apart from one another and from all that was there. -/
structure Du (w0 w : World) (a x b y : Nat) (la lb : List Lf) : Prop where
  keeps : Keeps (fun _ => False) w0 w
  two : ∃ Fa Gx Fb Gy, Pr w a x la la Fa Gx ∧ Pr w b y lb lb Fb Gy ∧ (∀ z, Fa z ∨ Gx z → ¬ (Fb z ∨ Gy z)) ∧ (∀ z, Fa z ∨ Gx z → w0.heap.size ≤ z) ∧ ∀ z, Fb z ∨ Gy z → w0.heap.size ≤ z

theorem Du.keep {w0 w w' : World} {a x b y : Nat} {la lb : List Lf} (h : Du w0 w a x b y la lb) (hK : Keeps (fun _ => False) w w') : Du w0 w' a x b y la lb := by
  obtain ⟨h1, Fa, Gx, Fb, Gy, h2, h3, h4, h5, h6⟩ := h
  exact ⟨h1.trans hK fun _ _ h => h, Fa, Gx, Fb, Gy, h2.keep hK, h3.keep hK, h4, h5, h6⟩
theorem Du.swap {w0 w : World} {a x b y : Nat} {la lb : List Lf} (h : Du w0 w a x b y la lb) : Du w0 w b y a x lb la := by
  obtain ⟨h1, Fa, Gx, Fb, Gy, h2, h3, h4, h5, h6⟩ := h
  exact ⟨h1, Fb, Gy, Fa, Gx, h3, h2, fun z hz hz2 => h4 z hz2 hz, h6, h5⟩
/-- One pair has gone on. -/
theorem du_step {w0 w w' : World} {a x b y : Nat} {lb la' : List Lf} {Fa Gx Fb Gy : Nat → Prop} (h1 : Keeps (fun _ => False) w0 w) (hb : Pr w b y lb lb Fb Gy) (h4 : ∀ z, Fa z ∨ Gx z → ¬ (Fb z ∨ Gy z)) (h5 : ∀ z, Fa z ∨ Gx z → w0.heap.size ≤ z) (h6 : ∀ z, Fb z ∨ Gy z → w0.heap.size ≤ z)
    (hN : NowP w w' a x la' la' Fa Gx) : Du w0 w' a x b y la' lb := by
  obtain ⟨⟨F', G', p1, p2, p3⟩, p4⟩ := hN
  have hz := h1.size
  refine ⟨h1.trans p4 fun z hz hF => by have := h5 z hF; omega, F', G', Fb, Gy, p1, hb.kept p4 (fun z hz hF => h4 z hF (.inl hz)) (fun z hz hF => h4 z hF (.inr hz)), ?_, ?_, h6⟩
  · rintro z (hF | hG) hz2
    · rcases p2 z hF with h | h
      · exact h4 z (.inl h) hz2
      · rcases hz2 with h' | h'
        · have := hb.tl.lt z h'; omega
        · have := hb.rf.lt z h'; omega
    · rcases p3 z hG with h | h
      · exact h4 z (.inr h) hz2
      · rcases hz2 with h' | h'
        · have := hb.tl.lt z h'; omega
        · have := hb.rf.lt z h'; omega
  · rintro z (hF | hG)
    · rcases p2 z hF with h | h
      · exact h5 z (.inl h)
      · omega
    · rcases p3 z hG with h | h
      · exact h5 z (.inr h)
      · omega

theorem OpAt.kept {w w' : World} {g o : Nat} {x : OpV} (h : OpAt w g o x) (hK : Keeps (fun _ => False) w w') : OpAt w' g o x := by
  obtain ⟨⟨h0, h1, h2, h3, h4, h5⟩, hs⟩ := h
  have hlt : g < w.heap.size := World.block_lt_of_cell? w ⟨g, o, none⟩ h0
  have e : ∀ i, w'.cell? ⟨g, i, none⟩ = w.cell? ⟨g, i, none⟩ := fun i => World.cell?_of_block (w := w) (hK.block g hlt fun h => h)
  exact ⟨⟨(e _).trans h0, (e _).trans h1, (e _).trans h2, (e _).trans h3, (e _).trans h4, (e _).trans h5⟩, hs.kept hK fun _ _ h => h⟩
theorem SegL.block_lt {w : World} {a : Option Addr} {ls : List Lf} (h : SegL w a ls) (hl : ls ≠ []) : ∀ x, a = some x → x.block < w.heap.size := by
  intro x hx
  rcases h with h | ⟨g, o, ha, h⟩
  · exact absurd h hl
  · rw [hx] at ha; simp at ha; subst ha
    cases hc : ls with
    | nil => exact absurd hc hl
    | cons y r => exact (h 0 y (by rw [hc]; rfl)).lt

theorem rf_new (w : World) : Rf (w.alloc (.cells #[.slice none 0 0] 28)) w.heap.size [] (fun b => b = w.heap.size) :=
  ⟨none, 0, Blk.new w _ 28, .inl rfl, ⟨Nat.le_refl _, Nat.zero_le _⟩, by simp, rfl, fun h => absurd rfl h, fun b hb => by simp; omega⟩

set_option maxHeartbeats 4000000 in
theorem tlbPlays_any (ad : Option Addr) (os : List OpV) (c : Nat) (w : World) (hl : os.length ≤ c ∧ c ≤ maxLen) (hs : SegO w ad os) (hf : ∀ o ∈ os, o.Fine) (hb : ∀ o ∈ os, o.ls.length ≤ 5864062014634) :
    Calls Try.prog 3 #[.slice ad os.length c] w fun r w' => r = .returned (.bool true) ∧ Keeps (fun _ => False) w w' := by
  obtain ⟨n, hn⟩ : ∃ n, n = os.length := ⟨_, rfl⟩
  have HS : Hid (SegO w ad os ∧ n = os.length ∧ (∀ o ∈ os, o.Fine) ∧ ∀ o ∈ os, o.ls.length ≤ 5864062014634) := ⟨hs, hn, hf, hb⟩
  have hc2 : (n : Int) ≤ c := by omega
  have hc3 : (c : Int) ≤ 9223372036854775807 := by unfold maxLen at hl; omega
  rw [← hn]
  clear hl hs hn hf hb
  go_enter Try.func3, Try.ntmps3
  go_wp2_with fail
  refine (two_any w).mono ?_
  rintro r w1 ⟨a, b, Fa, Fb, rfl, hTa, hTb, hab, hFa, hFb, hK1⟩
  obtain ⟨X1, hX1⟩ : ∃ X1, X1 = w1.alloc (.cells #[.slice none 0 0] 28) := ⟨_, rfl⟩
  obtain ⟨X2, hX2⟩ : ∃ X2, X2 = X1.alloc (.cells #[.slice none 0 0] 28) := ⟨_, rfl⟩
  have hKa : Keeps (fun _ => False) w1 X1 := by rw [hX1]; exact (Keeps.refl _ w1).alloc _
  have hKb : Keeps (fun _ => False) X1 X2 := by rw [hX2]; exact (Keeps.refl _ X1).alloc _
  have hz1 : X1.heap.size = w1.heap.size + 1 := by rw [hX1]; simp
  have hD : Du w X2 a w1.heap.size b (w1.heap.size + 1) [] [] := by
    have hr1 : Rf X1 w1.heap.size [] (fun b => b = w1.heap.size) := by rw [hX1]; exact rf_new w1
    have hr2 : Rf X2 (w1.heap.size + 1) [] (fun b => b = w1.heap.size + 1) := by
      have := rf_new X1
      rw [hz1] at this
      rw [hX2]; exact this
    have hz := hK1.size
    refine ⟨(hK1.trans hKa fun _ _ h => h).trans hKb fun _ _ h => h, Fa, _, Fb, _, ⟨(hTa.kept hKa fun _ _ h => h).kept hKb fun _ _ h => h, hr1.kept hKb fun _ _ h => h, fun z hz he => by have := hTa.lt z hz; omega⟩, ⟨(hTb.kept hKa fun _ _ h => h).kept hKb fun _ _ h => h, hr2, fun z hz he => by have := hTb.lt z hz; omega⟩, ?_, ?_, ?_⟩
    · rintro z (h1 | h1) (h2 | h2)
      · exact hab z h1 h2
      · have := hTa.lt z h1; omega
      · have := hTb.lt z h2; omega
      · omega
    · rintro z (h1 | h1)
      · exact hFa z h1
      · omega
    · rintro z (h1 | h1)
      · exact hFb z h1
      · omega
  have HD : Hid (Du w X2 a w1.heap.size b (w1.heap.size + 1) [] []) := hD
  have HX : Hid (X2 = (w1.alloc (.cells #[.slice none 0 0] 28)).alloc (.cells #[.slice none 0 0] 28)) := by rw [hX2, hX1]; rfl
  clear hTa hTb hab hFa hFb hK1 hX1 hX2 hKa hKb hz1 hD
  go_wp2
  rw [← HX.out]
  obtain ⟨x, hx⟩ : ∃ x, x = w1.heap.size := ⟨_, rfl⟩
  obtain ⟨y, hy⟩ : ∃ y, y = x + 1 := ⟨_, rfl⟩
  rw [← hx, ← hy] at HD
  rw [← hx, ← hy]
  clear hx hy HX
  go_loopw [8] (fun i wr => ∃ (j : Nat) (la lb : List Lf), j ≤ n ∧ i = .int .i64 j ∧ Du w wr a x b y la lb) (fun i _ => n - (intOf i).toNat)
  case atStart => exact ⟨0, [], [], by omega, rfl, HD.out⟩
  case round =>
    clear HD
    obtain ⟨j, la, lb, hj, rfl, hD⟩ := hrel
    by_cases hlt : j < n
    · obtain ⟨o, ho⟩ : ∃ o, os[j]? = some o := ⟨_, List.getElem?_eq_getElem (by have := HS.out.2.1; omega)⟩
      obtain ⟨g, q, rfl, hO⟩ : ∃ g q, ad = some ⟨g, q, none⟩ ∧ OpAt w g (q + j * 6) o := by
        rcases HS.out.1 with h | ⟨g, q, ha, h⟩
        · rw [h] at ho; simp at ho
        · exact ⟨g, q, ha, h j o ho⟩
      have hOr := hO.kept hD.keeps
      obtain ⟨⟨o0, o1, o2, o3, o4, o5⟩, -⟩ := hOr
      have hlt' : (j : Int) < n := by omega
      obtain ⟨W, hW⟩ : ∃ W, W = wr.alloc (.cells #[.int .i64 o.which, .int .i64 o.kind, .int .i64 o.l.p, .int .i64 o.l.f, .int .i64 o.l.r, .slice o.ad o.ls.length o.cap] 30) := ⟨_, rfl⟩
      have hKW : Keeps (fun _ => False) wr W := by rw [hW]; exact (Keeps.refl _ wr).alloc _
      have hDW := hD.keep hKW
      have hBW : Blk W wr.heap.size o.vs 30 := by rw [hW]; exact Blk.new wr _ 30
      have hm := List.mem_of_getElem? ho
      have hsW : SegL W o.ad o.ls := hO.2.kept hDW.keeps fun _ _ h => h
      have HW : Hid (W = _ ∧ Du w W a x b y la lb ∧ Blk W wr.heap.size o.vs 30) := ⟨hW, hDW, hBW⟩
      have HST : ∀ (t d : Nat) (ls : List Lf) (F G : Nat → Prop), Pr W t d ls ls F G → (∀ z, F z ∨ G z → w.heap.size ≤ z) → Calls Try.prog 8 #[ptr t, ptr d, o.v] W fun r w' => r = .returned (.bool true) ∧ NowP W w' t d (stepS o ls) (stepS o ls) F G := fun t d ls F G hP hlo => by
        refine (step_any t d ls ls F G o W hP (HS.out.2.2.1 o hm).2.1.1 (HS.out.2.2.1 o hm).2.2.1 (HS.out.2.2.2 o hm) hsW fun hne z hz => ?_).mono ?_
        · have := hO.2.block_lt hne z hz
          exact ⟨fun hF => by have := hlo _ (.inl hF); omega, fun hG => by have := hlo _ (.inr hG); omega⟩
        · rintro r w' ⟨⟨b, rfl, hb⟩, hN⟩
          rw [hb rfl]
          exact ⟨rfl, hN⟩
      have b0 := hBW.cell (i := 0) rfl
      have b1 := hBW.cell (i := 1) rfl
      have b2 := hBW.cell (i := 2) rfl
      have b3 := hBW.cell (i := 3) rfl
      have b4 := hBW.cell (i := 4) rfl
      have b5 := hBW.cell (i := 5) rfl
      by_cases hwh : o.which = 1
      · obtain ⟨k1, Fa, Gx, Fb, Gy, k2, k3, k4, k5, k6⟩ := hDW
        have HC : Hid (Calls _ _ _ _ _) := HST b y lb Fb Gy k3 k6
        have HE : Hid (∀ w', NowP W w' b y (stepS o lb) (stepS o lb) Fb Gy → Du w w' a x b y la (stepS o lb)) := fun w' hN => (du_step k1 k2 (fun z hz hz2 => k4 z hz2 hz) k6 k5 hN).swap
        have hw1 : (o.which == 1) = true := by simpa using hwh
        clear hD hBW hm hsW HST k1 k2 k3 k4 k5 k6 hO ho hwh hW hKW
        go_wp2_with fail
        rw [← HW.out.1]
        refine HC.out.mono ?_
        rintro r w2 ⟨rfl, hN⟩
        have HN : Hid (Du w w2 a x b y la (stepS o lb)) := HE.out w2 hN
        clear hN HC HE o0 o1 o2 o3 o4 o5 b0 b1 b2 b3 b4 b5
        go_wp2
        go_roundw
        case rel => exact ⟨j + 1, la, stepS o lb, by omega, by go_num, HN.out⟩
        case measure => simp [intOf]; omega
      · obtain ⟨k1, Fa, Gx, Fb, Gy, k2, k3, k4, k5, k6⟩ := hDW
        have HC : Hid (Calls _ _ _ _ _) := HST a x la Fa Gx k2 k5
        have HE : Hid (∀ w', NowP W w' a x (stepS o la) (stepS o la) Fa Gx → Du w w' a x b y (stepS o la) lb) := fun w' hN => du_step k1 k3 k4 k5 k6 hN
        have hw1 : (o.which == 1) = false := by simpa using hwh
        clear hD hBW hm hsW HST k1 k2 k3 k4 k5 k6 hO ho hwh hW hKW
        go_wp2_with fail
        rw [← HW.out.1]
        refine HC.out.mono ?_
        rintro r w2 ⟨rfl, hN⟩
        have HN : Hid (Du w w2 a x b y (stepS o la) lb) := HE.out w2 hN
        clear hN HC HE o0 o1 o2 o3 o4 o5 b0 b1 b2 b3 b4 b5
        go_wp2
        go_roundw
        case rel => exact ⟨j + 1, stepS o la, lb, by omega, by go_num, HN.out⟩
        case measure => simp [intOf]; omega
    · obtain rfl : j = n := by omega
      obtain ⟨k1, Fa, Gx, Fb, Gy, k2, k3, k4, k5, k6⟩ := hD
      obtain ⟨ax, cx, x1, x2, x3, x4, x5, x6, x7⟩ := k2.rf
      obtain ⟨ay, cy, y1, y2, y3, y4, y5, y6, y7⟩ := k3.rf
      have c0 := x1.cell (i := 0) rfl
      have d0 := y1.cell (i := 0) rfl
      obtain ⟨na, hna⟩ : ∃ na, na = la.length := ⟨_, rfl⟩
      obtain ⟨nb, hnb⟩ : ∃ nb, nb = lb.length := ⟨_, rfl⟩
      have HLa : Hid (∀ w', Keeps (fun _ => False) wr w' → Calls Try.prog 10 #[ptr a] w' fun r w'' => ∃ g cap, r = .returned (.slice (some ⟨g, 0, none⟩) na cap) ∧ (na ≤ cap ∧ cap ≤ maxLen) ∧ SegL w'' (some ⟨g, 0, none⟩) la ∧ Keeps (fun _ => False) wr w'') := fun w' hK => by
        refine (told_any a la Fa w' (k2.keep hK).tl).mono ?_
        rintro r w'' ⟨g, cap, rfl, h1, h2, h3, h4, h5, h6⟩
        exact ⟨g, cap, by rw [hna], by rw [hna]; exact h3, h4, hK.trans h6 fun _ _ h => h⟩
      have HLb : Hid (∀ w', Keeps (fun _ => False) wr w' → Calls Try.prog 10 #[ptr b] w' fun r w'' => ∃ g cap, r = .returned (.slice (some ⟨g, 0, none⟩) nb cap) ∧ (nb ≤ cap ∧ cap ≤ maxLen) ∧ SegL w'' (some ⟨g, 0, none⟩) lb ∧ Keeps (fun _ => False) wr w'') := fun w' hK => by
        refine (told_any b lb Fb w' (k3.keep hK).tl).mono ?_
        rintro r w'' ⟨g, cap, rfl, h1, h2, h3, h4, h5, h6⟩
        exact ⟨g, cap, by rw [hnb], by rw [hnb]; exact h3, h4, hK.trans h6 fun _ _ h => h⟩
      have HSa : Hid (∀ g cap w', (na ≤ cap ∧ cap ≤ maxLen) ∧ SegL w' (some ⟨g, 0, none⟩) la ∧ Keeps (fun _ => False) wr w' → Calls Try.prog 9 #[.slice (some ⟨g, 0, none⟩) na cap, .slice ax na cx] w' fun r w'' => r = .returned (.bool true) ∧ Keeps (fun _ => False) wr w'') := fun g cap w' hh => by
        have h1 := same_any (some ⟨g, 0, none⟩) ax la la cap cx w' (by rw [← hna]; exact hh.1) x3 hh.2.1 (x2.kept hh.2.2 fun _ _ h => h)
        rw [← hna, decide_eq_true rfl] at h1
        refine Calls.mono h1 ?_
        rintro r w'' ⟨rfl, h2⟩
        exact ⟨rfl, hh.2.2.trans h2 fun _ _ h => h⟩
      have HSb : Hid (∀ g cap w', (nb ≤ cap ∧ cap ≤ maxLen) ∧ SegL w' (some ⟨g, 0, none⟩) lb ∧ Keeps (fun _ => False) wr w' → Calls Try.prog 9 #[.slice (some ⟨g, 0, none⟩) nb cap, .slice ay nb cy] w' fun r w'' => r = .returned (.bool true) ∧ Keeps (fun _ => False) wr w'') := fun g cap w' hh => by
        have h1 := same_any (some ⟨g, 0, none⟩) ay lb lb cap cy w' (by rw [← hnb]; exact hh.1) y3 hh.2.1 (y2.kept hh.2.2 fun _ _ h => h)
        rw [← hnb, decide_eq_true rfl] at h1
        refine Calls.mono h1 ?_
        rintro r w'' ⟨rfl, h2⟩
        exact ⟨rfl, hh.2.2.trans h2 fun _ _ h => h⟩
      have HC : Hid (∀ w', Keeps (fun _ => False) wr w' → w'.cell? ⟨x, 0, none⟩ = some (.slice ax na cx) ∧ w'.cell? ⟨y, 0, none⟩ = some (.slice ay nb cy)) := fun w' hK => by
        rw [hna, hnb]
        exact ⟨(x1.kept hK fun h => h).cell rfl, (y1.kept hK fun h => h).cell rfl⟩
      rw [← hna] at c0
      rw [← hnb] at d0
      have HK : Hid (Keeps (fun _ => False) w wr) := k1
      clear k1 k2 k3 k4 k5 k6 x1 x2 x3 x4 x5 x6 x7 y1 y2 y3 y4 y5 y6 y7 hna hnb
      go_wp2_with fail
      go_region_held3 (fun w' => w'.cell? ⟨x, 0, none⟩ = some (.slice ax na cx) ∧ w'.cell? ⟨y, 0, none⟩ = some (.slice ay nb cy)) (first | exact hS5 | exact hS4 | exact hS3 | exact hS2 | go_keep)
        (first
          | (go_at_call_of 10 (ptr a); refine (HLa.out _ ((Keeps.refl _ wr).drew)).mono ?_; rintro r w2 ⟨g2, c2, rfl, hh2⟩; have hS2 := HC.out w2 hh2.2.2; have H2 : Hid _ := hh2; clear hh2)
          | (go_at_call_of 10 (ptr b); refine (HLb.out _ H3.out).mono ?_; rintro r w4 ⟨g4, c4, rfl, hh4⟩; have hS4 := HC.out w4 hh4.2.2; have H4 : Hid _ := hh4; clear hh4)
          | (go_at_call_of 9 (Value.slice ax na cx); refine (HSa.out g2 c2 _ H2.out).mono ?_; rintro r w3 ⟨rfl, hK3⟩; have hS3 := HC.out w3 hK3; have H3 : Hid (Keeps (fun _ => False) wr w3) := hK3; clear hK3)
          | (go_at_call_of 9 (Value.slice ay nb cy); refine (HSb.out g4 c4 _ H4.out).mono ?_; rintro r w5 ⟨rfl, hK5⟩; have hS5 := HC.out w5 hK5; have H5 : Hid (Keeps (fun _ => False) wr w5) := hK5; clear hK5))
      go_wp2
      go_ret
      exact ⟨rfl, HK.out.trans H5.out fun _ _ h => h⟩

end Go.Proofs.Ytakidbjkpbgmmaa
