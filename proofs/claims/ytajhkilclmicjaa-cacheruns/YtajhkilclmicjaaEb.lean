import Derived.Test.YtajhkilclmicjaaEa
namespace Go.Proofs.Ytajhkilclmicjaa
open Go.RowKit Go.Shelf
set_option linter.unusedVariables false
set_option linter.unusedSimpArgs false
set_option maxRecDepth 6000

theorem canBe_odd (a : Option Addr) (n cap : Nat) (w : World) (h0 : (n : Int) ≠ 0) (h4 : (n : Int) ≠ 4) :
    Calls Try.prog 38 #[.slice a n cap] w fun r w' => r = .returned (.bool false) ∧ w' = w := by
  have f0 : ((n : Int) == 0) = false := by simpa using h0
  have f4 : ((n : Int) != 4) = true := by simpa using h4
  go_enter Try.func38, Try.ntmps38
  go_wp2
  go_ret
  exact ⟨rfl, rfl⟩

theorem canBe_none (a : Option Addr) (cap : Nat) (w : World) :
    Calls Try.prog 38 #[.slice a 0 cap] w fun r w' => r = .returned (.bool true) ∧ w' = w := by
  go_enter Try.func38, Try.ntmps38
  go_wp2
  go_ret
  exact ⟨rfl, rfl⟩

set_option maxHeartbeats 1000000 in
theorem canBe_four (a : Option Addr) (lls : List (List Int)) (cap : Nat) (w : World) (hs : SegL w a lls) (hl : lls.length = 4) :
    Calls Try.prog 38 #[.slice a 4 cap] w fun r w' => Says (MayL lls) r ∧ w' = w := by
  have HS : Hid (SegL w a lls ∧ lls.length = 4) := ⟨hs, hl⟩
  rcases hs with h0 | ⟨G, O, rfl, h9⟩
  · rw [h0] at hl; simp at hl
  clear hl h9
  go_enter Try.func38, Try.ntmps38
  go_wp2
  go_loopw [13] (fun i wr => ∃ j : Nat, j ≤ 4 ∧ i = .int .i64 j ∧ wr = w ∧ ∀ s, s < j → ∀ l, lls[s]? = some l → l.length ≤ 2 ∧ okRow s l l.length) (fun i _ => 4 - (intOf i).toNat)
  case atStart => exact ⟨0, by omega, rfl, rfl, fun s hs => by omega⟩
  case round =>
    obtain ⟨j, hj, rfl, hw, hall⟩ := hrel
    obtain rfl := hw.symm
    clear hw
    have HA : Hid (∀ s, s < j → ∀ l, lls[s]? = some l → l.length ≤ 2 ∧ okRow s l l.length) := hall
    clear hall
    by_cases hlt : j < 4
    · obtain ⟨l, hl⟩ : ∃ l, lls[j]? = some l := ⟨_, List.getElem?_eq_getElem (by rw [HS.out.2]; exact hlt)⟩
      rcases HS.out.1 with h0 | ⟨G', O', e, hc⟩
      · have := HS.out.2; rw [h0] at this; simp at this
      cases e
      obtain ⟨x, c, hcell, hseg, hlc, hlm⟩ := hc j l hl
      have hji : (j : Int) < 4 := by omega
      have H1 : Hid (Calls _ _ _ _ _) := fits_says j x c l w hseg hlc hlm
      have HL : Hid (lls[j]? = some l) := hl
      obtain ⟨n, en⟩ : ∃ n, n = l.length := ⟨_, rfl⟩
      rw [← en] at hcell H1 hlm
      have HN : Hid (n = l.length) := en
      clear hl hseg en hc hlc
      go_wp2_with fail
      refine H1.out.mono ?_
      rintro r w1 ⟨⟨t, rfl, ht⟩, rfl⟩
      clear H1
      cases t with
      | true =>
        have hok := ht.1 rfl
        have HE : Hid (∀ s, s < j + 1 → ∀ l, lls[s]? = some l → l.length ≤ 2 ∧ okRow s l l.length) := fun s hs l' hl' => by
          by_cases e : s = j
          · subst e
            rw [HL.out] at hl'
            cases hl'
            rw [← HN.out]
            exact hok
          · exact HA.out s (by omega) l' hl'
        clear hok ht hcell
        go_wp2
        go_roundw
        case rel => exact ⟨j + 1, by omega, by go_num, trivial, HE.out⟩
        case measure => simp [intOf]; omega
      | false =>
        have HE : Hid (¬ MayL lls) := fun hM => by
          have h2 := hM.2 j l HL.out
          rw [← HN.out] at h2
          exact absurd (ht.2 h2) (by simp)
        clear ht hcell
        go_wp2
        go_ret
        exact ⟨says_false HE.out, rfl⟩
    · obtain rfl : j = 4 := by omega
      have HE : Hid (MayL lls) := ⟨.inr HS.out.2, fun s l hl => HA.out s (by have := (List.getElem?_eq_some_iff.1 hl).1; have := HS.out.2; omega) l hl⟩
      clear hj hlt
      go_wp2
      go_ret
      exact ⟨says_true HE.out, rfl⟩

theorem canBe_says (a : Option Addr) (lls : List (List Int)) (cap : Nat) (w : World) (hs : SegL w a lls) :
    Calls Try.prog 38 #[.slice a lls.length cap] w fun r w' => Says (MayL lls) r ∧ w' = w := by
  by_cases h0 : lls.length = 0
  · have e : lls = [] := List.eq_nil_of_length_eq_zero h0
    subst e
    refine (canBe_none a cap w).mono ?_
    rintro r w' ⟨rfl, rfl⟩
    exact ⟨says_true ⟨.inl rfl, fun s l hl => by simp at hl⟩, rfl⟩
  · by_cases h4 : lls.length = 4
    · rw [h4]
      exact canBe_four a lls cap w hs h4
    · refine (canBe_odd a lls.length cap w (by omega) (by omega)).mono ?_
      rintro r w' ⟨rfl, rfl⟩
      exact ⟨says_false fun h => h.1.elim h0 h4, rfl⟩

theorem restore_not (c : Nat) (a : Option Addr) (lls : List (List Int)) (cap : Nat) (w : World) (hs : SegL w a lls) (hm : ¬ MayL lls) :
    Calls Try.prog 19 #[ptr c, .slice a lls.length cap] w fun r w' => r = .returned (.int .i64 71) ∧ w' = w := by
  have H1 : Hid (Calls _ _ _ _ _) := canBe_says a lls cap w hs
  have HM : Hid (¬ MayL lls) := hm
  clear hs hm
  obtain ⟨n, en⟩ : ∃ n, n = lls.length := ⟨_, rfl⟩
  rw [← en] at H1 ⊢
  clear en
  go_enter Try.func19, Try.ntmps19
  go_wp2_with fail
  refine H1.out.mono ?_
  rintro r w1 ⟨⟨t, rfl, ht⟩, rfl⟩
  cases t with
  | true => exact (HM.out (ht.1 rfl)).elim
  | false =>
    clear ht H1
    go_wp2
    go_ret
    exact ⟨rfl, rfl⟩

theorem restore_none (c : Nat) (st : Nat → List Int) (F : Nat → Prop) (a : Option Addr) (cap : Nat) (w : World) (h : Ca w c st F) :
    Calls Try.prog 19 #[ptr c, .slice a 0 cap] w fun r w' => r = .returned (.int .i64 0) ∧ NowC w w' c (fun _ => []) F := by
  obtain ⟨s, Fs, g1, g2, g3, g4⟩ := h
  have H1 : Hid (Calls _ _ _ _ _) := canBe_none a cap w
  have H2 : Hid (Calls _ _ _ _ _) := flush_any c s st F w w (SF.of g1 g2 g3 g4)
  clear g1 g2 g3 g4
  go_enter Try.func19, Try.ntmps19
  go_wp2_with fail
  refine H1.out.mono ?_
  rintro e w1 ⟨rfl, rfl⟩
  clear H1
  go_wp2_with fail
  refine H2.out.mono ?_
  rintro e w2 ⟨rfl, hS⟩
  have H3 : Hid (NowC w1 w2 c (fun _ => []) F) := hS.now
  clear H2 hS
  go_wp2
  go_loopw [18] (fun i wr => i = .int .i64 0 ∧ wr = w2) (fun _ _ => 0)
  case atStart => exact ⟨rfl, rfl⟩
  case round =>
    obtain ⟨rfl, rfl⟩ := hrel
    go_wp2
    go_ret
    exact ⟨rfl, H3.out⟩

theorem flushC_any (c : Nat) (st : Nat → List Int) (F : Nat → Prop) (w : World) (h : Ca w c st F) :
    Calls Try.prog 27 #[ptr c] w fun r w' => r = .returned (.tuple #[]) ∧ NowC w w' c (fun _ => []) F := by
  obtain ⟨s, Fs, g1, g2, g3, g4⟩ := h
  refine (flush_any c s st F w w (SF.of g1 g2 g3 g4)).mono ?_
  rintro r w' ⟨rfl, hS⟩
  exact ⟨rfl, hS.now⟩

/-- The lists by number. -/
def nth (lls : List (List Int)) (i : Nat) : List Int := (lls[i]?).getD []
theorem nth_some {lls : List (List Int)} {i : Nat} (h : i < lls.length) : lls[i]? = some (nth lls i) := by
  unfold nth
  rw [List.getElem?_eq_getElem h]
  rfl
theorem SegL.lst {w : World} {G : Nat} {lls : List (List Int)} (h : SegL w (some ⟨G, 0, none⟩) lls) (hl : lls.length = 4) : ∃ vs, ∀ w', (∀ k, k < lls.length → True) → w' = w → Lst w' G vs (nth lls) := by
  rcases h with h0 | ⟨g, o, e, hc⟩
  · rw [h0] at hl; simp at hl
  cases e
  have hx : ∀ i, ∃ v, i < 4 → w.cell? ⟨G, i, none⟩ = some v ∧ ∃ a c, v = .slice a (nth lls i).length c ∧ SegI w a (nth lls i) ∧ (nth lls i).length ≤ c := fun i => by
    by_cases hi : i < 4
    · obtain ⟨x, c, h1, h2, h3, h4⟩ := hc i (nth lls i) (nth_some (by omega))
      rw [Nat.zero_add] at h1
      exact ⟨_, fun _ => ⟨h1, x, c, rfl, h2, h3⟩⟩
    · exact ⟨undef, fun h => (hi h).elim⟩
  obtain ⟨vs, hv⟩ := Classical.axiomOfChoice hx
  refine ⟨vs, fun w' _ e => ?_⟩
  subst e
  exact ⟨fun i hi => (hv i hi).1, fun i hi => (hv i hi).2⟩

theorem MayL.good {lls : List (List Int)} (h : MayL lls) (hl : lls.length = 4) : Good (nth lls) ∧ ∀ i, i < 4 → (nth lls i).length ≤ 2 ∧ (nth lls i).Nodup := by
  refine ⟨fun i hi z hz => ?_, fun i hi => ?_⟩
  · obtain ⟨h1, h2⟩ := h.2 i (nth lls i) (nth_some (by omega))
    obtain ⟨m, hm, e⟩ := List.mem_iff_getElem.1 hz
    obtain ⟨a1, a2, a3, a4⟩ := h2 m hm z (by rw [List.getElem?_eq_getElem hm, e])
    rw [Int.tmod_eq_emod_of_nonneg a1] at a3
    exact ⟨a1, a2, a3⟩
  · obtain ⟨h1, h2⟩ := h.2 i (nth lls i) (nth_some (by omega))
    refine ⟨h1, ?_⟩
    unfold List.Nodup
    rw [List.pairwise_iff_getElem]
    intro p q hp hq hpq e
    have h3 := h2 q hq _ (List.getElem?_eq_getElem hq)
    refine h3.2.2.2 ?_
    rw [List.mem_iff_getElem?]
    exact ⟨p, by rw [List.getElem?_take, if_pos hpq, List.getElem?_eq_getElem hp, e]⟩

end Go.Proofs.Ytajhkilclmicjaa
