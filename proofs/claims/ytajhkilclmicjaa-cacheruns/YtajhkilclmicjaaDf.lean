import Derived.Test.YtajhkilclmicjaaDe
namespace Go.Proofs.Ytajhkilclmicjaa
open Go.RowKit Go.Shelf
set_option linter.unusedVariables false
set_option linter.unusedSimpArgs false
set_option maxRecDepth 6000

/-- Lists of numbers that can be read at this address. -/
def SegL (w : World) (a : Option Addr) (lls : List (List Int)) : Prop :=
  lls = [] ∨ ∃ g o, a = some ⟨g, o, none⟩ ∧ ∀ j l, lls[j]? = some l → ∃ x c, w.cell? ⟨g, o + j, none⟩ = some (.slice x l.length c) ∧ SegI w x l ∧ l.length ≤ c ∧ (l.length : Int) ≤ 9223372036854775807

/-- Such lines as a set may hold; such as a cache may. -/
def okRow (s : Nat) (l : List Int) (m : Nat) : Prop := ∀ i, i < m → ∀ x, l[i]? = some x → 0 ≤ x ∧ x < 4096 ∧ x.tmod 4 = (s : Int) ∧ x ∉ l.take i
def MayL (lls : List (List Int)) : Prop := (lls.length = 0 ∨ lls.length = 4) ∧ ∀ s l, lls[s]? = some l → l.length ≤ 2 ∧ okRow s l l.length

/-- A truth value that says so. -/
def Says (P : Prop) (r : Ending) : Prop := ∃ b : Bool, r = .returned (.bool b) ∧ (b = true ↔ P)
theorem says_false {P : Prop} (h : ¬ P) : Says P (.returned (.bool false)) := ⟨false, rfl, fun e => (by cases e), fun e => (h e).elim⟩
theorem says_true {P : Prop} (h : P) : Says P (.returned (.bool true)) := ⟨true, rfl, fun _ => h, fun _ => rfl⟩

theorem segI_take {w : World} {a : Option Addr} {l : List Int} (h : SegI w a l) (m : Nat) : SegI w a (l.take m) := by
  rcases h with rfl | ⟨g, o, rfl, hc⟩
  · exact .inl (by simp)
  · refine .inr ⟨g, o, rfl, fun j hj => ?_⟩
    have hj2 : j < l.length := by rw [List.length_take] at hj; omega
    rw [List.getElem_take]
    exact hc j hj2

theorem may_odd (a : Option Addr) (n cap : Nat) (w : World) (h0 : (n : Int) ≠ 0) (h4 : (n : Int) ≠ 4) :
    Calls Try.prog 46 #[.slice a n cap] w fun r w' => r = .returned (.bool false) ∧ w' = w := by
  have f0 : ((n : Int) != 0) = true := by simpa using h0
  have f4 : ((n : Int) != 4) = true := by simpa using h4
  go_enter Try.func46, Try.ntmps46
  go_wp2
  go_ret
  exact ⟨rfl, rfl⟩

theorem may_none (a : Option Addr) (cap : Nat) (w : World) :
    Calls Try.prog 46 #[.slice a 0 cap] w fun r w' => r = .returned (.bool true) ∧ w' = w := by
  go_enter Try.func46, Try.ntmps46
  go_wp2
  go_loopw [16] (fun i wr => i = .int .i64 0 ∧ wr = w) (fun _ _ => 0)
  case atStart => exact ⟨rfl, rfl⟩
  case round =>
    obtain ⟨rfl, rfl⟩ := hrel
    go_wp2
    go_ret
    exact ⟨rfl, rfl⟩

set_option maxHeartbeats 4000000 in
theorem may_four (a : Option Addr) (lls : List (List Int)) (cap : Nat) (w : World) (hs : SegL w a lls) (hl : lls.length = 4) :
    Calls Try.prog 46 #[.slice a 4 cap] w fun r w' => Says (MayL lls) r ∧ w' = w := by
  have HS : Hid (SegL w a lls ∧ lls.length = 4) := ⟨hs, hl⟩
  rcases hs with h0 | ⟨G, O, rfl, h9⟩
  · rw [h0] at hl; simp at hl
  clear hl h9
  go_enter Try.func46, Try.ntmps46
  go_wp2
  go_loopw [16] (fun i wr => ∃ j : Nat, j ≤ 4 ∧ i = .int .i64 j ∧ wr = w ∧ ∀ s, s < j → ∀ l, lls[s]? = some l → l.length ≤ 2 ∧ okRow s l l.length) (fun i _ => 4 - (intOf i).toNat)
  case atStart => exact ⟨0, by omega, rfl, rfl, fun s hs => by omega⟩
  case round =>
    obtain ⟨j, hj, rfl, hw, hall⟩ := hrel
    obtain rfl := hw.symm
    clear hw
    have HA : Hid (∀ s, s < j → ∀ l, lls[s]? = some l → l.length ≤ 2 ∧ okRow s l l.length) := hall
    clear hall
    by_cases hlt : j < 4
    · obtain ⟨l, hl⟩ : ∃ l, lls[j]? = some l := ⟨_, List.getElem?_eq_getElem (by rw [HS.out.2]; exact hlt)⟩
      rcases HS.out.1 with h0 | ⟨G', O', e, hc⟩
      · have := HS.out.2; rw [h0] at this; simp at this
      cases e
      obtain ⟨x, c, hcell, hseg, hlc, hlm⟩ := hc j l hl
      have hji : (j : Int) < 4 := by omega
      have HL : Hid (lls[j]? = some l ∧ SegI w x l) := ⟨hl, hseg⟩
      obtain ⟨n, en⟩ : ∃ n, n = l.length := ⟨_, rfl⟩
      rw [← en] at hcell hlc hlm
      have HN : Hid (n = l.length) := en
      clear hl hseg en hc
      by_cases h2 : (n : Int) ≤ 2
      · clear hlm
        have HC : Hid (w.cell? ⟨G, O + j, none⟩ = some (.slice x n c)) := hcell
        go_wp2
        clear hcell
        go_loopw [30] (fun i wr => ∃ m : Nat, m ≤ n ∧ i = .int .i64 m ∧ wr = w ∧ okRow j l m) (fun i _ => n - (intOf i).toNat)
        case atStart => exact ⟨0, by omega, rfl, rfl, fun i hi => by omega⟩
        case round =>
          obtain ⟨m, hm, rfl, hw, hok⟩ := hrel
          obtain rfl := hw.symm
          clear hw
          have HO : Hid (okRow j l m) := hok
          clear hok
          have hcell := HC.out
          by_cases hmn : m < n
          · obtain ⟨y, hy⟩ : ∃ y, l[m]? = some y := ⟨_, List.getElem?_eq_getElem (by have := HN.out; omega)⟩
            rcases HL.out.2 with h0 | ⟨g, o, rfl, hcy⟩
            · rw [h0] at hy; simp at hy
            have hml : m < l.length := by have := HN.out; omega
            have hy2 := hcy m hml
            have ey : l[m]'hml = y := by have := List.getElem?_eq_getElem hml; rw [hy] at this; exact (Option.some.inj this).symm
            rw [ey] at hy2
            have HY : Hid (l[m]? = some y) := hy
            have hmi : (m : Int) < n := by omega
            have H5 : Hid (Calls _ _ _ _ _) := among_any (some ⟨g, o, none⟩) (l.take m) c y w (segI_take HL.out.2 m) (by rw [List.length_take]; omega)
            rw [List.length_take, Nat.min_eq_left (by omega)] at H5
            have HBAD : ∀ s : Prop, ¬ (0 ≤ y ∧ y < 4096 ∧ y.tmod 4 = (j : Int) ∧ y ∉ l.take m) → (¬ MayL lls) := fun _ hb hM => hb ((hM.2 j l HL.out.1).2 m hml y hy)
            have HB : Hid (¬ (0 ≤ y ∧ y < 4096 ∧ y.tmod 4 = (j : Int) ∧ y ∉ l.take m) → (¬ MayL lls)) := HBAD True
            clear HBAD hcy hy ey hml
            by_cases hn0 : y < 0
            · have HE : Hid (¬ MayL lls) := HB.out fun h => by omega
              clear HB H5
              go_wp2
              go_ret
              exact ⟨says_false HE.out, rfl⟩
            by_cases hn1 : y ≥ 4096
            · have HE : Hid (¬ MayL lls) := HB.out fun h => by omega
              clear HB H5
              go_wp2
              go_ret
              exact ⟨says_false HE.out, rfl⟩
            have ht : y.tmod 4 = y % 4 := Int.tmod_eq_emod_of_nonneg (by omega)
            by_cases hn2 : y % 4 = (j : Int)
            · have f2 : (y % 4 != (j : Int)) = false := by simp [hn2]
              obtain ⟨am, eam⟩ : ∃ am, am = decide (y ∈ l.take m) := ⟨_, rfl⟩
              rw [← eam] at H5
              have HAM : Hid (am = decide (y ∈ l.take m) ∧ y.tmod 4 = (j : Int)) := ⟨eam, by rw [ht]; exact hn2⟩
              clear hn2 eam ht
              go_wp2_with fail
              refine H5.out.mono ?_
              rintro r w3 ⟨rfl, rfl⟩
              clear H5
              cases am with
              | true =>
                have HE : Hid (¬ MayL lls) := HB.out fun h => h.2.2.2 (of_decide_eq_true HAM.out.1.symm)
                clear HB
                go_wp2
                go_ret
                exact ⟨says_false HE.out, rfl⟩
              | false =>
                have hok : okRow j l (m + 1) := fun i hi z hz => by
                  by_cases e : i = m
                  · subst e
                    rw [HY.out] at hz
                    cases hz
                    exact ⟨by omega, by omega, HAM.out.2, of_decide_eq_false HAM.out.1.symm⟩
                  · exact HO.out i (by omega) z hz
                have HE : Hid (okRow j l (m + 1)) := hok
                clear hok HB hn0 hn1
                go_wp2
                go_roundw
                case rel => exact ⟨m + 1, by omega, by go_num, trivial, HE.out⟩
                case measure => simp [intOf]; omega
            · have f2 : (y % 4 != (j : Int)) = true := by simpa using hn2
              have HE : Hid (¬ MayL lls) := HB.out fun h => hn2 (by rw [← ht]; exact h.2.2.1)
              clear HB H5 ht
              go_wp2
              go_ret
              exact ⟨says_false HE.out, rfl⟩
          · obtain rfl : m = n := by omega
            have hok : ∀ s, s < j + 1 → ∀ l, lls[s]? = some l → l.length ≤ 2 ∧ okRow s l l.length := fun s hs l' hl' => by
              by_cases e : s = j
              · subst e
                rw [HL.out.1] at hl'
                cases hl'
                rw [← HN.out]
                exact ⟨by omega, HO.out⟩
              · exact HA.out s (by omega) l' hl'
            have HE : Hid (∀ s, s < j + 1 → ∀ l, lls[s]? = some l → l.length ≤ 2 ∧ okRow s l l.length) := hok
            clear hok hm hmn
            go_wp2
            go_roundw
            case rel => exact ⟨j + 1, by omega, by go_num, trivial, HE.out⟩
            case measure => simp [intOf]; omega
      · have hgt : (n : Int) > 2 := by omega
        have HE : Hid (¬ MayL lls) := fun hM => by have := (hM.2 j l HL.out.1).1; have := HN.out; omega
        go_wp2
        go_ret
        exact ⟨says_false HE.out, rfl⟩
    · obtain rfl : j = 4 := by omega
      have HE : Hid (MayL lls) := ⟨.inr HS.out.2, fun s l hl => HA.out s (by have := (List.getElem?_eq_some_iff.1 hl).1; have := HS.out.2; omega) l hl⟩
      clear hj hlt
      go_wp2
      go_ret
      exact ⟨says_true HE.out, rfl⟩

end Go.Proofs.Ytajhkilclmicjaa
