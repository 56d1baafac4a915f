import Derived.Test.YtajhkilclmicjaaDg
import Derived.Test.YtajhkilclmicjaaRt
namespace Go.Proofs.Ytajhkilclmicjaa
open Go.RowKit Go.Shelf
set_option linter.unusedVariables false
set_option linter.unusedSimpArgs false
set_option maxRecDepth 6000

set_option maxHeartbeats 1000000 in
theorem index_in (a : Option Addr) (n c : Nat) (ws : List Int) (k : Int) (w : World) (hs : SegI w a ws) (hn : n = ws.length) (hl : (n : Int) ≤ 4) (hk : k ∈ ws) :
    Calls Try.prog 59 #[.slice a n c, .int .i64 k] w fun e w' => (∃ m : Nat, (m : Int) ≤ 4 ∧ e = .returned (.int .i64 (m : Int))) ∧ w' = w := by
  have HS : Hid (SegI w a ws ∧ n = ws.length ∧ k ∈ ws) := ⟨hs, hn, hk⟩
  clear hs hn hk
  go_enter Try.func59, Try.ntmps59
  go_wp2
  go_loopw [8] (fun i wr => ∃ j : Nat, j ≤ n ∧ i = .int .i64 j ∧ wr = w ∧ ∀ m, m < j → ws[m]? ≠ some k) (fun i _ => n - (intOf i).toNat)
  case atStart => exact ⟨0, by omega, rfl, rfl, fun m hm => by omega⟩
  case round =>
    obtain ⟨j, hj, rfl, hw, hall⟩ := hrel
    obtain rfl := hw.symm
    clear hw
    have HA : Hid (∀ m, m < j → ws[m]? ≠ some k) := hall
    clear hall
    by_cases hlt : j < n
    · have hju : j < ws.length := by have := HS.out.2; omega
      rcases HS.out.1 with h0 | ⟨b, o, rfl, hcell⟩
      · exact absurd hju (by rw [h0]; simp)
      · have cu := hcell j hju
        have HX : Hid (ws[j]? = some (ws[j]'hju)) := List.getElem?_eq_getElem hju
        obtain ⟨x, hxx⟩ : ∃ x, x = ws[j]'hju := ⟨_, rfl⟩
        rw [← hxx] at cu HX
        have hjz : (j : Int) ≤ 4 := by omega
        clear hju hcell hxx
        by_cases hx : x = k
        · subst hx
          have he : (x == x) = true := by simp
          go_wp2
          go_ret
          exact ⟨⟨j, hjz, rfl⟩, rfl⟩
        · have he : (k == x) = false := by simp; exact fun e => hx e.symm
          go_wp2
          go_roundw
          case rel => exact ⟨j + 1, by omega, by go_num, trivial, fun m hm e => by
            by_cases em : m = j
            · subst em; rw [HX.out] at e; exact hx (Option.some.inj e)
            · exact HA.out m (by omega) e⟩
          case measure => simp [intOf]; omega
    · exfalso
      obtain ⟨m, hm, e'⟩ := List.mem_iff_getElem.1 HS.out.2.2
      exact HA.out m (by have := HS.out.2.1; omega) (by rw [List.getElem?_eq_getElem hm, e'])

theorem contains_any (a : Option Addr) (n c : Nat) (ws : List Int) (k : Int) (w : World) (hs : SegI w a ws) (hn : n = ws.length) (hl : (n : Int) ≤ 4) :
    Calls Try.prog 58 #[.slice a n c, .int .i64 k] w fun e w' => e = .returned (.bool (decide (k ∈ ws))) ∧ w' = w := by
  by_cases hk : k ∈ ws
  · rw [decide_eq_true hk]
    have H : Hid (Calls _ _ _ _ _) := index_in a n c ws k w hs hn hl hk
    clear hs hn hk
    go_enter Try.func58, Try.ntmps58
    go_wp2_with fail
    refine H.out.mono ?_
    rintro e w1 ⟨⟨m, hm, rfl⟩, rfl⟩
    clear H
    have hm0 : (m : Int) ≥ 0 := by omega
    go_wp2
    go_ret
    exact ⟨rfl, rfl⟩
  · rw [decide_eq_false hk]
    exact contains_out a n c ws k w hs hn hl hk

theorem isLine_any (z : Int) (w : World) : Calls Try.prog 57 #[.int .i64 z] w fun r w' => r = .returned (.bool (decide (0 ≤ z ∧ z < 4096))) ∧ w' = w := by
  by_cases h1 : 0 ≤ z
  · by_cases h2 : z < 4096
    · rw [decide_eq_true ⟨h1, h2⟩]
      exact isLine_in z w h1 h2
    · rw [decide_eq_false fun h => h2 h.2]
      go_enter Try.func57, Try.ntmps57
      go_wp2
      go_ret
      exact ⟨rfl, rfl⟩
  · rw [decide_eq_false fun h => h1 h.1]
    go_enter Try.func57, Try.ntmps57
    go_wp2
    go_ret
    exact ⟨rfl, rfl⟩

set_option maxHeartbeats 2000000 in
theorem fits_says (s : Nat) (a : Option Addr) (c : Nat) (ws : List Int) (w : World) (hs : SegI w a ws) (hc : ws.length ≤ c) (hm : (ws.length : Int) ≤ 9223372036854775807) :
    Calls Try.prog 54 #[.int .i64 s, .slice a ws.length c] w fun e w' => Says (ws.length ≤ 2 ∧ okRow s ws ws.length) e ∧ w' = w := by
  obtain ⟨n, en⟩ : ∃ n, n = ws.length := ⟨_, rfl⟩
  rw [← en] at hc hm ⊢
  have HS : Hid (SegI w a ws ∧ n = ws.length ∧ n ≤ c) := ⟨hs, en, hc⟩
  have hcz : (n : Int) ≤ c := by omega
  clear hs en hc
  by_cases hl : (n : Int) ≤ 2
  · go_enter Try.func54, Try.ntmps54
    go_wp2
    go_loopw [12] (fun i wr => ∃ j : Nat, j ≤ n ∧ i = .int .i64 j ∧ wr = w ∧ okRow s ws j) (fun i _ => n - (intOf i).toNat)
    case atStart => exact ⟨0, by omega, rfl, rfl, fun i hi => by omega⟩
    case round =>
      obtain ⟨j, hj, rfl, hw, hok⟩ := hrel
      obtain rfl := hw.symm
      clear hw
      have HO : Hid (okRow s ws j) := hok
      clear hok
      by_cases hlt : j < n
      · have hju : j < ws.length := by have := HS.out.2.1; omega
        obtain ⟨e1, e2, e5⟩ := HS.out
        have htl : j = (ws.take j).length := by rw [List.length_take]; omega
        have hX : ws[j]? = some (ws[j]'hju) := List.getElem?_eq_getElem hju
        have H3 : Hid (Calls _ _ _ _ _) := contains_any a j c (ws.take j) (ws[j]'hju) w (e1.take j) htl (by omega)
        have H1 : Hid (Calls _ _ _ _ _) := isLine_any (ws[j]'hju) w
        have H2 : Hid (∀ q : Nat, 0 ≤ (ws[j]'hju) → (ws[j]'hju) % 4 = (q : Int) → Calls _ _ _ _ _) := fun q h0 h1 => setOf_z (ws[j]'hju) q w h0 h1
        rcases e1 with h0 | ⟨b, o, rfl, hcell⟩
        · exact absurd hju (by rw [h0]; simp)
        · have cu := hcell j hju
          obtain ⟨x, hxx⟩ : ∃ x, x = ws[j]'hju := ⟨_, rfl⟩
          rw [← hxx] at cu H1 H2 H3 hX
          have HX : Hid (ws[j]? = some x) := hX
          have hjn : (j : Int) < n := by omega
          have hjc : (j : Int) ≤ c := by omega
          have HB : Hid (¬ (0 ≤ x ∧ x < 4096 ∧ x.tmod 4 = (s : Int) ∧ x ∉ ws.take j) → ¬ (n ≤ 2 ∧ okRow s ws n)) := fun hb hM => hb (hM.2 j hlt x hX)
          clear hju hcell hxx htl e2 e5 hX
          by_cases hx : 0 ≤ x ∧ x < 4096
          · rw [decide_eq_true hx] at H1
            obtain ⟨q, hq⟩ : ∃ q : Nat, x % 4 = (q : Int) := ⟨(x % 4).toNat, by omega⟩
            have H2' : Hid (Calls _ _ _ _ _) := H2.out q hx.1 hq
            have ht : x.tmod 4 = x % 4 := Int.tmod_eq_emod_of_nonneg hx.1
            have HT : Hid (x.tmod 4 = (q : Int) ∧ 0 ≤ x ∧ x < 4096) := ⟨by rw [ht, hq], hx⟩
            clear H2 ht hq hx
            by_cases hqs : q = s
            · subst hqs
              obtain ⟨am, eam⟩ : ∃ am, am = decide (x ∈ ws.take j) := ⟨_, rfl⟩
              rw [← eam] at H3
              have HAM : Hid (am = decide (x ∈ ws.take j)) := eam
              have f2 : ((q : Int) != (q : Int)) = false := by simp
              clear eam
              go_wp2_with fail
              refine H1.out.mono ?_
              rintro e w1 ⟨rfl, rfl⟩
              clear H1
              go_wp2_with fail
              refine H2'.out.mono ?_
              rintro e w1 ⟨rfl, rfl⟩
              clear H2'
              go_wp2_with fail
              refine H3.out.mono ?_
              rintro e w1 ⟨rfl, rfl⟩
              clear H3
              cases am with
              | true =>
                have HE : Hid (¬ (n ≤ 2 ∧ okRow q ws n)) := HB.out fun h => h.2.2.2 (of_decide_eq_true HAM.out.symm)
                clear HB
                go_wp2
                go_ret
                exact ⟨says_false HE.out, rfl⟩
              | false =>
                have HE : Hid (okRow q ws (j + 1)) := fun i hi z hz => by
                  by_cases e : i = j
                  · subst e
                    rw [HX.out] at hz
                    cases hz
                    exact ⟨HT.out.2.1, HT.out.2.2, HT.out.1, of_decide_eq_false HAM.out.symm⟩
                  · exact HO.out i (by omega) z hz
                clear HB
                go_wp2
                go_roundw
                case rel => exact ⟨j + 1, by omega, by go_num, trivial, HE.out⟩
                case measure => simp [intOf]; omega
            · have f2 : ((q : Int) != (s : Int)) = true := by simp; omega
              have HE : Hid (¬ (n ≤ 2 ∧ okRow s ws n)) := HB.out fun h => by have := HT.out.1; have := h.2.2.1; omega
              clear HB H3 hqs
              go_wp2_with fail
              refine H1.out.mono ?_
              rintro e w1 ⟨rfl, rfl⟩
              clear H1
              go_wp2_with fail
              refine H2'.out.mono ?_
              rintro e w1 ⟨rfl, rfl⟩
              clear H2'
              go_wp2
              go_ret
              exact ⟨says_false HE.out, rfl⟩
          · rw [decide_eq_false hx] at H1
            have HE : Hid (¬ (n ≤ 2 ∧ okRow s ws n)) := HB.out fun h => hx ⟨h.1, h.2.1⟩
            clear HB H2 H3 hx
            go_wp2_with fail
            refine H1.out.mono ?_
            rintro e w1 ⟨rfl, rfl⟩
            clear H1
            go_wp2
            go_ret
            exact ⟨says_false HE.out, rfl⟩
      · obtain rfl : j = n := by omega
        have HE : Hid (j ≤ 2 ∧ okRow s ws j) := ⟨by omega, HO.out⟩
        go_wp2
        go_ret
        exact ⟨says_true HE.out, rfl⟩
  · have HE : Hid (¬ (n ≤ 2 ∧ okRow s ws n)) := fun h => hl (by omega)
    have hgt : (n : Int) > 2 := by omega
    go_enter Try.func54, Try.ntmps54
    go_wp2
    go_ret
    exact ⟨says_false HE.out, rfl⟩

end Go.Proofs.Ytajhkilclmicjaa
