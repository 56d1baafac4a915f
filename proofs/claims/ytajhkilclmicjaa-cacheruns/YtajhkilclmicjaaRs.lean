import Derived.Test.YtajhkilclmicjaaRe
namespace Go.Proofs.Ytajhkilclmicjaa
open Go.RowKit Go.Shelf
set_option linter.unusedVariables false

theorem SegI.take {w : World} {a : Option Addr} {ws : List Int} (h : SegI w a ws) (j : Nat) : SegI w a (ws.take j) := by
  rcases h with h | ⟨g, o, ha, hc⟩
  · exact .inl (by rw [h]; simp)
  · refine .inr ⟨g, o, ha, fun i hi => ?_⟩
    rw [List.length_take] at hi
    rw [List.getElem_take]
    exact hc i (by omega)

set_option maxHeartbeats 1000000 in
theorem fits_any (s : Nat) (a : Option Addr) (n c : Nat) (ws : List Int) (w : World) (hs : SegI w a ws) (hn : n = ws.length) (hl : n ≤ 2) (hc : n ≤ c) (hnd : ws.Nodup) (hg : ∀ z ∈ ws, 0 ≤ z ∧ z < 4096 ∧ z % 4 = (s : Int)) :
    Calls Try.prog 54 #[.int .i64 s, .slice a n c] w fun e w' => e = .returned (.bool true) ∧ w' = w := by
  have HS : Hid (SegI w a ws ∧ n = ws.length ∧ ws.Nodup ∧ (∀ z ∈ ws, 0 ≤ z ∧ z < 4096 ∧ z % 4 = (s : Int)) ∧ n ≤ c) := ⟨hs, hn, hnd, hg, hc⟩
  have hl2 : (n : Int) ≤ 2 := by omega
  have hcz : (n : Int) ≤ c := by omega
  clear hs hn hl hnd hg hc
  go_enter Try.func54, Try.ntmps54
  go_wp2
  go_loopw [12] (fun i wr => ∃ j : Nat, j ≤ n ∧ i = .int .i64 j ∧ wr = w) (fun i _ => n - (intOf i).toNat)
  case atStart => exact ⟨0, by omega, rfl, rfl⟩
  case round =>
    obtain ⟨j, hj, rfl, rfl⟩ := hrel
    by_cases hlt : j < n
    · have hju : j < ws.length := by have := HS.out.2.1; omega
      obtain ⟨e1, e2, e3, e4, e5⟩ := HS.out
      have hx := e4 _ (List.getElem_mem hju)
      have hnt : ws[j]'hju ∉ ws.take j := by
        intro hm
        obtain ⟨i, hi, he⟩ := List.getElem_of_mem hm
        rw [List.getElem_take] at he
        rw [List.length_take] at hi
        have := (List.getElem_inj (h₀ := by omega) (h₁ := hju) e3).1 he
        omega
      have htl : j = (ws.take j).length := by rw [List.length_take]; omega
      have H3 : Hid (Calls _ _ _ _ _) := contains_out a j c (ws.take j) _ wr (e1.take j) htl (by omega) hnt
      have H1 : Hid (Calls _ _ _ _ _) := isLine_in _ wr hx.1 hx.2.1
      have H2 : Hid (Calls _ _ _ _ _) := setOf_z _ s wr hx.1 hx.2.2
      rcases e1 with h0 | ⟨b, o, rfl, hcell⟩
      · exact absurd hju (by rw [h0]; simp)
      · have cu := hcell j hju
        obtain ⟨x, hxx⟩ : ∃ x, x = ws[j]'hju := ⟨_, rfl⟩
        rw [← hxx] at cu H1 H2 H3
        have hjn : (j : Int) < n := by omega
        have hjc : (j : Int) ≤ c := by omega
        have HJ : Hid (j < n) := hlt
        clear hju hcell hxx hx hnt htl e2 e3 e4 e5 hj hlt
        go_wp2_with fail
        refine H1.out.mono ?_
        rintro e w1 ⟨rfl, rfl⟩
        clear H1
        go_wp2_with fail
        refine H2.out.mono ?_
        rintro e w1 ⟨rfl, rfl⟩
        clear H2
        go_wp2_with fail
        refine H3.out.mono ?_
        rintro e w1 ⟨rfl, rfl⟩
        clear H3
        go_wp2
        go_roundw
        case rel => exact ⟨j + 1, by have := HJ.out; omega, by go_num, trivial⟩
        case measure => have := HJ.out; simp [intOf]; omega
    · obtain rfl : j = n := by omega
      go_wp2
      go_ret
      exact ⟨rfl, rfl⟩

set_option maxHeartbeats 1000000 in
theorem canBe_any (G : Nat) (vs : Nat → Value) (ls : Nat → List Int) (cap : Nat) (w : World) (h : Lst w G vs ls) (h2 : ∀ i, i < 4 → (ls i).length ≤ 2 ∧ (ls i).Nodup) (hg : Good ls) :
    Calls Try.prog 38 #[.slice (some ⟨G, 0, none⟩) 4 cap] w fun e w' => e = .returned (.bool true) ∧ w' = w := by
  have HS : Hid (Lst w G vs ls ∧ (∀ i, i < 4 → (ls i).length ≤ 2 ∧ (ls i).Nodup) ∧ Good ls) := ⟨h, h2, hg⟩
  clear h h2 hg
  go_enter Try.func38, Try.ntmps38
  go_wp2
  go_loopw [13] (fun i wr => ∃ j : Nat, j ≤ 4 ∧ i = .int .i64 j ∧ wr = w) (fun i _ => 4 - (intOf i).toNat)
  case atStart => exact ⟨0, by omega, rfl, rfl⟩
  case round =>
    obtain ⟨j, hj, rfl, rfl⟩ := hrel
    by_cases hlt : j < 4
    · obtain ⟨e1, e2, e3⟩ := HS.out
      have cu := e1.cell j hlt
      obtain ⟨a, c, hv, hs, hc⟩ := e1.seg j hlt
      have H1 : Hid (Calls _ _ _ _ _) := fits_any j a (ls j).length c (ls j) wr hs rfl (e2 j hlt).1 hc (e2 j hlt).2 (e3 j hlt)
      rw [hv] at cu
      obtain ⟨n, hn⟩ : ∃ n, n = (ls j).length := ⟨_, rfl⟩
      rw [← hn] at cu H1
      have hjn : (j : Int) < 4 := by omega
      have HJ : Hid (j < 4) := hlt
      clear e1 e2 e3 hv hs hc hn hlt hj
      go_wp2_with fail
      refine H1.out.mono ?_
      rintro e w1 ⟨rfl, rfl⟩
      clear H1
      go_wp2
      go_roundw
      case rel => exact ⟨j + 1, by have := HJ.out; omega, by go_num, trivial⟩
      case measure => have := HJ.out; simp [intOf]; omega
    · obtain rfl : j = 4 := by omega
      go_wp2
      go_ret
      exact ⟨rfl, rfl⟩

set_option maxHeartbeats 1000000 in
theorem flush_walk (c : Nat) (s : Nat → Nat) (w : World) (Q : Nat → World → Prop) (hc : ∀ i, i < 4 → w.cell? ⟨c, i, none⟩ = some (ptr (s i))) (h0 : Q 0 w)
    (HC : Hid (∀ i, i < 4 → ∀ w, Q i w → Calls Try.prog 42 #[ptr (s i)] w fun r w' => r = .returned (.tuple #[]) ∧ Q (i + 1) w')) :
    Calls Try.prog 27 #[ptr c] w fun e w' => e = .returned (.tuple #[]) ∧ Q 4 w' := by
  have c0 := hc 0 (by omega)
  have c1 := hc 1 (by omega)
  have c2 := hc 2 (by omega)
  have c3 := hc 3 (by omega)
  have H0 : Hid (Q 0 w) := h0
  clear hc h0
  go_enter Try.func27, Try.ntmps27
  go_wp2
  clear c0 c1 c2 c3
  go_loopw [10] (fun i wr => ∃ j : Nat, j ≤ 4 ∧ i = .int .i64 j ∧ Q j wr) (fun i _ => 4 - (intOf i).toNat)
  case atStart => exact ⟨0, by omega, rfl, H0.out⟩
  case round =>
    obtain ⟨j, hj, rfl, hq⟩ := hrel
    by_cases hlt : j < 4
    · have hidx := index4 s j hlt wr
      have H1 : Hid (Calls _ _ _ _ _) := HC.out j hlt wr hq
      have hjn : (j : Int) < 4 := by omega
      have HJ : Hid (j < 4) := hlt
      clear hq hlt hj H0
      go_wp2_with fail
      refine H1.out.mono ?_
      rintro e w1 ⟨rfl, hq⟩
      have HQ : Hid (Q (j + 1) w1) := hq
      clear H1 hq hidx
      go_wp2
      go_roundw
      case rel => exact ⟨j + 1, by have := HJ.out; omega, by go_num, HQ.out⟩
      case measure => have := HJ.out; simp [intOf]; omega
    · obtain rfl : j = 4 := by omega
      have HQ : Hid (Q 4 wr) := hq
      clear hq H0
      go_wp2
      go_end0
      exact ⟨rfl, HQ.out⟩

end Go.Proofs.Ytajhkilclmicjaa
