import Derived.Test.YtajhkilclmicjaaEb
import Derived.Test.YtajhkilclmicjaaCp
namespace Go.Proofs.Ytajhkilclmicjaa
open Go.RowKit Go.Shelf
set_option linter.unusedVariables false
set_option linter.unusedSimpArgs false
set_option maxRecDepth 6000

/-- How many numbers stand in the first lists. -/
def tot (lls : List (List Int)) (j : Nat) : Nat := (lls.take j).flatten.length
theorem tot_succ {lls : List (List Int)} {j : Nat} {l : List Int} (h : lls[j]? = some l) : tot lls (j + 1) = tot lls j + l.length := by
  unfold tot; rw [flatten_take h, List.length_append]
theorem tot_le (lls : List (List Int)) (j : Nat) : tot lls j ≤ tot lls lls.length := by
  unfold tot
  rw [List.take_length, ← List.take_append_drop j lls, List.flatten_append, List.length_append]
  have e : List.take j (List.take j lls ++ List.drop j lls) = List.take j lls := by rw [List.take_append_drop]
  rw [e]
  omega
theorem tot_one {lls : List (List Int)} {j : Nat} {l : List Int} (h : lls[j]? = some l) : l.length ≤ tot lls lls.length := by
  have := tot_succ h; have := tot_le lls (j + 1); omega

/-- What vast tells. -/
def VastP (lls : List (List Int)) (r : Ending) : Prop := ∃ b : Bool, r = .returned (.bool b) ∧ (b = false → lls.length ≤ 2147483647 ∧ tot lls lls.length ≤ 2147483647)

set_option maxHeartbeats 1000000 in
theorem vast_any (a : Option Addr) (lls : List (List Int)) (cap : Nat) (w : World) (hs : SegL w a lls) (hm : (lls.length : Int) ≤ 9223372036854775807) :
    Calls Try.prog 29 #[.slice a lls.length cap] w fun r w' => VastP lls r ∧ w' = w := by
  obtain ⟨n, en⟩ : ∃ n, n = lls.length := ⟨_, rfl⟩
  rw [← en] at hm ⊢
  have HS : Hid (SegL w a lls ∧ n = lls.length) := ⟨hs, en⟩
  clear hs en
  by_cases hn : (n : Int) ≤ 2147483647
  · go_enter Try.func29, Try.ntmps29
    go_wp2
    go_loopw [3, 11] (fun v i wr => ∃ j : Nat, j ≤ n ∧ i = .int .i64 j ∧ v = .int .i64 (2147483647 - (tot lls j : Nat)) ∧ tot lls j ≤ 2147483647 ∧ wr = w) (fun _ i _ => n - (intOf i).toNat)
    case atStart => exact ⟨0, by omega, rfl, by simp [tot], by simp [tot], rfl⟩
    case round =>
      obtain ⟨j, hj, rfl, rfl, ht, hw⟩ := hrel
      obtain rfl := hw.symm
      clear hw
      by_cases hlt : j < n
      · obtain ⟨l, hl⟩ : ∃ l, lls[j]? = some l := ⟨_, List.getElem?_eq_getElem (by have := HS.out.2; omega)⟩
        rcases HS.out.1 with h0 | ⟨G, O, rfl, hc⟩
        · rw [h0] at hl; simp at hl
        obtain ⟨x, c, hcell, hseg, hlc, hlm⟩ := hc j l hl
        have hts := tot_succ hl
        have hji : (j : Int) < n := by omega
        have HN : Hid (tot lls (j + 1) = tot lls j + l.length) := hts
        obtain ⟨T, eT⟩ : ∃ T, T = tot lls j := ⟨_, rfl⟩
        obtain ⟨m, em⟩ : ∃ m, m = l.length := ⟨_, rfl⟩
        rw [← em] at hcell hlm HN
        rw [← eT] at ht HN ⊢
        have htz : (T : Int) ≤ 2147483647 := by omega
        clear hl hc hseg hlc hts em eT
        by_cases hgt : (m : Int) > 2147483647 - (T : Int)
        · go_wp2
          go_ret
          exact ⟨⟨true, rfl, fun h => by cases h⟩, rfl⟩
        · go_wp2
          go_roundw
          case rel => exact ⟨j + 1, by omega, by go_num, by rw [HN.out]; go_num, by rw [HN.out]; omega, trivial⟩
          case measure => simp [intOf]; omega
      · obtain rfl : j = n := by omega
        have HE : Hid (lls.length ≤ 2147483647 ∧ tot lls lls.length ≤ 2147483647) := by
          rw [← HS.out.2]
          exact ⟨by omega, ht⟩
        clear ht
        go_wp2
        go_ret
        exact ⟨⟨false, rfl, fun _ => HE.out⟩, rfl⟩
  · have hgt : (n : Int) > 2147483647 := by omega
    go_enter Try.func29, Try.ntmps29
    go_wp2
    go_ret
    exact ⟨⟨true, rfl, fun h => by cases h⟩, rfl⟩

set_option maxRecDepth 20000 in
set_option maxHeartbeats 4000000 in
theorem same_all (a1 a2 : Option Addr) (lls : List (List Int)) (p1 p2 : Nat) (w : World) (h1 : SegL w a1 lls) (h2 : SegL w a2 lls) (hm : (lls.length : Int) ≤ 2147483647) :
    Calls Try.prog 13 #[.slice a1 lls.length p1, .slice a2 lls.length p2] w fun e w' => e = .returned (.bool true) ∧ Keeps (fun _ => False) w w' := by
  obtain ⟨N, eN⟩ : ∃ N, N = lls.length := ⟨_, rfl⟩
  rw [← eN] at hm ⊢
  have HS : Hid (SegL w a1 lls ∧ SegL w a2 lls ∧ N = lls.length) := ⟨h1, h2, eN⟩
  clear h1 h2 eN
  go_enter Try.func13, Try.ntmps13
  go_wp2
  go_loopw [14] (fun i wr => ∃ j : Nat, j ≤ N ∧ i = .int .i64 j ∧ Keeps (fun _ => False) w wr) (fun i _ => N - (intOf i).toNat)
  case atStart => exact ⟨0, by omega, rfl, Keeps.refl _ _⟩
  case round =>
    obtain ⟨j, hj, rfl, hK⟩ := hrel
    by_cases hlt : j < N
    · obtain ⟨l, hl⟩ : ∃ l, lls[j]? = some l := ⟨_, List.getElem?_eq_getElem (by have := HS.out.2.2; omega)⟩
      rcases HS.out.1.kept hK with h0 | ⟨G1, O1, rfl, hc1⟩
      · rw [h0] at hl; simp at hl
      rcases HS.out.2.1.kept hK with h0 | ⟨G2, O2, rfl, hc2⟩
      · rw [h0] at hl; simp at hl
      obtain ⟨x1, c1, cu, hs1, _, hlm⟩ := hc1 j l hl
      obtain ⟨x2, c2, cv, hs2, _, _⟩ := hc2 j l hl
      obtain ⟨n, hn⟩ : ∃ n, n = l.length := ⟨_, rfl⟩
      rw [← hn] at cu cv hlm
      have hjn : (j : Int) < N := by omega
      have HJ : Hid (j < N ∧ n = l.length ∧ SegI wr x1 l ∧ SegI wr x2 l ∧ Keeps (fun _ => False) w wr ∧ wr.cell? ⟨G1, O1 + j, none⟩ = some (.slice x1 n c1) ∧ wr.cell? ⟨G2, O2 + j, none⟩ = some (.slice x2 n c2)) := ⟨hlt, hn, hs1, hs2, hK, cu, cv⟩
      clear hc1 hc2 hs1 hs2 hn hlt hj hK hl
      obtain ⟨wo, hwo⟩ : ∃ wo, wo = wr := ⟨_, rfl⟩
      subst hwo
      go_wp2
      go_quiet (fail)
      go_wp2
      clear cu cv
      go_loopw [33] (fun i wq => ∃ m : Nat, m ≤ n ∧ i = .int .i64 m ∧ Keeps (fun _ => False) wo wq) (fun i _ => n - (intOf i).toNat)
      case atStart => exact ⟨0, by omega, rfl, (Keeps.refl _ wo).drewN _⟩
      case round =>
        obtain ⟨m, hm', rfl, hKm⟩ := hrel
        obtain ⟨hlt, hn, g1, g2, g3, g4, g5⟩ := HJ.out
        by_cases hmn : m < n
        · have hmu : m < l.length := by omega
          have cu := cell_kept g4 hKm fun h => h
          have cv := cell_kept g5 hKm fun h => h
          rcases g1.kept hKm fun _ _ h => h with h0 | ⟨b1, o1, e1, hc1⟩
          · exact absurd hmu (by rw [h0]; simp)
          · rcases g2.kept hKm fun _ _ h => h with h0 | ⟨b2, o2, e2, hc2⟩
            · exact absurd hmu (by rw [h0]; simp)
            · have k1 := hc1 m hmu
              have k2 := hc2 m hmu
              rw [e1] at cu
              rw [e2] at cv
              obtain ⟨x, hxx⟩ : ∃ x, x = l[m]'hmu := ⟨_, rfl⟩
              rw [← hxx] at k1 k2
              have hmz : (m : Int) < n := by omega
              have HM : Hid (m < n ∧ Keeps (fun _ => False) wo wr) := ⟨hmn, hKm⟩
              clear hc1 hc2 hxx hmu hmn hm' hlt hn g1 g2 g3 g4 g5 hKm
              go_wp2
              go_quiet (fail)
              go_wp2
              go_roundw
              case rel => exact ⟨m + 1, by have := HM.out.1; omega, by go_num, HM.out.2.drewN _⟩
              case measure => have := HM.out.1; simp [intOf]; omega
        · obtain rfl : m = n := by omega
          have HQ : Hid (Keeps (fun _ => False) w wr ∧ j < N) := ⟨g3.trans hKm fun _ _ h => h, hlt⟩
          clear hm' hmn hlt hn g1 g2 g3 g4 g5 hKm
          go_wp2
          go_roundw
          case rel => exact ⟨j + 1, by have := HQ.out.2; omega, by go_num, HQ.out.1⟩
          case measure => have := HQ.out.2; simp [intOf]; omega
    · obtain rfl : j = N := by omega
      have HK : Hid (Keeps (fun _ => False) w wr) := hK
      clear hK
      go_wp2
      go_ret
      exact ⟨rfl, HK.out⟩

end Go.Proofs.Ytajhkilclmicjaa
