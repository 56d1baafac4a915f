import Derived.Test.YtajhkilclmicjaaRt
namespace Go.Proofs.Ytajhkilclmicjaa
open Go.RowKit Go.Shelf
set_option linter.unusedVariables false

set_option maxRecDepth 20000 in
set_option maxHeartbeats 4000000 in
theorem same_any (G1 G2 : Nat) (vs1 vs2 : Nat → Value) (ls : Nat → List Int) (p1 p2 : Nat) (w : World) (h1 : Lst w G1 vs1 ls) (h2 : Lst w G2 vs2 ls) (h3 : ∀ i, i < 4 → (ls i).length ≤ 2) :
    Calls Try.prog 13 #[.slice (some ⟨G1, 0, none⟩) 4 p1, .slice (some ⟨G2, 0, none⟩) 4 p2] w fun e w' => e = .returned (.bool true) ∧ Keeps (fun _ => False) w w' := by
  have HS : Hid (Lst w G1 vs1 ls ∧ Lst w G2 vs2 ls ∧ ∀ i, i < 4 → (ls i).length ≤ 2) := ⟨h1, h2, h3⟩
  clear h1 h2 h3
  go_enter Try.func13, Try.ntmps13
  go_wp2
  go_loopw [14] (fun i wr => ∃ j : Nat, j ≤ 4 ∧ i = .int .i64 j ∧ Keeps (fun _ => False) w wr) (fun i _ => 4 - (intOf i).toNat)
  case atStart => exact ⟨0, by omega, rfl, Keeps.refl _ _⟩
  case round =>
    obtain ⟨j, hj, rfl, hK⟩ := hrel
    by_cases hlt : j < 4
    · have l1 := HS.out.1.kept hK
      have l2 := HS.out.2.1.kept hK
      have cu := l1.cell j hlt
      have cv := l2.cell j hlt
      obtain ⟨a1, c1, hv1, hs1, _⟩ := l1.seg j hlt
      obtain ⟨a2, c2, hv2, hs2, _⟩ := l2.seg j hlt
      rw [hv1] at cu
      rw [hv2] at cv
      obtain ⟨n, hn⟩ : ∃ n, n = (ls j).length := ⟨_, rfl⟩
      rw [← hn] at cu cv
      have hnz : (n : Int) ≤ 2 := by have := HS.out.2.2 j hlt; omega
      have hjn : (j : Int) < 4 := by omega
      have HJ : Hid (j < 4 ∧ n = (ls j).length ∧ SegI wr a1 (ls j) ∧ SegI wr a2 (ls j) ∧ Keeps (fun _ => False) w wr ∧ wr.cell? ⟨G1, j, none⟩ = some (.slice a1 n c1) ∧ wr.cell? ⟨G2, j, none⟩ = some (.slice a2 n c2)) := ⟨hlt, hn, hs1, hs2, hK, cu, cv⟩
      clear l1 l2 hv1 hv2 hs1 hs2 hn hlt hj hK
      obtain ⟨wo, hwo⟩ : ∃ wo, wo = wr := ⟨_, rfl⟩
      subst hwo
      go_wp2
      go_quiet (fail)
      go_wp2
      clear cu cv
      go_loopw [33] (fun i wq => ∃ m : Nat, m ≤ n ∧ i = .int .i64 m ∧ Keeps (fun _ => False) wo wq) (fun i _ => n - (intOf i).toNat)
      case atStart => exact ⟨0, by omega, rfl, (Keeps.refl _ wo).drewN _⟩
      case round =>
        obtain ⟨m, hm, rfl, hKm⟩ := hrel
        obtain ⟨hlt, hn, g1, g2, g3, g4, g5⟩ := HJ.out
        by_cases hmn : m < n
        · have hmu : m < (ls j).length := by omega
          have cu := cell_kept g4 hKm fun h => h
          have cv := cell_kept g5 hKm fun h => h
          rcases g1.kept hKm fun _ _ h => h with h0 | ⟨b1, o1, e1, hc1⟩
          · exact absurd hmu (by rw [h0]; simp)
          · rcases g2.kept hKm fun _ _ h => h with h0 | ⟨b2, o2, e2, hc2⟩
            · exact absurd hmu (by rw [h0]; simp)
            · have k1 := hc1 m hmu
              have k2 := hc2 m hmu
              rw [e1] at cu
              rw [e2] at cv
              obtain ⟨x, hxx⟩ : ∃ x, x = (ls j)[m]'hmu := ⟨_, rfl⟩
              rw [← hxx] at k1 k2
              have hmz : (m : Int) < n := by omega
              have HM : Hid (m < n ∧ Keeps (fun _ => False) wo wr) := ⟨hmn, hKm⟩
              clear hc1 hc2 hxx hmu hmn hm hlt hn g1 g2 g3 g4 g5 hKm
              go_wp2
              go_quiet (fail)
              go_wp2
              go_roundw
              case rel => exact ⟨m + 1, by have := HM.out.1; omega, by go_num, HM.out.2.drewN _⟩
              case measure => have := HM.out.1; simp [intOf]; omega
        · obtain rfl : m = n := by omega
          have HQ : Hid (Keeps (fun _ => False) w wr ∧ j < 4) := ⟨g3.trans hKm fun _ _ h => h, hlt⟩
          clear hm hmn hlt hn g1 g2 g3 g4 g5 hKm
          go_wp2
          go_roundw
          case rel => exact ⟨j + 1, by have := HQ.out.2; omega, by go_num, HQ.out.1⟩
          case measure => have := HQ.out.2; simp [intOf]; omega
    · obtain rfl : j = 4 := by omega
      have HK : Hid (Keeps (fun _ => False) w wr) := hK
      clear hK
      go_wp2
      go_ret
      exact ⟨rfl, HK.out⟩

end Go.Proofs.Ytajhkilclmicjaa
