import Derived.Test.YtnkfdmlpjgmckaaT
namespace Go.Proofs.Ytnkfdmlpjgmckaa
open Go.RowKit
set_option linter.unusedVariables false
set_option maxRecDepth 6000

theorem rpartition_any (x : Cfg) (p : Int) (w : World) :
    Calls Try.prog 36 #[x.v, .int .i64 p] w fun e w' => e = .returned (.bool (decide (0 ≤ p) && decide (p < x.ps.length))) ∧ Keeps (fun _ => False) w w' := by
  go_enter Try.func36, Try.ntmps36
  by_cases h1 : 0 ≤ p
  · have e1 : decide (0 ≤ p) = true := by simp [h1]
    go_wp2
    go_ret
    refine ⟨?_, (Keeps.refl _ _).alloc _⟩
    simp [h1]
  · have e1 : decide (0 ≤ p) = false := by simp [h1]
    go_wp2
    go_ret
    refine ⟨?_, (Keeps.refl _ _).alloc _⟩
    simp

set_option maxHeartbeats 1000000 in
theorem rall_any (x : Cfg) (w : World) (N : Nat) (hi : x.In w N) (hN : N ≤ w.heap.size) :
    Calls Try.prog 37 #[x.v] w fun e w' => e = .returned (.bool (allMay x.cs)) ∧ Keeps (fun _ => False) w w' := by
  obtain ⟨W, hW⟩ : ∃ W, W = x.laid w := ⟨_, rfl⟩
  obtain ⟨C, hC⟩ : ∃ C, C = w.heap.size := ⟨_, rfl⟩
  have HO : Hid (One w x C N W) := by rw [hW, hC]; exact One.mk' hi hN
  have hcc : (x.cs.length : Int) ≤ x.cc ∧ (x.cc : Int) ≤ 9223372036854775807 := by have := hi.clen; unfold maxLen at this; omega
  clear hi hN
  unfold Cfg.laid at hW
  go_enter Try.func37, Try.ntmps37
  go_upto_region 1 with fail
  rw [← hW, ← hC]
  clear hW hC
  go_wp2
  go_loopw [3] (fun i wr => ∃ j : Nat, j ≤ x.cs.length ∧ i = .int .i64 j ∧ allMay (x.cs.take j) = true ∧ One w x C N wr) (fun i _ => x.cs.length - (intOf i).toNat)
  case atStart => exact ⟨0, by omega, rfl, rfl, HO.out⟩
  case round =>
    obtain ⟨j, hj, rfl, hall, hO⟩ := hrel
    clear HO
    have c4 := hO.cells.2.2.2.2.1
    by_cases hlt : j < x.cs.length
    · obtain ⟨X, hX⟩ : ∃ X, x.cs[j]? = some X := ⟨_, List.getElem?_eq_getElem hlt⟩
      obtain ⟨g, o, ha, hc⟩ := hO.cin.core hX
      have HX := hO.cin.cin X (List.mem_of_getElem? hX)
      have HC : Hid (Calls Try.prog 33 #[X.v] wr fun e w' => e = .returned (.bool (may X.ws)) ∧ w' = wr) := rmay_any X.a X.c X.ws wr HX.seg HX.len
      have HK : Hid (One w x C N wr ∧ x.cs[j]? = some X ∧ allMay (x.cs.take j) = true) := ⟨hO, hX, hall⟩
      have hlt' : (j : Int) < x.cs.length := by omega
      clear hO hX hall HX
      rw [ha] at c4
      go_wp2_with fail
      refine HC.out.mono ?_
      rintro e w1 ⟨rfl, hw⟩
      obtain rfl := hw
      clear hc c4
      obtain ⟨b, hb⟩ : ∃ b, may X.ws = b := ⟨_, rfl⟩
      rw [hb]
      have HB : Hid (may X.ws = b) := hb
      clear hb HC
      cases b with
      | false =>
        go_wp2
        go_ret
        rw [allMay_false HK.out.2.1 HB.out]
        exact ⟨rfl, HK.out.1.keeps⟩
      | true =>
        go_wp2
        go_roundw
        case rel => exact ⟨j + 1, by omega, by go_num, allMay_take HK.out.2.1 HK.out.2.2 HB.out, HK.out.1⟩
        case measure => simp [intOf]; omega
    · obtain hjl : j = x.cs.length := by omega
      have hlt' : ¬ (j : Int) < x.cs.length := by omega
      have HK : Hid (One w x C N wr ∧ allMay (x.cs.take j) = true ∧ j = x.cs.length) := ⟨hO, hall, hjl⟩
      clear hO hall hjl
      go_wp2
      go_ret
      have := HK.out.2.1
      rw [List.take_of_length_le (by rw [HK.out.2.2]; exact Nat.le_refl _)] at this
      rw [this]
      exact ⟨rfl, HK.out.1.keeps⟩
end Go.Proofs.Ytnkfdmlpjgmckaa
