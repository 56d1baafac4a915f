import Derived.Test.YtnkfdmlpjgmckaaT
namespace Go.Proofs.Ytnkfdmlpjgmckaa
open Go.RowKit
set_option linter.unusedVariables false
set_option maxRecDepth 6000

theorem planNames_any (w : World) : Calls Try.prog 3 #[] w fun e w' => e = .returned (.bool true) ∧ Keeps (fun _ => False) w w' := by
  go_enter Try.func3, Try.ntmps3
  go_wp2_with fail
  refine (awake_any w).mono ?_
  rintro e w1 ⟨rfl, hK⟩
  have HK : Hid (Keeps (fun _ => False) w w1) := hK
  clear hK
  go_wp2
  go_ret
  exact ⟨rfl, HK.out⟩

set_option maxHeartbeats 2000000 in
theorem planTimes_any (x : Cfg) (k t : Int) (w : World) (N : Nat) (hi : x.In w N) (hN : N ≤ w.heap.size) :
    Calls Try.prog 4 #[x.v, .int .i64 k, .int .i64 t] w fun e w' => e = .returned (.bool true) ∧ Keeps (fun _ => False) w w' := by
  obtain ⟨W, hW⟩ : ∃ W, W = x.laid w := ⟨_, rfl⟩
  obtain ⟨C, hC⟩ : ∃ C, C = w.heap.size := ⟨_, rfl⟩
  have HO : Hid (One w x C N W) := by rw [hW, hC]; exact One.mk' hi hN
  clear hi hN
  unfold Cfg.laid at hW
  go_enter Try.func4, Try.ntmps4
  go_wp2_with fail
  rw [← hW, ← hC]
  clear hW hC
  refine (vast_any x W N HO.out.cin HO.out.nn).mono ?_
  rintro e w1 ⟨b, rfl, hK, _⟩
  have HO1 : Hid (One w x C N w1) := HO.out.kept hK
  clear hK HO
  cases b with
  | true =>
    go_wp2
    go_ret
    exact ⟨rfl, HO1.out.keeps⟩
  | false =>
    obtain ⟨c0, c1, c2, c3, c4, c5, c6⟩ := HO1.out.cells
    go_wp2_with fail
    refine (at_any x k t w1 N HO1.out.cin HO1.out.nn).mono ?_
    rintro e w2 ⟨pl, er, rfl, hR, hK⟩
    have HO2 : Hid (One w x C N w2 ∧ AtR x k t pl er) := ⟨HO1.out.kept hK, hR⟩
    clear hK hR c0 c1 c2 c3 c4 c5 c6
    obtain ⟨D, hD⟩ : ∃ D, D = w2.heap.size := ⟨_, rfl⟩
    obtain ⟨W2, hW2⟩ : ∃ W2, W2 = w2.alloc (.cells #[.int .i64 pl.win, .int .i64 pl.part, .int .i64 pl.off, .int .i64 pl.fin] 30) := ⟨_, rfl⟩
    have HW2 : Hid (One w x C N W2 ∧ Blk W2 D pl.vs 30) := by rw [hW2, hD]; exact ⟨HO2.out.1.kept ((Keeps.refl _ _).alloc _), Blk.new _ _ _⟩
    go_upto_region 4 with fail
    rw [← hW2, ← hD]
    clear hW2 hD
    obtain ⟨c0, c1, c2, c3, c4, c5, c6⟩ := HW2.out.1.cells
    go_wp2_with fail
    refine (rat_any x k t W2 N HW2.out.1.cin HW2.out.1.nn).mono ?_
    rintro e w3 ⟨pl', er', rfl, hR, hK⟩
    obtain ⟨rfl, rfl⟩ := HO2.out.2.unique hR
    have HO3 : Hid (One w x C N w3 ∧ Blk w3 D pl.vs 30) := ⟨HW2.out.1.kept hK, HW2.out.2.kept hK fun h => h⟩
    clear hK hR c0 c1 c2 c3 c4 c5 c6
    obtain ⟨D', hD'⟩ : ∃ D, D = w3.heap.size := ⟨_, rfl⟩
    obtain ⟨W3, hW3⟩ : ∃ W3, W3 = w3.alloc (.cells #[.int .i64 pl.win, .int .i64 pl.part, .int .i64 pl.off, .int .i64 pl.fin] 30) := ⟨_, rfl⟩
    have HW3 : Hid (Keeps (fun _ => False) w W3 ∧ Blk W3 D pl.vs 30 ∧ Blk W3 D' pl.vs 30) := by rw [hW3, hD']; exact ⟨HO3.out.1.keeps.alloc _, HO3.out.2.alloc _, Blk.new _ _ _⟩
    go_upto_region 5 with fail
    rw [← hW3, ← hD']
    clear hW3 hD'
    have d0 := HW3.out.2.1.cell (i := 0) rfl
    have d1 := HW3.out.2.1.cell (i := 1) rfl
    have d2 := HW3.out.2.1.cell (i := 2) rfl
    have d3 := HW3.out.2.1.cell (i := 3) rfl
    have f0 := HW3.out.2.2.cell (i := 0) rfl
    have f1 := HW3.out.2.2.cell (i := 1) rfl
    have f2 := HW3.out.2.2.cell (i := 2) rfl
    have f3 := HW3.out.2.2.cell (i := 3) rfl
    go_wp2_with fail
    refine (awake_any W3).mono ?_
    rintro e w4 ⟨rfl, hK⟩
    have HK : Hid (Keeps (fun _ => False) w w4) := HW3.out.1.trans hK fun _ _ h => h
    clear hK d0 d1 d2 d3 f0 f1 f2 f3
    go_wp2
    go_ret
    exact ⟨rfl, HK.out⟩
end Go.Proofs.Ytnkfdmlpjgmckaa
