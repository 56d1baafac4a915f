import Derived.Test.YtajhkilclmicjaaEe
import Derived.Test.YtajhkilclmicjaaDh
namespace Go.Proofs.Ytajhkilclmicjaa
open Go.RowKit Go.Shelf
set_option linter.unusedVariables false
set_option linter.unusedSimpArgs false
set_option maxRecDepth 6000

/-! ### The walks through one: by what the calls do -/
set_option maxHeartbeats 1000000 in
theorem one_touch (c b : Value) (z o n e : Int) (a : Option Addr) (L cap : Nat) (w : World) (D : Nat → Prop) (R1 Q : World → Prop) (hD : ∀ k, D k → k < w.heap.size)
    (H1 : Hid (∀ w1, Keeps (fun _ => False) w w1 → Calls Try.prog 16 #[c, .int .i64 z] w1 fun r w2 => r = .returned (.tuple #[.int .i64 n, .int .i64 e]) ∧ Keeps D w1 w2 ∧ R1 w2))
    (H2 : Hid (∀ w2, R1 w2 → Calls Try.prog 25 #[b, .int .i64 z] w2 fun r w3 => r = .returned (.tuple #[.int .i64 n, .int .i64 e]) ∧ Q w3)) :
    Calls Try.prog 11 #[c, b, .agg #[.int .i64 0, .int .i64 o, .int .i64 z, .slice a L cap]] w fun r w' => r = .returned (.bool true) ∧ Q w' := by
  have HD : Hid (∀ k, D k → k < w.heap.size) := hD
  clear hD
  go_enter Try.func11, Try.ntmps11
  go_wp2_with fail
  refine (H1.out _ ((Keeps.refl _ w).alloc _)).mono ?_
  rintro r w2 ⟨rfl, hK, hR⟩
  have H3 : Hid (Calls _ _ _ _ _) := H2.out w2 hR
  have cz : w2.cell? ⟨w.heap.size, 2, none⟩ = some (.int .i64 z) := cell_kept (S := D) (Blk.cell (Blk.new w _ _) rfl) hK fun h => by have := HD.out _ h; simp at this
  clear H1 H2 hK hR
  go_wp2_with fail
  refine H3.out.mono ?_
  rintro r w3 ⟨rfl, hq⟩
  have HQ : Hid (Q w3) := hq
  clear H3 hq cz
  have f1 : (n == n) = true := by simp
  have f2 : (e == e) = true := by simp
  go_wp2
  go_ret
  exact ⟨rfl, HQ.out⟩

set_option maxHeartbeats 1000000 in
theorem one_holds (c b : Value) (z o : Int) (t : Bool) (a : Option Addr) (L cap : Nat) (w : World) (D : Nat → Prop) (R1 Q : World → Prop) (hD : ∀ k, D k → k < w.heap.size)
    (H1 : Hid (∀ w1, Keeps (fun _ => False) w w1 → Calls Try.prog 18 #[c, .int .i64 z] w1 fun r w2 => r = .returned (.bool t) ∧ Keeps D w1 w2 ∧ R1 w2))
    (H2 : Hid (∀ w2, R1 w2 → Calls Try.prog 26 #[b, .int .i64 z] w2 fun r w3 => r = .returned (.bool t) ∧ Q w3)) :
    Calls Try.prog 11 #[c, b, .agg #[.int .i64 1, .int .i64 o, .int .i64 z, .slice a L cap]] w fun r w' => r = .returned (.bool true) ∧ Q w' := by
  have HD : Hid (∀ k, D k → k < w.heap.size) := hD
  clear hD
  go_enter Try.func11, Try.ntmps11
  go_wp2_with fail
  refine (H1.out _ ((Keeps.refl _ w).alloc _)).mono ?_
  rintro r w2 ⟨rfl, hK, hR⟩
  have H3 : Hid (Calls _ _ _ _ _) := H2.out w2 hR
  have cz : w2.cell? ⟨w.heap.size, 2, none⟩ = some (.int .i64 z) := cell_kept (S := D) (Blk.cell (Blk.new w _ _) rfl) hK fun h => by have := HD.out _ h; simp at this
  clear H1 H2 hK hR
  go_wp2_with fail
  refine H3.out.mono ?_
  rintro r w3 ⟨rfl, hq⟩
  have HQ : Hid (Q w3) := hq
  clear H3 hq cz
  have f1 : (t == t) = true := by simp
  go_wp2
  go_ret
  exact ⟨by simp, HQ.out⟩

set_option maxHeartbeats 1000000 in
theorem one_flush (c b : Value) (z o : Int) (a : Option Addr) (L cap : Nat) (w : World) (R1 Q : World → Prop)
    (H1 : Hid (∀ w1, Keeps (fun _ => False) w w1 → Calls Try.prog 27 #[c] w1 fun r w2 => r = .returned (.tuple #[]) ∧ R1 w2))
    (H2 : Hid (∀ w2, R1 w2 → Calls Try.prog 28 #[b] w2 fun r w3 => r = .returned (.tuple #[]) ∧ Q w3)) :
    Calls Try.prog 11 #[c, b, .agg #[.int .i64 2, .int .i64 o, .int .i64 z, .slice a L cap]] w fun r w' => r = .returned (.bool true) ∧ Q w' := by
  go_enter Try.func11, Try.ntmps11
  go_wp2_with fail
  refine (H1.out _ ((Keeps.refl _ w).alloc _)).mono ?_
  rintro r w2 ⟨rfl, hR⟩
  have H3 : Hid (Calls _ _ _ _ _) := H2.out w2 hR
  clear H1 H2 hR
  go_wp2_with fail
  refine H3.out.mono ?_
  rintro r w3 ⟨rfl, hq⟩
  have HQ : Hid (Q w3) := hq
  clear H3 hq
  go_wp2
  go_ret
  exact ⟨rfl, HQ.out⟩

set_option maxHeartbeats 1000000 in
theorem one_lines (c b : Value) (d z o : Int) (N : Nat) (a : Option Addr) (L cap : Nat) (w : World) (R1 : Option Addr → Nat → World → Prop) (R2 : Option Addr → Nat → Option Addr → Nat → World → Prop) (Q : World → Prop) (h0 : d ≠ 0) (h1 : d ≠ 1) (h2 : d ≠ 2) (h4 : d ≠ 4)
    (H1 : Hid (∀ w1, Keeps (fun _ => False) w w1 → Calls Try.prog 12 #[c] w1 fun r w2 => ∃ a1 p1, r = .returned (.slice a1 N p1) ∧ R1 a1 p1 w2))
    (H2 : Hid (∀ a1 p1 w2, R1 a1 p1 w2 → Calls Try.prog 14 #[b] w2 fun r w3 => ∃ a2 p2, r = .returned (.slice a2 N p2) ∧ R2 a1 p1 a2 p2 w3))
    (H3 : Hid (∀ a1 p1 a2 p2 w3, R2 a1 p1 a2 p2 w3 → Calls Try.prog 13 #[.slice a1 N p1, .slice a2 N p2] w3 fun r w4 => r = .returned (.bool true) ∧ Q w4)) :
    Calls Try.prog 11 #[c, b, .agg #[.int .i64 d, .int .i64 o, .int .i64 z, .slice a L cap]] w fun r w' => r = .returned (.bool true) ∧ Q w' := by
  have f0 : (d == 0) = false := by simpa using h0
  have f1 : (d == 1) = false := by simpa using h1
  have f2 : (d == 2) = false := by simpa using h2
  have f4 : (d == 4) = false := by simpa using h4
  clear h0 h1 h2 h4
  go_enter Try.func11, Try.ntmps11
  go_wp2_with fail
  refine (H1.out _ ((Keeps.refl _ w).alloc _)).mono ?_
  rintro r w2 ⟨a1, p1, rfl, hR⟩
  have H4 : Hid (Calls _ _ _ _ _) := H2.out a1 p1 w2 hR
  clear H1 H2 hR
  go_wp2_with fail
  refine H4.out.mono ?_
  rintro r w3 ⟨a2, p2, rfl, hR⟩
  have H5 : Hid (Calls _ _ _ _ _) := H3.out a1 p1 a2 p2 w3 hR
  clear H3 H4 hR
  go_wp2_with fail
  refine H5.out.mono ?_
  rintro r w4 ⟨rfl, hq⟩
  have HQ : Hid (Q w4) := hq
  clear H5 hq
  go_wp2
  go_ret
  exact ⟨rfl, HQ.out⟩

set_option maxHeartbeats 1000000 in
theorem one_vast (c b : Value) (z o : Int) (a : Option Addr) (L cap : Nat) (w : World) (Q : World → Prop)
    (H1 : Hid (∀ w1, Keeps (fun _ => False) w w1 → Calls Try.prog 29 #[.slice a L cap] w1 fun r w2 => r = .returned (.bool true) ∧ Q w2)) :
    Calls Try.prog 11 #[c, b, .agg #[.int .i64 4, .int .i64 o, .int .i64 z, .slice a L cap]] w fun r w' => r = .returned (.bool true) ∧ Q w' := by
  go_enter Try.func11, Try.ntmps11
  go_wp2_with fail
  refine (H1.out _ ((Keeps.refl _ w).alloc _)).mono ?_
  rintro r w2 ⟨rfl, hq⟩
  have HQ : Hid (Q w2) := hq
  clear H1 hq
  go_wp2
  go_ret
  exact ⟨rfl, HQ.out⟩

set_option maxHeartbeats 2000000 in
theorem one_restore (c b : Value) (z o e : Int) (a : Option Addr) (L cap : Nat) (w : World) (D : Nat → Prop) (hD : ∀ k, D k → k < w.heap.size) (R1 R2 R3 : Option Addr → Nat → World → Prop) (Q : World → Prop)
    (H0 : Hid (∀ w1, Keeps (fun _ => False) w w1 → Calls Try.prog 29 #[.slice a L cap] w1 fun r w2 => (r = .returned (.bool true) ∧ Q w2) ∨ (r = .returned (.bool false) ∧ w2 = w1 ∧
      Calls Try.prog 20 #[.slice a L cap] w1 fun r w2 => ∃ a1 p1, r = .returned (.slice a1 L p1) ∧ Keeps D w1 w2 ∧ R1 a1 p1 w2)))
    (H2 : Hid (∀ a1 p1 w2, R1 a1 p1 w2 → Calls Try.prog 19 #[c, .slice a1 L p1] w2 fun r w3 => r = .returned (.int .i64 e) ∧ Keeps D w2 w3 ∧ R2 a1 p1 w3))
    (H3 : Hid (∀ a1 p1 w3, R2 a1 p1 w3 → Calls Try.prog 13 #[.slice a1 L p1, .slice a L cap] w3 fun r w4 => r = .returned (.bool true) ∧ Keeps D w3 w4 ∧ R3 a1 p1 w4))
    (H4 : Hid (∀ a1 p1 w4, R3 a1 p1 w4 → Calls Try.prog 30 #[b, .slice a L cap] w4 fun r w5 => r = .returned (.int .i64 e) ∧ Q w5)) :
    Calls Try.prog 11 #[c, b, .agg #[.int .i64 4, .int .i64 o, .int .i64 z, .slice a L cap]] w fun r w' => r = .returned (.bool true) ∧ Q w' := by
  have HD : Hid (∀ k, D k → k < w.heap.size) := hD
  clear hD
  go_enter Try.func11, Try.ntmps11
  go_wp2_with fail
  refine (H0.out _ ((Keeps.refl _ w).alloc _)).mono ?_
  rintro r w2 (⟨rfl, hq⟩ | ⟨rfl, rfl, hc⟩)
  · have HQ : Hid (Q w2) := hq
    clear H0 H2 H3 H4 hq
    go_wp2
    go_ret
    exact ⟨rfl, HQ.out⟩
  · have HC : Hid (Calls _ _ _ _ _) := hc
    clear H0 hc
    go_wp2_with fail
    refine HC.out.mono ?_
    rintro r w2 ⟨a1, p1, rfl, hK, hR⟩
    have cz : w2.cell? ⟨w.heap.size, 3, none⟩ = some (.slice a L cap) := cell_kept (S := D) (Blk.cell (Blk.new w _ _) rfl) hK fun h => by have := HD.out _ h; simp at this
    have CZ : Hid (w2.cell? ⟨w.heap.size, 3, none⟩ = some (.slice a L cap)) := cz
    have H5 : Hid (Calls _ _ _ _ _) := H2.out a1 p1 w2 hR
    clear HC H2 hR hK
    go_wp2_with fail
    refine H5.out.mono ?_
    rintro r w3 ⟨rfl, hK, hR⟩
    clear cz
    have cz : w3.cell? ⟨w.heap.size, 3, none⟩ = some (.slice a L cap) := cell_kept (S := D) CZ.out hK fun h => by have := HD.out _ h; simp at this
    clear CZ
    have CZ : Hid (w3.cell? ⟨w.heap.size, 3, none⟩ = some (.slice a L cap)) := cz
    have H6 : Hid (Calls _ _ _ _ _) := H3.out a1 p1 w3 hR
    clear H5 H3 hR hK
    go_wp2_with fail
    refine H6.out.mono ?_
    rintro r w4 ⟨rfl, hK, hR⟩
    clear cz
    have cz : w4.cell? ⟨w.heap.size, 3, none⟩ = some (.slice a L cap) := cell_kept (S := D) CZ.out hK fun h => by have := HD.out _ h; simp at this
    have H7 : Hid (Calls _ _ _ _ _) := H4.out a1 p1 w4 hR
    clear H6 H4 hR hK CZ
    have f1 : (e == e) = true := by simp
    go_wp2_with fail
    refine H7.out.mono ?_
    rintro r w5 ⟨rfl, hq⟩
    have HQ : Hid (Q w5) := hq
    clear H7 hq cz
    go_wp2
    go_ret
    exact ⟨rfl, HQ.out⟩

end Go.Proofs.Ytajhkilclmicjaa
