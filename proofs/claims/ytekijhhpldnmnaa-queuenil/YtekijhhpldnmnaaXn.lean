import Derived.Test.YtekijhhpldnmnaaU
namespace Go.Proofs.Ytekijhhpldnmnaa
open Go.RowKit
set_option linter.unusedVariables false
set_option linter.unusedSimpArgs false

theorem lkE_nil (p n d : Int) (h : Nat) : lkE true [] p h n d = 3 := by
  have hf : fitE true n d = 3 := rfl
  have ht : tkE true ([] : List UInt32).length p h n d = 3 := by unfold tkE; rw [hf, if_pos (by decide)]
  unfold lkE
  rw [ht, if_pos (by decide)]

set_option maxRecDepth 20000 in
set_option maxHeartbeats 2000000 in
theorem queueNil_any (p n d : Int) (w : World) (hp : p ≤ 9223372036854775807) :
    Calls Try.prog 6 #[.int .i64 p, .int .i64 n, .int .i64 d] w fun e w' => e = .returned (.bool true) ∧ Keeps (fun _ => False) w w' := by
  have H1 : Hid (Calls Try.prog 16 #[.pointer none, .int .i64 p, .int .i64 n, .int .i64 d, .slice none 0 0] w fun e w' => e = .returned (.tuple #[.bool false, .int .i64 3]) ∧ w' = w) := put_fit true 0 p n d (.slice none 0 0) w (by show (3 : Int) ≠ 0; decide)
  have H2 : Hid (∀ w1, Calls Try.prog 21 #[.pointer none, .int .i64 p, .int .i64 n, .int .i64 d] w1 fun e w' => e = .returned (.tuple #[.int .i64 0, .int .i64 3]) ∧ Keeps (fun _ => False) w1 w') := fun w1 => by
    have := staged_no true 0 0 [] p n d w1 (fun h => by cases h) hp (by rw [lkE_nil]; decide)
    rw [lkE_nil] at this
    exact this
  have H3 : Hid (∀ w1 v, Calls Try.prog 17 #[.pointer none, .int .i64 p, .int .i64 n, .int .i64 d, v] w1 fun e w' => e = .returned (.int .i64 3) ∧ w' = w1) := fun w1 v => deliver_fit true 0 p n d v w1 (by show (3 : Int) ≠ 0; decide)
  have H4 : Hid (∀ w1, Calls Try.prog 18 #[.pointer none, .int .i64 p, .int .i64 n, .int .i64 d] w1 fun e w' => e = .returned (.tuple #[.slice none 0 0, .bool false, .int .i64 3]) ∧ Keeps (fun _ => False) w1 w') := fun w1 => by
    have := look3_no true 0 0 [] p n d w1 (fun h => by cases h) hp (by rw [lkE_nil]; decide)
    rw [lkE_nil] at this
    exact this
  have H5 : Hid (∀ w1, Calls Try.prog 19 #[.pointer none, .int .i64 p, .int .i64 n, .int .i64 d] w1 fun e w' => e = .returned (.tuple #[.bool false, .int .i64 3]) ∧ Keeps (fun _ => False) w1 w') := fun w1 => by
    have := tak_no true 0 0 [] p n d w1 (fun h => by cases h) hp (by rw [lkE_nil]; decide)
    rw [lkE_nil] at this
    exact this
  have H6 : Hid (∀ w1, Calls Try.prog 20 #[.pointer none, .int .i64 p, .int .i64 n, .int .i64 d] w1 fun e w' => e = .returned (.tuple #[.int .i64 0, .int .u32 0, .int .i64 3]) ∧ Keeps (fun _ => False) w1 w') := fun w1 => by
    have := count_no true 0 0 [] p n d w1 (fun h => by cases h) hp (by rw [lkE_nil]; decide)
    rw [lkE_nil] at this
    exact this
  clear hp
  go_enter Try.func6, Try.ntmps6
  go_wp2_with fail
  refine H1.out.mono ?_
  rintro e w1 ⟨rfl, hw⟩
  obtain rfl := hw.symm
  clear hw H1
  go_wp2_with fail
  refine (H2.out w).mono ?_
  rintro e w2 ⟨rfl, hk2⟩
  have K2 : Hid (Keeps _ _ _) := hk2
  clear hk2 H2
  go_wp2_with fail
  refine (H3.out _ _).mono ?_
  rintro e w3 ⟨rfl, hw3⟩
  have K3 : Hid (Keeps (fun _ => False) w w3) := by rw [hw3]; exact K2.out.alloc _
  clear hw3 H3 K2
  go_wp2_with fail
  refine (H4.out w3).mono ?_
  rintro e w4 ⟨rfl, hk4⟩
  have K4 : Hid (Keeps (fun _ => False) w w4) := K3.out.trans hk4 fun _ _ e => e
  clear hk4 H4 K3
  go_wp2_with fail
  refine (H5.out w4).mono ?_
  rintro e w5 ⟨rfl, hk5⟩
  have K5 : Hid (Keeps (fun _ => False) w w5) := K4.out.trans hk5 fun _ _ e => e
  clear hk5 H5 K4
  go_wp2_with fail
  refine (H6.out w5).mono ?_
  rintro e w6 ⟨rfl, hk6⟩
  have K6 : Hid (Keeps (fun _ => False) w w6) := K5.out.trans hk6 fun _ _ e => e
  clear hk6 H6 K5
  go_wp2
  go_ret
  exact ⟨rfl, K6.out⟩

end Go.Proofs.Ytekijhhpldnmnaa
