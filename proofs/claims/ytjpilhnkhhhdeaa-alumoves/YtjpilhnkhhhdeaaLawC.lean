import Derived.Test.YtjpilhnkhhhdeaaLawB
namespace Go.Proofs.Ytjpilhnkhhhdeaa
open Go.RowKit
set_option linter.unusedVariables false

theorem quot_rest (X Y : Int) : X.tdiv Y * Y + X.tmod Y = X := by
  rw [Int.mul_comm]
  exact Int.mul_tdiv_add_tmod X Y
theorem divides_sum (x y : Nat) (hx : x < 4294967296) (hy : y < 4294967296) :
    wd ((wd ((wd ((sg x).tdiv (sg y)) : Int) * (y : Int)) : Int) + (wd ((sg x).tmod (sg y)) : Int)) = x := by
  have e := quot_rest (sg x) (sg y)
  have mx := sg_mod x hx
  have my := sg_mod y hy
  revert e
  generalize (sg x).tdiv (sg y) = Q
  generalize (sg x).tmod (sg y) = R
  intro e
  have h1 : ((wd (Q : Int) : Int) * (y : Int)) % 4294967296 = (Q * sg y) % 4294967296 := by
    rw [wd_cast, Int.mul_emod Q (sg y), my]
  have h2 : ((wd ((wd ((wd Q : Int) * (y : Int)) : Int) + (wd R : Int)) : Nat) : Int) = (x : Int) := by
    rw [wd_cast, wd_cast, wd_cast R, h1, ← Int.add_emod, e, mx]
  omega
theorem rest_bd (X Y : Int) (hY : ¬ Y = 0) : (X < 0 → X.tmod Y ≤ 0 ∧ -(X.tmod Y) < Y.natAbs) ∧ (¬ X < 0 → 0 ≤ X.tmod Y ∧ X.tmod Y < Y.natAbs) := by
  have h : X.natAbs % Y.natAbs < Y.natAbs := Nat.mod_lt _ (by omega)
  rw [tmod_mag]
  constructor
  · intro hn
    rw [if_pos hn]
    omega
  · intro hn
    rw [if_neg hn]
    omega
theorem wrap_wd (R : Int) (h1 : -2147483648 ≤ R) (h2 : R < 2147483648) : wrap32 ((wd R : Nat) : Int) = R := by
  rw [wd_cast]
  unfold wrap32
  omega

/-- A word that Do makes. -/
def DoneW (k : Int) (x y v : Nat) : Prop := Hid (∀ w : World, Calls Try.prog 9 #[.int .i64 k, .int .u32 x, .int .u32 y] w fun e w' => e = .returned (.tuple #[.int .u32 (v : Int), .int .i64 0]) ∧ w' = w)
theorem doneW_of (k : Nat) (x y v : Nat) (hx : x < 4294967296) (hy : y < 4294967296) (h1 : 5 ≤ k) (h2 : k ≤ 17) (h0 : k = 8 ∨ k = 9 → 0 < y) (hv : res k x y = v) : DoneW (k : Int) x y v := by
  subst hv
  exact fun w => do_yes (k : Int) x y w hx hy (isDo_k k h1 h2) (by omega)

set_option maxHeartbeats 400000 in
theorem aluDivides_zero (x : Nat) (w : World) : Calls Try.prog 5 #[.int .u32 x, .int .u32 0] w fun e w' => e = .returned (.bool true) ∧ w' = w := by
  have HD : Hid (∀ w, Calls _ _ _ w _) := fun w => do_zero 8 x w (by omega)
  go_enter Try.func5, Try.ntmps5
  go_wp2_with fail
  refine (HD.out _).mono ?_
  rintro e w1 ⟨rfl, hw⟩
  obtain rfl := hw.symm
  clear hw
  go_wp2_with fail
  go_ret
  exact ⟨rfl, rfl⟩

set_option maxHeartbeats 1000000 in
theorem aluDivides_11 (x y : Nat) (w : World) (hx : x < 4294967296) (hy : y < 4294967296) (h0 : 0 < y) (hn : sg x < 0) (hd : sg y < 0) : Calls Try.prog 5 #[.int .u32 x, .int .u32 y] w fun e w' => e = .returned (.bool true) ∧ w' = w := by
  have nz := sg_zero y hy h0
  have bx := sg_bd x hx
  have bY := sg_bd y hy
  have rb := rest_bd (sg x) (sg y) nz
  have hsum := divides_sum x y hx hy
  have C1 : DoneW 8 x y (wd ((sg x).tdiv (sg y))) := doneW_of 8 x y _ hx hy (by omega) (by omega) (fun _ => h0) rfl
  have C2 : DoneW 9 x y (wd ((sg x).tmod (sg y))) := doneW_of 9 x y _ hx hy (by omega) (by omega) (fun _ => h0) rfl
  have C3 : DoneW 7 (wd ((sg x).tdiv (sg y))) y (wd ((wd ((sg x).tdiv (sg y)) : Int) * (y : Int))) := doneW_of 7 _ y _ (wd_lt _) hy (by omega) (by omega) (by omega) rfl
  have C4 : DoneW 5 (wd ((wd ((sg x).tdiv (sg y)) : Int) * (y : Int))) (wd ((sg x).tmod (sg y))) x := doneW_of 5 _ _ _ (wd_lt _) (wd_lt _) (by omega) (by omega) (by omega) hsum
  have hrw := wrap_wd ((sg x).tmod (sg y)) (by by_cases h : sg x < 0; have := rb.1 h; omega; have := rb.2 h; omega) (by by_cases h : sg x < 0; have := rb.1 h; omega; have := rb.2 h; omega)
  have hxw := wrap_sg x hx
  have hyw := wrap_sg y hy
  revert hsum C1 C2 C3 C4 hrw rb hn hd bx bY nz hxw hyw
  generalize wd ((wd ((sg x).tdiv (sg y)) : Int) * (y : Int)) = p
  generalize wd ((sg x).tdiv (sg y)) = q
  generalize wd ((sg x).tmod (sg y)) = r
  generalize (sg x).tmod (sg y) = R
  generalize sg x = X
  generalize sg y = Y
  intro hn hd nz bx bY rb hsum C1 C2 C3 C4 hrw hxw hyw
  subst hrw hxw hyw
  have f1 := rb.1 hn
  clear rb hsum nz
  have f1a := f1.1
  have f1b : -(wrap32 (r : Int)) < -(wrap32 (y : Int)) := by have := f1.2; omega
  have hz : ¬ (y : Int) = 0 := by omega
  clear f1
  unfold DoneW at *
  go_enter Try.func5, Try.ntmps5
  go_wp2_with fail
  refine (C1.out _).mono ?_
  rintro e w1 ⟨rfl, hw⟩
  obtain rfl := hw.symm
  clear hw
  go_wp2_with fail
  refine (C2.out _).mono ?_
  rintro e w1 ⟨rfl, hw⟩
  obtain rfl := hw.symm
  clear hw
  go_wp2_with fail
  refine (C3.out _).mono ?_
  rintro e w1 ⟨rfl, hw⟩
  obtain rfl := hw.symm
  clear hw
  go_wp2_with fail
  refine (C4.out _).mono ?_
  rintro e w1 ⟨rfl, hw⟩
  obtain rfl := hw.symm
  clear hw
  go_wp2_with fail
  go_ret
  exact ⟨ret_bool (by simp), rfl⟩

set_option maxHeartbeats 1000000 in
theorem aluDivides_10 (x y : Nat) (w : World) (hx : x < 4294967296) (hy : y < 4294967296) (h0 : 0 < y) (hn : sg x < 0) (hd : ¬ sg y < 0) : Calls Try.prog 5 #[.int .u32 x, .int .u32 y] w fun e w' => e = .returned (.bool true) ∧ w' = w := by
  have nz := sg_zero y hy h0
  have bx := sg_bd x hx
  have bY := sg_bd y hy
  have rb := rest_bd (sg x) (sg y) nz
  have hsum := divides_sum x y hx hy
  have C1 : DoneW 8 x y (wd ((sg x).tdiv (sg y))) := doneW_of 8 x y _ hx hy (by omega) (by omega) (fun _ => h0) rfl
  have C2 : DoneW 9 x y (wd ((sg x).tmod (sg y))) := doneW_of 9 x y _ hx hy (by omega) (by omega) (fun _ => h0) rfl
  have C3 : DoneW 7 (wd ((sg x).tdiv (sg y))) y (wd ((wd ((sg x).tdiv (sg y)) : Int) * (y : Int))) := doneW_of 7 _ y _ (wd_lt _) hy (by omega) (by omega) (by omega) rfl
  have C4 : DoneW 5 (wd ((wd ((sg x).tdiv (sg y)) : Int) * (y : Int))) (wd ((sg x).tmod (sg y))) x := doneW_of 5 _ _ _ (wd_lt _) (wd_lt _) (by omega) (by omega) (by omega) hsum
  have hrw := wrap_wd ((sg x).tmod (sg y)) (by by_cases h : sg x < 0; have := rb.1 h; omega; have := rb.2 h; omega) (by by_cases h : sg x < 0; have := rb.1 h; omega; have := rb.2 h; omega)
  have hxw := wrap_sg x hx
  have hyw := wrap_sg y hy
  revert hsum C1 C2 C3 C4 hrw rb hn hd bx bY nz hxw hyw
  generalize wd ((wd ((sg x).tdiv (sg y)) : Int) * (y : Int)) = p
  generalize wd ((sg x).tdiv (sg y)) = q
  generalize wd ((sg x).tmod (sg y)) = r
  generalize (sg x).tmod (sg y) = R
  generalize sg x = X
  generalize sg y = Y
  intro hn hd nz bx bY rb hsum C1 C2 C3 C4 hrw hxw hyw
  subst hrw hxw hyw
  have f1 := rb.1 hn
  clear rb hsum nz
  have f1a := f1.1
  have f1b : -(wrap32 (r : Int)) < wrap32 (y : Int) := by have := f1.2; omega
  have hz : ¬ (y : Int) = 0 := by omega
  clear f1
  unfold DoneW at *
  go_enter Try.func5, Try.ntmps5
  go_wp2_with fail
  refine (C1.out _).mono ?_
  rintro e w1 ⟨rfl, hw⟩
  obtain rfl := hw.symm
  clear hw
  go_wp2_with fail
  refine (C2.out _).mono ?_
  rintro e w1 ⟨rfl, hw⟩
  obtain rfl := hw.symm
  clear hw
  go_wp2_with fail
  refine (C3.out _).mono ?_
  rintro e w1 ⟨rfl, hw⟩
  obtain rfl := hw.symm
  clear hw
  go_wp2_with fail
  refine (C4.out _).mono ?_
  rintro e w1 ⟨rfl, hw⟩
  obtain rfl := hw.symm
  clear hw
  go_wp2_with fail
  go_ret
  exact ⟨ret_bool (by simp), rfl⟩

set_option maxHeartbeats 1000000 in
theorem aluDivides_01 (x y : Nat) (w : World) (hx : x < 4294967296) (hy : y < 4294967296) (h0 : 0 < y) (hn : ¬ sg x < 0) (hd : sg y < 0) : Calls Try.prog 5 #[.int .u32 x, .int .u32 y] w fun e w' => e = .returned (.bool true) ∧ w' = w := by
  have nz := sg_zero y hy h0
  have bx := sg_bd x hx
  have bY := sg_bd y hy
  have rb := rest_bd (sg x) (sg y) nz
  have hsum := divides_sum x y hx hy
  have C1 : DoneW 8 x y (wd ((sg x).tdiv (sg y))) := doneW_of 8 x y _ hx hy (by omega) (by omega) (fun _ => h0) rfl
  have C2 : DoneW 9 x y (wd ((sg x).tmod (sg y))) := doneW_of 9 x y _ hx hy (by omega) (by omega) (fun _ => h0) rfl
  have C3 : DoneW 7 (wd ((sg x).tdiv (sg y))) y (wd ((wd ((sg x).tdiv (sg y)) : Int) * (y : Int))) := doneW_of 7 _ y _ (wd_lt _) hy (by omega) (by omega) (by omega) rfl
  have C4 : DoneW 5 (wd ((wd ((sg x).tdiv (sg y)) : Int) * (y : Int))) (wd ((sg x).tmod (sg y))) x := doneW_of 5 _ _ _ (wd_lt _) (wd_lt _) (by omega) (by omega) (by omega) hsum
  have hrw := wrap_wd ((sg x).tmod (sg y)) (by by_cases h : sg x < 0; have := rb.1 h; omega; have := rb.2 h; omega) (by by_cases h : sg x < 0; have := rb.1 h; omega; have := rb.2 h; omega)
  have hxw := wrap_sg x hx
  have hyw := wrap_sg y hy
  revert hsum C1 C2 C3 C4 hrw rb hn hd bx bY nz hxw hyw
  generalize wd ((wd ((sg x).tdiv (sg y)) : Int) * (y : Int)) = p
  generalize wd ((sg x).tdiv (sg y)) = q
  generalize wd ((sg x).tmod (sg y)) = r
  generalize (sg x).tmod (sg y) = R
  generalize sg x = X
  generalize sg y = Y
  intro hn hd nz bx bY rb hsum C1 C2 C3 C4 hrw hxw hyw
  subst hrw hxw hyw
  have f1 := rb.2 hn
  clear rb hsum nz
  have f1a := f1.1
  have f1b : wrap32 (r : Int) < -(wrap32 (y : Int)) := by have := f1.2; omega
  have hz : ¬ (y : Int) = 0 := by omega
  clear f1
  unfold DoneW at *
  go_enter Try.func5, Try.ntmps5
  go_wp2_with fail
  refine (C1.out _).mono ?_
  rintro e w1 ⟨rfl, hw⟩
  obtain rfl := hw.symm
  clear hw
  go_wp2_with fail
  refine (C2.out _).mono ?_
  rintro e w1 ⟨rfl, hw⟩
  obtain rfl := hw.symm
  clear hw
  go_wp2_with fail
  refine (C3.out _).mono ?_
  rintro e w1 ⟨rfl, hw⟩
  obtain rfl := hw.symm
  clear hw
  go_wp2_with fail
  refine (C4.out _).mono ?_
  rintro e w1 ⟨rfl, hw⟩
  obtain rfl := hw.symm
  clear hw
  go_wp2_with fail
  go_ret
  exact ⟨ret_bool (by simp), rfl⟩

set_option maxHeartbeats 1000000 in
theorem aluDivides_00 (x y : Nat) (w : World) (hx : x < 4294967296) (hy : y < 4294967296) (h0 : 0 < y) (hn : ¬ sg x < 0) (hd : ¬ sg y < 0) : Calls Try.prog 5 #[.int .u32 x, .int .u32 y] w fun e w' => e = .returned (.bool true) ∧ w' = w := by
  have nz := sg_zero y hy h0
  have bx := sg_bd x hx
  have bY := sg_bd y hy
  have rb := rest_bd (sg x) (sg y) nz
  have hsum := divides_sum x y hx hy
  have C1 : DoneW 8 x y (wd ((sg x).tdiv (sg y))) := doneW_of 8 x y _ hx hy (by omega) (by omega) (fun _ => h0) rfl
  have C2 : DoneW 9 x y (wd ((sg x).tmod (sg y))) := doneW_of 9 x y _ hx hy (by omega) (by omega) (fun _ => h0) rfl
  have C3 : DoneW 7 (wd ((sg x).tdiv (sg y))) y (wd ((wd ((sg x).tdiv (sg y)) : Int) * (y : Int))) := doneW_of 7 _ y _ (wd_lt _) hy (by omega) (by omega) (by omega) rfl
  have C4 : DoneW 5 (wd ((wd ((sg x).tdiv (sg y)) : Int) * (y : Int))) (wd ((sg x).tmod (sg y))) x := doneW_of 5 _ _ _ (wd_lt _) (wd_lt _) (by omega) (by omega) (by omega) hsum
  have hrw := wrap_wd ((sg x).tmod (sg y)) (by by_cases h : sg x < 0; have := rb.1 h; omega; have := rb.2 h; omega) (by by_cases h : sg x < 0; have := rb.1 h; omega; have := rb.2 h; omega)
  have hxw := wrap_sg x hx
  have hyw := wrap_sg y hy
  revert hsum C1 C2 C3 C4 hrw rb hn hd bx bY nz hxw hyw
  generalize wd ((wd ((sg x).tdiv (sg y)) : Int) * (y : Int)) = p
  generalize wd ((sg x).tdiv (sg y)) = q
  generalize wd ((sg x).tmod (sg y)) = r
  generalize (sg x).tmod (sg y) = R
  generalize sg x = X
  generalize sg y = Y
  intro hn hd nz bx bY rb hsum C1 C2 C3 C4 hrw hxw hyw
  subst hrw hxw hyw
  have f1 := rb.2 hn
  clear rb hsum nz
  have f1a := f1.1
  have f1b : wrap32 (r : Int) < wrap32 (y : Int) := by have := f1.2; omega
  have hz : ¬ (y : Int) = 0 := by omega
  clear f1
  unfold DoneW at *
  go_enter Try.func5, Try.ntmps5
  go_wp2_with fail
  refine (C1.out _).mono ?_
  rintro e w1 ⟨rfl, hw⟩
  obtain rfl := hw.symm
  clear hw
  go_wp2_with fail
  refine (C2.out _).mono ?_
  rintro e w1 ⟨rfl, hw⟩
  obtain rfl := hw.symm
  clear hw
  go_wp2_with fail
  refine (C3.out _).mono ?_
  rintro e w1 ⟨rfl, hw⟩
  obtain rfl := hw.symm
  clear hw
  go_wp2_with fail
  refine (C4.out _).mono ?_
  rintro e w1 ⟨rfl, hw⟩
  obtain rfl := hw.symm
  clear hw
  go_wp2_with fail
  go_ret
  exact ⟨ret_bool (by simp), rfl⟩

theorem aluDivides_any (x y : Nat) (w : World) (hx : x < 4294967296) (hy : y < 4294967296) : Calls Try.prog 5 #[.int .u32 x, .int .u32 y] w fun e w' => e = .returned (.bool true) ∧ w' = w := by
  by_cases h0 : 0 < y
  · by_cases hn : sg x < 0 <;> by_cases hd : sg y < 0
    · exact aluDivides_11 x y w hx hy h0 hn hd
    · exact aluDivides_10 x y w hx hy h0 hn hd
    · exact aluDivides_01 x y w hx hy h0 hn hd
    · exact aluDivides_00 x y w hx hy h0 hn hd
  · obtain rfl : y = 0 := by omega
    exact aluDivides_zero x w
end Go.Proofs.Ytjpilhnkhhhdeaa
