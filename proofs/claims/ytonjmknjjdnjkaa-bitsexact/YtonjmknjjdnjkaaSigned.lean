import Derived.Test.YtonjmknjjdnjkaaFixed
namespace Go.Proofs.Ytonjmknjjdnjkaa
open Go.RowKit
set_option linter.unusedVariables false

theorem wf_bd {n : Int} (h : (Lit.int .i64 n).wf = true) : -9223372036854775808 ≤ n ∧ n ≤ 9223372036854775807 := by
  simpa [Lit.wf, IntKind.min, IntKind.max, IntKind.signed, IntKind.bits] using h

theorem ret_bool {a b : Bool} (h : a = b) : Ending.returned (.bool a) = .returned (.bool b) := by rw [h]

set_option maxHeartbeats 400000 in
theorem signed_wide (n m k : Int) (w : World) (hk : k ≤ 9223372036854775807) (h : k < 1 ∨ 32 < k) :
    Calls Try.prog 5 #[.int .i64 n, .int .i64 m, .int .i64 k] w fun e w' => e = .returned (.bool true) ∧ Keeps (fun _ => False) w w' := by
  by_cases h1 : k < 1
  · have H : Hid (k < 1 ∨ 32 < k) := h
    clear h
    go_enter Try.func5, Try.ntmps5
    go_wp2_with (first | (go_at_call 8; refine (fixed_any _).mono ?_; rintro e w1 ⟨rfl, hK⟩) | (go_at_call 19; refine (unsigned_no _ _ _ hk H.out).mono ?_; rintro e w' ⟨rfl, hw'⟩; obtain rfl := hw'.symm))
    go_ret
    exact ⟨rfl, hK⟩
  · have h2 : 32 < k := by omega
    have H : Hid (k < 1 ∨ 32 < k) := h
    clear h
    go_enter Try.func5, Try.ntmps5
    go_wp2_with (first | (go_at_call 8; refine (fixed_any _).mono ?_; rintro e w1 ⟨rfl, hK⟩) | (go_at_call 19; refine (unsigned_no _ _ _ hk H.out).mono ?_; rintro e w' ⟨rfl, hw'⟩; obtain rfl := hw'.symm))
    go_ret
    exact ⟨rfl, hK⟩

set_option maxHeartbeats 400000 in
theorem signed_out (n m : Int) (k : Nat) (w : World) (h1 : 1 ≤ k) (h2 : k ≤ 32) (h : n < - 2 ^ (k - 1) ∨ 2 ^ (k - 1) ≤ n) :
    Calls Try.prog 5 #[.int .i64 n, .int .i64 m, .int .i64 k] w fun e w' => e = .returned (.bool true) ∧ Keeps (fun _ => False) w w' := by
  have pa := (pow_bd k h1 h2).1
  have pb := (pow_bd k h1 h2).2.1
  have hk1 : ¬ (k : Int) < 1 := by omega
  have hk2 : ¬ (32 : Int) < (k : Int) := by omega
  by_cases hl : n < - 2 ^ (k - 1)
  · clear h
    go_enter Try.func5, Try.ntmps5
    go_wp2_with (first | (go_at_call 8; refine (fixed_any _).mono ?_; rintro e w1 ⟨rfl, hK⟩) | (go_at_call 19; refine (unsigned_low _ _ _ h1 h2 pa pb hl).mono ?_; rintro e w' ⟨rfl, hw'⟩; obtain rfl := hw'.symm))
    go_ret
    exact ⟨rfl, hK⟩
  · have hu : 2 ^ (k - 1) ≤ n := by omega
    clear h
    go_enter Try.func5, Try.ntmps5
    go_wp2_with (first | (go_at_call 8; refine (fixed_any _).mono ?_; rintro e w1 ⟨rfl, hK⟩) | (go_at_call 19; refine (unsigned_high _ _ _ h1 h2 pa pb (by omega) (by omega)).mono ?_; rintro e w' ⟨rfl, hw'⟩; obtain rfl := hw'.symm))
    go_ret
    exact ⟨rfl, hK⟩
theorem mod_eq (n m : Int) (k : Nat) (h1 : 1 ≤ k) (h2 : k ≤ 32) (hn : - 2 ^ (k - 1) ≤ n ∧ n < 2 ^ (k - 1)) (hm : - 2 ^ (k - 1) ≤ m ∧ m < 2 ^ (k - 1)) : m % 2 ^ k = n % 2 ^ k ↔ m = n := by
  obtain ⟨pa, pb, pc, _, _⟩ := pow_bd k h1 h2
  refine ⟨fun h => ?_, fun h => by rw [h]⟩
  by_cases a : 0 ≤ n
  · rw [back_lo n k h1 h2 a hn.2] at h
    by_cases b : 0 ≤ m
    · rw [back_lo m k h1 h2 b hm.2] at h; exact h
    · rw [back_hi m k h1 h2 (by omega) hm.1] at h; omega
  · rw [back_hi n k h1 h2 (by omega) hn.1] at h
    by_cases b : 0 ≤ m
    · rw [back_lo m k h1 h2 b hm.2] at h; omega
    · rw [back_hi m k h1 h2 (by omega) hm.1] at h; omega

set_option maxHeartbeats 400000 in
theorem signed_in (n m : Int) (k : Nat) (w : World) (h1 : 1 ≤ k) (h2 : k ≤ 32) (hl : - 2 ^ (k - 1) ≤ n) (hu : n < 2 ^ (k - 1)) (hml : - 2 ^ (k - 1) ≤ m) (hmu : m < 2 ^ (k - 1)) :
    Calls Try.prog 5 #[.int .i64 n, .int .i64 m, .int .i64 k] w fun e w' => e = .returned (.bool true) ∧ Keeps (fun _ => False) w w' := by
  have pa := (pow_bd k h1 h2).1
  have pb := (pow_bd k h1 h2).2.1
  have hk1 : ¬ (k : Int) < 1 := by omega
  have hk2 : ¬ (32 : Int) < (k : Int) := by omega
  have hn1 : ¬ n < - 2 ^ (k - 1) := by omega
  have hn2 : ¬ 2 ^ (k - 1) ≤ n := by omega
  have HN : Hid (- 2 ^ (k - 1) ≤ n ∧ n < 2 ^ (k - 1)) := ⟨hl, hu⟩
  have HM : Hid (- 2 ^ (k - 1) ≤ m ∧ m < 2 ^ (k - 1)) := ⟨hml, hmu⟩
  have HE : Hid (m % 2 ^ k = n % 2 ^ k ↔ m = n) := mod_eq n m k h1 h2 ⟨hl, hu⟩ ⟨hml, hmu⟩
  clear hl hu hml hmu
  go_enter Try.func5, Try.ntmps5
  go_wp2_with fail
  refine (fixed_any _).mono ?_
  rintro e w1 ⟨rfl, hK⟩
  go_wp2_with fail
  refine (unsigned_yes n k _ h1 h2 pa pb (by have := HN.out; omega) (by have := HN.out; omega)).mono ?_
  rintro e w' ⟨rfl, hw'⟩; obtain rfl := hw'.symm
  go_wp2_with fail
  refine (signed_back n k _ h1 h2 HN.out.1 HN.out.2).mono ?_
  rintro e w' ⟨rfl, hw'⟩; obtain rfl := hw'.symm
  go_wp2_with fail
  refine (unsigned_yes m k _ h1 h2 pa pb (by have := HM.out; omega) (by have := HM.out; omega)).mono ?_
  rintro e w' ⟨rfl, hw'⟩; obtain rfl := hw'.symm
  go_wp2_with fail
  go_ret
  refine ⟨ret_bool ?_, hK⟩
  have := HE.out
  by_cases e : m = n
  · simp [e]
  · have e' : ¬ m % 2 ^ k = n % 2 ^ k := fun h => e (this.1 h)
    have a1 : (m % 2 ^ k == n % 2 ^ k) = false := beq_false_of_ne e'
    have a2 : (m == n) = false := beq_false_of_ne e
    rw [a1, a2]
    rfl

set_option maxHeartbeats 400000 in
theorem signed_half (n m : Int) (k : Nat) (w : World) (h1 : 1 ≤ k) (h2 : k ≤ 32) (hl : - 2 ^ (k - 1) ≤ n) (hu : n < 2 ^ (k - 1)) (hm : m < - 2 ^ (k - 1) ∨ 2 ^ (k - 1) ≤ m) :
    Calls Try.prog 5 #[.int .i64 n, .int .i64 m, .int .i64 k] w fun e w' => e = .returned (.bool true) ∧ Keeps (fun _ => False) w w' := by
  have pa := (pow_bd k h1 h2).1
  have pb := (pow_bd k h1 h2).2.1
  have hk1 : ¬ (k : Int) < 1 := by omega
  have hk2 : ¬ (32 : Int) < (k : Int) := by omega
  have hn1 : ¬ n < - 2 ^ (k - 1) := by omega
  have hn2 : ¬ 2 ^ (k - 1) ≤ n := by omega
  have HN : Hid (- 2 ^ (k - 1) ≤ n ∧ n < 2 ^ (k - 1)) := ⟨hl, hu⟩
  have HC : Hid (∀ w : World, Calls Try.prog 19 #[.int .i64 m, .int .i64 k] w fun e w' => e = .returned (.tuple #[.int .u32 0, .int .i64 11]) ∧ w' = w) := by
    intro w
    by_cases a : m < - 2 ^ (k - 1)
    · exact unsigned_low m k w h1 h2 pa pb a
    · exact unsigned_high m k w h1 h2 pa pb a (by omega)
  clear hl hu hm
  go_enter Try.func5, Try.ntmps5
  go_wp2_with fail
  refine (fixed_any _).mono ?_
  rintro e w1 ⟨rfl, hK⟩
  go_wp2_with fail
  refine (unsigned_yes n k _ h1 h2 pa pb (by have := HN.out; omega) (by have := HN.out; omega)).mono ?_
  rintro e w' ⟨rfl, hw'⟩; obtain rfl := hw'.symm
  go_wp2_with fail
  refine (signed_back n k _ h1 h2 HN.out.1 HN.out.2).mono ?_
  rintro e w' ⟨rfl, hw'⟩; obtain rfl := hw'.symm
  go_wp2_with fail
  refine (HC.out _).mono ?_
  rintro e w' ⟨rfl, hw'⟩; obtain rfl := hw'.symm
  go_wp2_with fail
  go_ret
  exact ⟨rfl, hK⟩

theorem signed_walk (n m k : Int) (w : World) (hk : (Lit.int .i64 k).wf = true) :
    Calls Try.prog 5 #[.int .i64 n, .int .i64 m, .int .i64 k] w fun e w' => e = .returned (.bool true) ∧ Below w.heap.size w w' := by
  have hb := wf_bd hk
  refine Calls.mono (R := fun e w' => e = .returned (.bool true) ∧ Keeps (fun _ => False) w w') ?_ fun e w' ⟨h1, h2⟩ => ⟨h1, h2.below (Nat.le_refl _) fun _ h => h.elim⟩
  by_cases h : k < 1 ∨ 32 < k
  · exact signed_wide n m k w hb.2 h
  · obtain ⟨j, rfl⟩ : ∃ j : Nat, k = (j : Int) := ⟨k.toNat, by omega⟩
    have h1 : 1 ≤ j := by omega
    have h2 : j ≤ 32 := by omega
    by_cases hn : n < - 2 ^ (j - 1) ∨ 2 ^ (j - 1) ≤ n
    · exact signed_out n m j w h1 h2 hn
    · by_cases hm : m < - 2 ^ (j - 1) ∨ 2 ^ (j - 1) ≤ m
      · exact signed_half n m j w h1 h2 (by omega) (by omega) hm
      · exact signed_in n m j w h1 h2 (by omega) (by omega) (by omega) (by omega)
end Go.Proofs.Ytonjmknjjdnjkaa
