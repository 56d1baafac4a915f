import Derived.Test.YtjpilhnkhhhdeaaLawA
namespace Go.Proofs.Ytjpilhnkhhhdeaa
open Go.RowKit
set_option linter.unusedVariables false

/-- A word that is made, by its operation's number. -/
def Made (k : Int) (x y v : Nat) : Prop := Hid (∀ w : World, Calls Try.prog 17 #[.int .i64 k, .int .u32 x, .int .u32 y] w fun e w' => e = .returned (.tuple #[.int .u32 (v : Int), .bool true]) ∧ w' = w)
theorem made_of (k : Nat) (x y v : Nat) (hx : x < 4294967296) (hy : y < 4294967296) (h1 : 5 ≤ k) (h2 : k ≤ 17) (h0 : k = 8 ∨ k = 9 → 0 < y) (hv : res k x y = v) : Made (k : Int) x y v := by
  subst hv
  exact fun w => done_yes k x y w hx hy h1 h2 h0

set_option maxHeartbeats 1000000 in
theorem aluTurns_any (x y : Nat) (w : World) (hx : x < 4294967296) (hy : y < 4294967296) : Calls Try.prog 8 #[.int .u32 x, .int .u32 y] w fun e w' => e = .returned (.bool true) ∧ w' = w := by
  have hA := lt32_and x y hx hy
  have hO := lt32_or x y hx hy
  have hR := lt32_xor x y hx hy
  obtain ⟨j1, j2⟩ := and_add_or 32 x y hx hy
  obtain ⟨s, hs⟩ : ∃ s, s = wd ((x : Int) + y) := ⟨_, rfl⟩
  have hs' : s < 4294967296 := by rw [hs]; exact wd_lt _
  have C1 : Made 5 x y s := made_of 5 x y s hx hy (by omega) (by omega) (by omega) hs.symm
  have C2 : Made 6 s y x := made_of 6 s y x hs' hy (by omega) (by omega) (by omega) (by
    show wd ((s : Int) - y) = x
    rw [hs]; unfold wd; omega)
  have C3 : Made 10 x y (x &&& y) := made_of 10 x y _ hx hy (by omega) (by omega) (by omega) rfl
  have C4 : Made 12 x y (x ^^^ y) := made_of 12 x y _ hx hy (by omega) (by omega) (by omega) rfl
  have C5 : Made 11 x y (x ||| y) := made_of 11 x y _ hx hy (by omega) (by omega) (by omega) rfl
  have C6 : Made 5 (x &&& y) (x ||| y) s := made_of 5 _ _ _ hA hO (by omega) (by omega) (by omega) (by
    show wd (((x &&& y : Nat) : Int) + ((x ||| y : Nat) : Int)) = s
    rw [hs, ← Int.natCast_add, j1, Int.natCast_add])
  have C7 : Made 5 (x &&& y) (x ^^^ y) (x ||| y) := made_of 5 _ _ _ hA hR (by omega) (by omega) (by omega) (by
    show wd (((x &&& y : Nat) : Int) + ((x ^^^ y : Nat) : Int)) = _
    rw [← Int.natCast_add, j2, wd_nat]
    omega)
  unfold Made at *
  clear j1 j2 hs
  revert C1 C2 C3 C4 C5 C6 C7 hA hO hR
  generalize x &&& y = A
  generalize x ||| y = O
  generalize x ^^^ y = R
  intro hA hO hR C1 C2 C3 C4 C5 C6 C7
  go_enter Try.func8, Try.ntmps8
  go_wp2_with fail
  refine (C1.out _).mono ?_
  rintro e w1 ⟨rfl, hw⟩
  obtain rfl := hw.symm
  clear hw
  go_wp2_with fail
  refine (C2.out _).mono ?_
  rintro e w1 ⟨rfl, hw⟩
  obtain rfl := hw.symm
  clear hw
  go_wp2_with fail
  refine (C3.out _).mono ?_
  rintro e w1 ⟨rfl, hw⟩
  obtain rfl := hw.symm
  clear hw
  go_wp2_with fail
  refine (C4.out _).mono ?_
  rintro e w1 ⟨rfl, hw⟩
  obtain rfl := hw.symm
  clear hw
  go_wp2_with fail
  refine (C5.out _).mono ?_
  rintro e w1 ⟨rfl, hw⟩
  obtain rfl := hw.symm
  clear hw
  go_wp2_with fail
  refine (C6.out _).mono ?_
  rintro e w1 ⟨rfl, hw⟩
  obtain rfl := hw.symm
  clear hw
  go_wp2_with fail
  refine (C7.out _).mono ?_
  rintro e w1 ⟨rfl, hw⟩
  obtain rfl := hw.symm
  clear hw
  go_wp2_with fail
  go_ret
  exact ⟨ret_bool (by simp), rfl⟩
end Go.Proofs.Ytjpilhnkhhhdeaa
