import Derived.Test.YtajhkilclmicjaaDb
namespace Go.Proofs.Ytajhkilclmicjaa
open Go.RowKit Go.Shelf
set_option linter.unusedVariables false
set_option linter.unusedSimpArgs false
set_option maxRecDepth 6000

/-- A line's set, and whether a cache that used these lines holds one. -/
def has (us : List Int) (l : Nat) : Bool := decide ((l : Int) ∈ hd ((l % 4 : Nat) : Int) us)

theorem holdsR_nil (z : Int) (w : World) : Calls Try.prog 26 #[.pointer none, .int .i64 z] w fun r w' => r = .returned (.bool false) ∧ w' = w := by
  go_enter Try.func26, Try.ntmps26
  go_wp2
  go_ret
  exact ⟨rfl, rfl⟩

theorem holdsR_out (b : Nat) (z : Int) (w : World) (hz : ¬ (0 ≤ z ∧ z < 16384)) : Calls Try.prog 26 #[ptr b, .int .i64 z] w fun r w' => r = .returned (.bool false) ∧ w' = w := by
  have H1 : Hid (Calls _ _ _ _ _) := isWord_any z w
  rw [decide_eq_false hz] at H1
  clear hz
  go_enter Try.func26, Try.ntmps26
  go_wp2_with fail
  refine H1.out.mono ?_
  rintro r w1 ⟨rfl, rfl⟩
  clear H1
  go_wp2
  go_ret
  exact ⟨rfl, rfl⟩

theorem hd_len (s : Int) (us : List Int) : (hd s us).length ≤ 2 := by
  unfold hd lastTwo
  rw [List.length_drop]
  omega

set_option maxHeartbeats 1000000 in
theorem holdsR_any (b : Nat) (us : List Int) (u : Value) (F : Nat → Prop) (a l : Nat) (w : World) (h : Rc w b us u F) (hus : ∀ x ∈ us, 0 ≤ x) (ha : a < 16384) (hl : l = a / 4) :
    Calls Try.prog 26 #[ptr b, .int .i64 a] w fun r w' => r = .returned (.bool (has us l)) ∧ Keeps (fun _ => False) w w' := by
  have H1 : Hid (Calls _ _ _ _ _) := isWord_any a w
  rw [decide_eq_true (by omega)] at H1
  have H2 : Hid (Calls _ _ _ _ _) := held_any b us u F ((l % 4 : Nat) : Int) w h hus
  have hq : ((a : Int).tdiv 4) = l := by rw [Int.tdiv_eq_ediv_of_nonneg (by omega)]; omega
  have hr : Hid ((l : Int) % 4 = ((l % 4 : Nat) : Int)) := (by omega : (l : Int) % 4 = ((l % 4 : Nat) : Int))
  have ha2 : (a : Int) < 16384 := by omega
  have hw : wrap64 (l : Int) = l := by unfold wrap64; omega
  clear h hus ha hl
  go_enter Try.func26, Try.ntmps26
  go_wp2_with fail
  refine H1.out.mono ?_
  rintro r w1 ⟨rfl, rfl⟩
  clear H1
  go_wp2_with fail
  rw [hr.out]
  refine H2.out.mono ?_
  rintro r w2 ⟨v, rfl, hO, hN, hK⟩
  obtain ⟨c1, c2, rfl, hs, _, _⟩ := owns_seg hO
  have H3 : Hid (Calls _ _ _ _ _) := among_any c1 (hd ((l % 4 : Nat) : Int) us) c2 l w2 hs (by have := hd_len ((l % 4 : Nat) : Int) us; omega)
  have HK : Hid (Keeps (fun _ => False) w1 w2) := hK
  clear hO hN hK hs H2
  go_wp2_with fail
  refine H3.out.mono ?_
  rintro r w3 ⟨rfl, rfl⟩
  clear H3
  go_wp2
  go_ret
  exact ⟨rfl, HK.out⟩

end Go.Proofs.Ytajhkilclmicjaa
