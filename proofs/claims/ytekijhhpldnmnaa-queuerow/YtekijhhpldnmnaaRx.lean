import Derived.Test.YtekijhhpldnmnaaRw
namespace Go.Proofs.Ytekijhhpldnmnaa
open Go.RowKit
set_option linter.unusedVariables false
set_option linter.unusedSimpArgs false

set_option maxRecDepth 40000 in
set_option maxHeartbeats 2000000 in
theorem queueRow_any (n d : Int) (aa : Option Addr) (ca : Nat) (acts : List Ac) (w : World) (hl : acts.length ≤ ca ∧ ca ≤ maxLen) (hs : SegAc w aa acts) (hok : ∀ o ∈ acts, o.Ok w) (hz : ∀ o ∈ acts, o.Sz) :
    Calls Try.prog 4 #[.int .i64 n, .int .i64 d, .slice aa acts.length ca] w fun e w' => e = .returned (.bool true) ∧ Keeps (fun _ => False) w w' := by
  by_cases hbad : n < 1 ∨ 16 < n ∨ d < 1 ∨ 8 < d ∨ 400 < acts.length
  · obtain ⟨L, hL⟩ : ∃ L, L = acts.length := ⟨_, rfl⟩
    rw [← hL] at hbad ⊢
    clear hL hs hok hz hl
    have HK : Hid (Keeps (fun _ => False) w w) := Keeps.refl _ _
    by_cases b1 : n < 1
    · clear hbad
      go_enter Try.func4, Try.ntmps4
      go_wp2
      go_ret
      exact ⟨rfl, HK.out⟩
    · by_cases b2 : 16 < n
      · clear hbad
        go_enter Try.func4, Try.ntmps4
        go_wp2
        go_ret
        exact ⟨rfl, HK.out⟩
      · by_cases b3 : d < 1
        · clear hbad
          go_enter Try.func4, Try.ntmps4
          go_wp2
          go_ret
          exact ⟨rfl, HK.out⟩
        · by_cases b4 : 8 < d
          · clear hbad
            go_enter Try.func4, Try.ntmps4
            go_wp2
            go_ret
            exact ⟨rfl, HK.out⟩
          · have b5 : 400 < (L : Int) := by omega
            clear hbad
            go_enter Try.func4, Try.ntmps4
            go_wp2
            go_ret
            exact ⟨rfl, HK.out⟩
  · obtain ⟨n', rfl⟩ : ∃ k : Nat, n = k := ⟨n.toNat, by omega⟩
    obtain ⟨d', rfl⟩ : ∃ k : Nat, d = k := ⟨d.toNat, by omega⟩
    exact queueRow_in n' d' aa ca acts w (by omega) (by omega) (by omega) (by omega) (by omega) hs hok hz

end Go.Proofs.Ytekijhhpldnmnaa
