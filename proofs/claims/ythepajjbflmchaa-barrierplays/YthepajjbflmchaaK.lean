import Derived.Test.YthepajjbflmchaaJ
namespace Go.Proofs.Ythepajjbflmchaa
open Go.RowKit
set_option linter.unusedVariables false

set_option maxRecDepth 20000 in
set_option maxHeartbeats 400000 in
theorem barrierNames_any (w : World) : Calls Try.prog 3 #[] w fun e w' => e = .returned (.bool true) ∧ Keeps (fun _ => False) w w' := by
  have HM := meets_any 4 4294967295 1 w (by omega) (by omega) (by omega)
  have e : ((4294967295 : UInt32).toNat : Int) = 4294967295 := rfl
  rw [e] at HM
  have HM : Hid (Calls _ _ _ _ _) := HM
  clear e
  go_enter Try.func3, Try.ntmps3
  go_wp2_with fail
  refine HM.out.mono ?_
  rintro e w1 ⟨rfl, hk⟩
  have HK : Hid (Keeps _ _ _) := hk
  clear hk HM
  go_wp2
  go_ret
  exact ⟨rfl, HK.out⟩

set_option maxRecDepth 20000 in
set_option maxHeartbeats 400000 in
theorem barrierMeets_any (c t : Nat) (y : UInt32) (w : World) (hc : c < 256) (ht : t < 256) : Calls Try.prog 5 #[.int .u8 (c : Int), .int .u32 (y.toNat : Int), .int .u8 (t : Int)] w fun e w' => e = .returned (.bool true) ∧ Keeps (fun _ => False) w w' := by
  have HM := meets_any (1 + c % 4) y (1 + t % 20) w (by omega) (by omega) (by omega)
  obtain ⟨Y, hY⟩ : ∃ Y : Nat, Y = y.toNat := ⟨_, rfl⟩
  rw [← hY] at HM ⊢
  have e1 : ((1 + c % 4 : Nat) : Int) = 1 + (c : Int) % 4 := by omega
  have e2 : ((1 + t % 20 : Nat) : Int) = 1 + (t : Int) % 20 := by omega
  rw [e1, e2] at HM
  have HM : Hid (Calls _ _ _ _ _) := HM
  have q1 : (c : Int) < 256 := by omega
  have q2 : (t : Int) < 256 := by omega
  clear hY e1 e2 hc ht
  go_enter Try.func5, Try.ntmps5
  go_wp2_with fail
  refine HM.out.mono ?_
  rintro e w1 ⟨rfl, hk⟩
  have HK : Hid (Keeps _ _ _) := hk
  clear hk HM
  go_wp2
  go_ret
  exact ⟨rfl, HK.out⟩

end Go.Proofs.Ythepajjbflmchaa
