import Derived.Test.YtipejahmjdamjaaDoorG
namespace Go.Proofs.YtipejahmjdamjaaDoor
open Go.RowKit
set_option linter.unusedVariables false

/-- Are all of these rights among those? -/
def subR (a b : Nat) : Bool := decide (a &&& b = a)
def addrE (n : Nat) (xs : List UInt32) (root a rights : Int) : Nat :=
  if ¬ (0 ≤ rights ∧ rights < 8) then 90 else if ¬ (0 ≤ root ∧ root < n) then 91 else if ¬ (0 ≤ a ∧ a < 4096) then 92 else
  if walkE n xs root (a / 16) ≠ 0 then walkE n xs root (a / 16) else if subR rights.toNat (walkL n xs root (a / 16)).rights then 0 else 93
def addrV (n : Nat) (xs : List UInt32) (root a rights : Int) : Nat := if addrE n xs root a rights = 0 then 16 * (walkL n xs root (a / 16)).frame + a.toNat % 16 else 0

theorem walkL_rights (n : Nat) (xs : List UInt32) (root page : Int) : (walkL n xs root page).rights < 8 := by
  unfold walkL; split
  · exact rts_lt _
  · show 0 < 8; omega
theorem walkL_frame (n : Nat) (xs : List UInt32) (root page : Int) : (walkL n xs root page).frame < 1024 := by
  unfold walkL; split
  · exact frm_lt _
  · show 0 < 1024; omega

theorem andNot_sub (a b : Nat) (ha : a < 8) (hb : b < 8) : (bits .andNot .i64 (a : Int) (b : Int) != 0) = !subR a b := by
  have all : ∀ a : Fin 8, ∀ b : Fin 8, (bits .andNot .i64 ((a.val : Nat) : Int) ((b.val : Nat) : Int) != 0) = !subR a.val b.val := by decide +kernel
  exact all ⟨a, ha⟩ ⟨b, hb⟩

end Go.Proofs.YtipejahmjdamjaaDoor
