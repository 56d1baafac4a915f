import Derived.Test.YtohojpacijnnaaaDoorCa
import Derived.Test.YtohojpacijnnaaaDoorIt
import Derived.Test.YtohojpacijnnaaaDoorRDecAll
import Derived.Test.YtohojpacijnnaaaDoorFind
import Derived.Test.YtohojpacijnnaaaDoorRdWord
import Derived.Lib.ItoaLen
import Derived.Laws.RangeString
namespace Go.Proofs.YtohojpacijnnaaaDoor
open Go.RowKit Go.Shelf
set_option linter.unusedVariables false
set_option maxRecDepth 6000

/-! ### Texts -/
def bst (l : List UInt8) : ByteArray := ⟨l.toArray⟩
theorem bst_append (a b : List UInt8) : bst a ++ bst b = bst (a ++ b) := by
  apply ByteArray.ext
  simp [bst]
theorem bst_size (l : List UInt8) : (bst l).size = l.length := by simp [bst, ByteArray.size]
theorem bst_list (s : ByteArray) : bst s.data.toList = s := rfl
/-- A number's text. -/
def tx (n : Int) : List UInt8 := Lib.itoa n
/-- The letters of a form's operands. -/
def letW (k : Int) : List UInt8 := if k = 2 then [97] else if k = 3 then [97, 98] else if k = 4 then [97, 98, 99] else if k = 5 then [97, 105] else if k = 6 then [97, 98, 105] else if k = 7 then [105] else []
/-- What a letter stands for. -/
def valW (x : Nat) (c : UInt8) : Int := if c = 97 then Is.rdA x else if c = 98 then Is.rdB x else if c = 99 then Is.rdC x else Is.rdI x
def opW (x : Nat) (c : UInt8) : List UInt8 := if c = 105 then tx (valW x c) else 114 :: tx (valW x c)
/-- The first j operands, with what stands ahead of each. -/
def opsW (x : Nat) : List UInt8 → Bool → List UInt8
  | [], _ => []
  | c :: r, first => (if first then [32] else [44, 32]) ++ opW x c ++ opsW x r false
theorem opsW_snoc (x : Nat) (l : List UInt8) (c : UInt8) (b : Bool) : opsW x (l ++ [c]) b = opsW x l b ++ ((if b && l.isEmpty then [32] else [44, 32]) ++ opW x c) := by
  induction l generalizing b with
  | nil => cases b <;> simp [opsW]
  | cons a r ih => simp [opsW, ih]
/-- A word's line, without its end. -/
def lineW (x : Nat) : List UInt8 :=
  if Is.decOk x then (Is.nameOf (Is.rdOp x)).data.toList ++ opsW x (letW (Is.formOf (Is.rdOp x))) true
  else [119, 111, 114, 100, 32] ++ Lib.decDigits x
theorem tx_length {n : Int} (h : -9223372036854775808 ≤ n ∧ n ≤ 9223372036854775807) : (tx n).length ≤ 21 := Lib.itoa_length_le n h.1 h.2
theorem letW_nat (k : Int) : (letW k).length ≤ 3 := by
  unfold letW
  repeat' split
  all_goals simp

/-! ### The tables -/
/-- All tables that are looked at. -/
structure Tabs (w : World) : Prop where
  isa : Is.Tabs w
  lets : ∃ cs t, w.heap[0]? = some (.cells cs t (0, 0)) ∧ ∀ k : Nat, k < 8 → cs[k]? = some (.string (bst (letW k)))
  pow : Lib.TabIs Tryd.prog w "internal/strconv.uint64pow10" .u64 Lib.pow10Tab
theorem pow_at : Tryd.prog.globalNamed "internal/strconv.uint64pow10" = some 3 := by kernel_rfl
end Go.Proofs.YtohojpacijnnaaaDoor
