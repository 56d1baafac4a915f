import Derived.Test.YtohojpacijnnaaaDoorProg
import Derived.WalkKit
import Derived.WalkSpells
import Derived.WalkLawsBesides
import Derived.Deep.QuietTactic
import Derived.BigQuiet
import Derived.Below
import Derived.Laws.CopyRow
import Derived.Laws.Rows
namespace Go.Proofs.YtohojpacijnnaaaDoor.Is
open Go.RowKit
set_option linter.unusedVariables false

/-- The names of the operations by their numbers; 0 has none. -/
def names : List ByteArray := [⟨#[]⟩, ⟨#[110, 111, 112]⟩, ⟨#[109, 111, 118]⟩, ⟨#[108, 105]⟩, ⟨#[104, 105]⟩, ⟨#[97, 100, 100]⟩, ⟨#[115, 117, 98]⟩, ⟨#[109, 117, 108]⟩, ⟨#[100, 105, 118]⟩, ⟨#[114, 101, 109]⟩, ⟨#[97, 110, 100]⟩, ⟨#[111, 114]⟩, ⟨#[120, 111, 114]⟩, ⟨#[115, 104, 108]⟩, ⟨#[115, 104, 114]⟩, ⟨#[115, 97, 114]⟩, ⟨#[115, 108, 116]⟩, ⟨#[115, 108, 116, 117]⟩, ⟨#[97, 100, 100, 105]⟩, ⟨#[108, 100]⟩, ⟨#[115, 116]⟩, ⟨#[98, 101, 113]⟩, ⟨#[98, 110, 101]⟩, ⟨#[98, 108, 116]⟩, ⟨#[98, 103, 101]⟩, ⟨#[98, 108, 116, 117]⟩, ⟨#[106, 109, 112]⟩, ⟨#[106, 97, 108]⟩, ⟨#[106, 114]⟩, ⟨#[99, 121, 99]⟩, ⟨#[104, 121, 112]⟩]
def forms : List Int := [0, 1, 3, 5, 5, 4, 4, 4, 4, 4, 4, 4, 4, 4, 4, 4, 4, 4, 6, 6, 6, 6, 6, 6, 6, 6, 7, 5, 2, 2, 7]
def costs : List Int := [0, 1, 1, 1, 1, 1, 1, 3, 8, 8, 1, 1, 1, 1, 1, 1, 1, 1, 1, 1, 1, 1, 1, 1, 1, 1, 1, 1, 1, 1, 24]
def nameAt (i : Nat) : ByteArray := names.getD i ⟨#[]⟩
def formAt (i : Nat) : Int := forms.getD i 0
def costAt (i : Nat) : Int := costs.getD i 0
/-- One row's cells. -/
def rowAt (i : Nat) : List Value := [.string (nameAt i), .int .i64 (formAt i), .int .i64 (costAt i)]
def hasA (f : Int) : Bool := f == 2 || f == 3 || f == 4 || f == 5 || f == 6
def hasB (f : Int) : Bool := f == 3 || f == 4 || f == 6
def hasC (f : Int) : Bool := f == 4
def hasI (f : Int) : Bool := f == 5 || f == 6 || f == 7
def shapeAt (i : Nat) : List Value := [.bool (hasA i), .bool (hasB i), .bool (hasC i), .bool (hasI i)]

/-- The two tables of package isa lie as the text lays them. -/
structure Tabs (w : World) : Prop where
  ops : ∃ cs t, w.heap[1]? = some (.cells cs t (0, 0)) ∧ ∀ i, i < 31 → ∀ j, j < 3 → cs[i * 3 + j]? = (rowAt i)[j]?
  shapes : ∃ cs t, w.heap[2]? = some (.cells cs t (0, 0)) ∧ ∀ i, i < 8 → ∀ j, j < 4 → cs[i * 4 + j]? = (shapeAt i)[j]?

theorem Tabs.keep {w w' : World} (h : Tabs w) (hb : Below w.heap.size w w') : Tabs w' := by
  obtain ⟨⟨cs, t, h1, h2⟩, cs', t', h3, h4⟩ := h
  exact ⟨⟨cs, t, by rw [hb.block 1 (Array.getElem?_eq_some_iff.1 h1).1]; exact h1, h2⟩, cs', t', by rw [hb.block 2 (Array.getElem?_eq_some_iff.1 h3).1]; exact h3, h4⟩
theorem Tabs.op {w : World} (h : Tabs w) (i j : Nat) (hi : i < 31) (hj : j < 3) : w.cell? ⟨1, i * 3 + j, none⟩ = (rowAt i)[j]? := by
  obtain ⟨cs, t, h1, h2⟩ := h.ops
  simp only [World.cell?, h1]
  exact h2 i hi j hj
theorem Tabs.shape {w : World} (h : Tabs w) (i j : Nat) (hi : i < 8) (hj : j < 4) : w.cell? ⟨2, i * 4 + j, none⟩ = (shapeAt i)[j]? := by
  obtain ⟨cs, t, h1, h2⟩ := h.shapes
  simp only [World.cell?, h1]
  exact h2 i hi j hj
theorem Tabs.name {w : World} (h : Tabs w) (i : Nat) (hi : i < 31) : w.cell? ⟨1, i * 3, none⟩ = some (.string (nameAt i)) := h.op i 0 hi (by omega)
theorem Tabs.form {w : World} (h : Tabs w) (i : Nat) (hi : i < 31) : w.cell? ⟨1, i * 3 + 1, none⟩ = some (.int .i64 (formAt i)) := h.op i 1 hi (by omega)
theorem Tabs.cost {w : World} (h : Tabs w) (i : Nat) (hi : i < 31) : w.cell? ⟨1, i * 3 + 2, none⟩ = some (.int .i64 (costAt i)) := h.op i 2 hi (by omega)

/-- The row that speaks of an operation. -/
def rowOf (n : Int) : Nat := if n < 0 ∨ 31 ≤ n then 0 else n.toNat
theorem rowOf_lt (n : Int) : rowOf n < 31 := by unfold rowOf; split <;> omega
def formOf (n : Int) : Int := formAt (rowOf n)
def nameOf (n : Int) : ByteArray := nameAt (rowOf n)
def costOf (n : Int) : Int := costAt (rowOf n)

set_option maxHeartbeats 400000 in
theorem row_any (n : Int) (w : World) : Calls Tryd.prog 36 #[.int .i64 n] w fun e w' => e = .returned (.int .i64 (rowOf n)) ∧ w' = w := by
  by_cases h0 : n < 0
  · have e : rowOf n = 0 := by unfold rowOf; rw [if_pos (.inl h0)]
    rw [e]
    clear e
    go_enter Tryd.func36, Tryd.ntmps36
    go_wp2
    go_ret
    exact ⟨rfl, rfl⟩
  · by_cases h1 : 31 ≤ n
    · have e : rowOf n = 0 := by unfold rowOf; rw [if_pos (.inr h1)]
      rw [e]
      clear e
      go_enter Tryd.func36, Tryd.ntmps36
      go_wp2
      go_ret
      exact ⟨rfl, rfl⟩
    · have e : ((rowOf n : Nat) : Int) = n := by unfold rowOf; rw [if_neg (by omega)]; omega
      rw [e]
      clear e
      go_enter Tryd.func36, Tryd.ntmps36
      go_wp2
      go_ret
      exact ⟨rfl, rfl⟩

set_option maxHeartbeats 400000 in
theorem form_any (n : Int) (w : World) (h : Tabs w) : Calls Tryd.prog 23 #[.int .i64 n] w fun e w' => e = .returned (.int .i64 (formOf n)) ∧ w' = w := by
  have hc := h.form (rowOf n) (rowOf_lt n)
  have hlt := rowOf_lt n
  unfold formOf
  revert hc hlt
  have hr := row_any n w
  revert hr
  generalize rowOf n = r
  intro hr hc hlt
  have HR : Hid (Calls _ _ _ _ _) := hr
  clear hr h
  go_enter Tryd.func23, Tryd.ntmps23
  go_wp2_with (go_at_call 36; refine HR.out.mono ?_; rintro e w' ⟨rfl, rfl⟩)
  go_ret
  exact ⟨rfl, rfl⟩
end Go.Proofs.YtohojpacijnnaaaDoor.Is
