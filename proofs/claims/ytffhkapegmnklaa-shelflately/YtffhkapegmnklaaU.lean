import Derived.Test.YtffhkapegmnklaaT
import Derived.Deep.Grids
namespace Go.Proofs.Ytffhkapegmnklaa
open Go.ChangeShapes Go.WideShapes Go.ChangeAt Go.RowKit Go.Deep
set_option linter.unusedVariables false

/-- A list of answers that came in. -/
theorem bools_in {H : Type} {enc : TypeId × Value → H} {W : World} {v : Value} {d : DataW H} {p : List MemPlace} {base : Nat} (hv : Value.okWide Try.prog W .any base 34 v)
    (h : DataW.Trod enc Try.prog W 0 (fun _ => true) true 34 v d p) : ∃ a n c, v = .slice a n c ∧ n ≤ maxLen ∧ True ∧ SegB W a n := by
  obtain ⟨a0, len0, cap0, rfl⟩ := okWide_slice Try.underlying34 hv
  obtain ⟨fuel, hf⟩ := h
  rcases open_bools Try.underlying34 Try.underlying4 (by kernel_rfl) hf with ⟨hcs, _⟩ | ⟨x, len, cap, B, hcs, _, hl, hm, _, hcell⟩
  · simp [Value.cells] at hcs
    obtain ⟨rfl, rfl, rfl⟩ := hcs
    exact ⟨none, 0, 0, rfl, Nat.zero_le _, trivial, .inl rfl⟩
  · simp [Value.cells] at hcs
    obtain ⟨rfl, rfl, rfl⟩ := hcs
    refine ⟨some x, len0, cap0, rfl, by omega, trivial, ?_⟩
    by_cases h0 : len0 = 0
    · exact .inl h0
    · obtain ⟨b, off, spot⟩ := x
      have hc := hcell 0 (by omega)
      have hspot : spot = none := by simpa [Addr.add] using World.cell?_spot hc
      subst hspot
      refine .inr ⟨b, off, rfl, fun j hj => ⟨B j, ?_⟩⟩
      have h1 := hcell j (by omega)
      rw [addr_add] at h1
      exact h1

theorem lately_law (room : Int) (a1 : Option Addr) (ws : List Int) (c1 : Nat) (a2 : Option Addr) (n2 : Nat) (c2 : Nat) (w : World) (hr : I64 room) (hu : SegI w a1 ws) (lu : ws.length ≤ maxLen) (bu : ∀ x ∈ ws, I64 x)
    (hv : SegB w a2 n2) (lv : n2 ≤ maxLen) (bv : True) :
    Calls Try.prog 4 #[.int .i64 room, .slice a1 ws.length c1, .slice a2 n2 c2] w fun r w' => r = .returned (.bool true) ∧ Keeps (fun _ => False) w w' := by
  unfold maxLen at lu lv
  by_cases hl : (ws.length : Int) > 2147483647
  · exact lt_long room a1 a2 ws.length n2 c1 c2 w (by omega) (by omega) hl
  · by_cases hro : room < 1 ∨ 4096 < room
    · exact lt_room room a1 a2 ws.length n2 c1 c2 w (by omega) (by omega) hro
    · obtain ⟨rm, rfl⟩ : ∃ rm : Nat, room = rm := ⟨room.toNat, by omega⟩
      exact lt_main rm a1 a2 ws n2 c1 c2 w (by omega) (by omega) hu hv bu (by omega) (by omega)

end Go.Proofs.Ytffhkapegmnklaa
