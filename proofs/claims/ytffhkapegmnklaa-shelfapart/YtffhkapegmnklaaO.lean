import Derived.Test.YtffhkapegmnklaaN
namespace Go.Proofs.Ytffhkapegmnklaa
open Go.RowKit Go.Shelf
set_option linter.unusedVariables false

theorem apart_any (room : Int) (a1 : Option Addr) (us : List Int) (c1 : Nat) (a2 : Option Addr) (vs : List Int) (c2 : Nat) (w : World) (hr : I64 room) (hu : SegI w a1 us) (lu : us.length ≤ maxLen) (bu : ∀ x ∈ us, I64 x)
    (hv : SegI w a2 vs) (lv : vs.length ≤ maxLen) (bv : ∀ x ∈ vs, I64 x) :
    Calls Try.prog 6 #[.int .i64 room, .slice a1 us.length c1, .slice a2 vs.length c2] w fun r w' => r = .returned (.bool true) ∧ Keeps (fun _ => False) w w' := by
  unfold maxLen at lu lv
  by_cases hl : (us.length : Int) > 2147483647 ∨ (vs.length : Int) > 2147483647
  · exact apart_long room a1 a2 us.length vs.length c1 c2 w (by omega) (by omega) hl
  · by_cases hro : room < 1 ∨ 4096 < room
    · exact apart_room room a1 a2 us.length vs.length c1 c2 w (by omega) (by omega) hro
    · obtain ⟨rm, rfl⟩ : ∃ rm : Nat, room = rm := ⟨room.toNat, by omega⟩
      exact apart_main rm a1 a2 us vs c1 c2 w (by omega) (by omega) hu hv bu bv (by omega) (by omega)

end Go.Proofs.Ytffhkapegmnklaa
