import Derived.Test.YtffhkapegmnklaaWb
namespace Go.Proofs.Ytffhkapegmnklaa
open Go.RowKit Go.Shelf
set_option linter.unusedVariables false

theorem walks_any (room : Int) (a1 : Option Addr) (ws : List Int) (c1 : Nat) (stop other : Int) (w : World) (hr : I64 room) (hu : SegI w a1 ws) (lu : ws.length ≤ maxLen) (bu : ∀ x ∈ ws, I64 x) (hs : I64 stop) (ho : I64 other) :
    Calls Try.prog 5 #[.int .i64 room, .slice a1 ws.length c1, .int .i64 stop, .int .i64 other] w fun r w' => r = .returned (.bool true) ∧ Keeps (fun _ => False) w w' := by
  unfold maxLen at lu
  by_cases hl : (ws.length : Int) > 2147483647
  · exact wk_long room stop other a1 ws.length c1 w (by omega) hl
  · by_cases hro : room < 1 ∨ 4096 < room
    · exact wk_room room stop other a1 ws.length c1 w (by omega) hro
    · obtain ⟨rm, rfl⟩ : ∃ rm : Nat, room = rm := ⟨room.toNat, by omega⟩
      exact wk_main rm a1 ws c1 stop other w (by omega) (by omega) hu bu ho (by omega)

end Go.Proofs.Ytffhkapegmnklaa
