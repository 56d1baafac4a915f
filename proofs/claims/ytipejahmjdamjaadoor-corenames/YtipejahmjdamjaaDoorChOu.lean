import Derived.Test.YtipejahmjdamjaaDoorChNe
namespace Go.Proofs.YtipejahmjdamjaaDoor.Ch
open Go.RowKit

theorem cell_kept {S : Nat → Prop} {w w' : World} {a : Addr} {v : Value} (h : w.cell? a = some v) (hK : Keeps S w w') (hn : ¬ S a.block) : w'.cell? a = some v := by
  rw [World.cell?_of_block (w := w) (hK.block a.block (World.block_lt_of_cell? w a h) hn)]
  exact h

end Go.Proofs.YtipejahmjdamjaaDoor.Ch
