import Derived.Test.YtipejahmjdamjaaGreatDoorMem
namespace Go.Proofs.YtipejahmjdamjaaGreatDoor
open Go.RowKit

theorem Keeps.fromDrewN {S : Nat → Prop} {w w' : World} {n : Nat} (h : Keeps S (w.drewN n) w') : Keeps S w w' := ⟨h.os, h.tape, h.output, h.size, h.block⟩
theorem Keeps.of_grown {w w' : World} {row : Option Nat} (h : w.grownBy w' row) : Keeps (fun k => some k = row) w w' :=
  ⟨h.os, h.tape, h.output, h.size, fun k hk hn => h.block k hk hn⟩

end Go.Proofs.YtipejahmjdamjaaGreatDoor
