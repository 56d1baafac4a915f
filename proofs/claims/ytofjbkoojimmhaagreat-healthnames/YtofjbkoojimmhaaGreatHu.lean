import Derived.Test.YtofjbkoojimmhaaGreatHq
namespace Go.Proofs.YtofjbkoojimmhaaGreat
open Go.RowKit Go.Shelf
set_option linter.unusedVariables false
set_option maxRecDepth 6000
set_option linter.unusedSimpArgs false

/-- The empty configuration. -/
def cfg0 : Cfg := ⟨0, 0, 0, 0, none, 0, [], none, 0, [], none, 0, []⟩
theorem cfg0_in (w : World) : cfg0.In w w.heap.size :=
  ⟨.inl rfl, fun h => absurd rfl h, ⟨Nat.le_refl _, by decide⟩, (fun _ h => by cases h), .inl rfl, fun h => absurd rfl h, ⟨Nat.le_refl _, by decide⟩, (fun _ h => by cases h), .inl rfl, fun h => absurd rfl h, ⟨Nat.le_refl _, by decide⟩, (fun _ h => by cases h), (by
    intro n hn
    simp [Cfg.ns, cfg0] at hn
    rcases hn with rfl
    exact ⟨by decide, by decide⟩)⟩
theorem healthNames_any (w : World) : Calls Tryz.prog 6 #[] w fun e w' => e = .returned (.bool true) ∧ Keeps (fun _ => False) w w' := by
  have HC : Hid (Calls Tryz.prog 15 #[.agg #[.int .i64 0, .int .i64 0, .int .i64 0, .int .i64 0, .slice none 0 0, .slice none 0 0, .slice none 0 0]] w (NewP cfg0 w)) := new_any cfg0 w w.heap.size (cfg0_in w) (Nat.le_refl _)
  go_enter Tryz.func6, Tryz.ntmps6
  go_wp2_with fail
  refine HC.out.mono ?_
  rintro e w1 ⟨hK, ⟨_, rfl⟩ | ⟨hg, _⟩⟩
  · have HK : Hid (Keeps (fun _ => False) w w1) := hK
    clear hK HC
    go_wp2
    go_ret
    exact ⟨rfl, HK.out⟩
  · exact absurd hg.frames.1 (by decide)
end Go.Proofs.YtofjbkoojimmhaaGreat
