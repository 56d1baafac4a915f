import Derived.Test.YthaoopaafdgioabP
namespace Go.Proofs.Ythaoopaafdgioab
open Go.RowKit
set_option linter.unusedVariables false
set_option linter.unusedSimpArgs false
set_option maxRecDepth 6000

/-- Nothing but the kernel's place. -/
def x3 : Cfg := ⟨0, 0, 3, 0, none, 0, [], none, 0, [], none, 0, []⟩
theorem x3_in (w : World) : x3.In w 0 := by
  refine ⟨.inl rfl, fun h => (h rfl).elim, ⟨by simp [x3], by simp [x3]⟩, fun y hy => by simp [x3] at hy, .inl rfl, fun h => (h rfl).elim, ⟨by simp [x3], by simp [x3]⟩, fun y hy => by simp [x3] at hy, .inl rfl, fun h => (h rfl).elim, ⟨by simp [x3], by simp [x3]⟩, fun y hy => by simp [x3] at hy, fun n hn => ?_⟩
  simp only [Cfg.ns, x3, List.mem_cons, List.not_mem_nil, or_false] at hn
  unfold I64
  rcases hn with rfl | rfl | rfl | rfl <;> omega
theorem x3_may : x3.mayB = true := by decide
theorem x3_end : rtAt x3 (rtB x3 (16 * x3.kernel)) x3.ps.length / 16 = 4 := by decide

set_option maxHeartbeats 4000000 in
theorem layoutNames_any (w : World) : Calls Try.prog 4 #[] w fun e w' => e = .returned (.bool true) ∧ Keeps (fun _ => False) w w' := by
  have HC : Hid (∀ w, Calls Try.prog 12 #[.agg #[.int .i64 0, .int .i64 0, .int .i64 3, .int .i64 0, .slice none 0 0, .slice none 0 0, .slice none 0 0]] w (OfP x3 w)) := fun w => Of_any x3 w 0 (x3_in w) (Nat.zero_le _)
  go_enter Try.func4, Try.ntmps4
  go_wp2_with fail
  refine (HC.out _).mono ?_
  rintro e w1 ⟨hK, h | ⟨_, b1, b2, F, G, T, D, rfl, _⟩⟩
  · have := h.1; rw [x3_may] at this; cases this
  have HK : Hid (Keeps (fun _ => False) w w1) := hK
  rw [x3_end, show 16 * x3.kernel = 48 from rfl]
  clear hK HC
  go_wp2
  go_ret
  exact ⟨rfl, HK.out.alloc _⟩
end Go.Proofs.Ythaoopaafdgioab
