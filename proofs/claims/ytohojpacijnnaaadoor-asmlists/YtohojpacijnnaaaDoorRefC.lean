import Derived.Test.YtohojpacijnnaaaDoorRefB
namespace Go.Proofs.YtohojpacijnnaaaDoor.Is
open Go.RowKit
set_option linter.unusedVariables false

/-- What 'of' answers. -/
theorem of_any (n : Int) (w : World) : Calls Tryd.prog 31 #[.int .i64 n] w fun e w' => ∃ ok, e = .returned (.tuple #[.agg #[.string (nameOf n), .int .i64 (formOf n), .int .i64 (costOf n)], .bool ok]) ∧ Below w.heap.size w w' := by
  by_cases hn : n < 1 ∨ 30 < n
  · have e : rowOf n = 0 := by
      unfold rowOf
      by_cases h : n < 0 ∨ 31 ≤ n
      · rw [if_pos h]
      · rw [if_neg h]; omega
    have := of_no n w hn
    unfold nameOf formOf costOf
    rw [e]
    exact this.mono fun e w' h => ⟨false, h⟩
  · obtain ⟨i, rfl⟩ : ∃ i : Nat, n = (i : Int) + 1 := ⟨(n - 1).toNat, by omega⟩
    have e : rowOf ((i : Int) + 1) = i + 1 := by unfold rowOf; rw [if_neg (by omega)]; omega
    have := of_yes i w (by omega)
    unfold nameOf formOf costOf
    rw [e]
    exact this.mono fun e w' h => ⟨true, h⟩

set_option maxHeartbeats 400000 in
theorem rform_any (n : Int) (w : World) : Calls Tryd.prog 27 #[.int .i64 n] w fun e w' => e = .returned (.int .i64 (formOf n)) ∧ Below w.heap.size w w' := by
  have ho := of_any n w
  revert ho
  generalize nameOf n = nm
  generalize formOf n = fm
  generalize costOf n = co
  intro ho
  have HO : Hid (Calls _ _ _ _ _) := ho
  clear ho
  go_enter Tryd.func27, Tryd.ntmps27
  go_wp2_with fail
  refine HO.out.mono ?_
  rintro e w1 ⟨ok, rfl, hb⟩
  have HB : Hid (Below _ _ _) := hb
  clear hb
  go_wp2
  go_ret
  exact ⟨rfl, below_all HB.out (below_new _ _)⟩

set_option maxHeartbeats 400000 in
theorem rname_any (n : Int) (w : World) : Calls Tryd.prog 18 #[.int .i64 n] w fun e w' => e = .returned (.string (nameOf n)) ∧ Below w.heap.size w w' := by
  have ho := of_any n w
  revert ho
  generalize nameOf n = nm
  generalize formOf n = fm
  generalize costOf n = co
  intro ho
  have HO : Hid (Calls _ _ _ _ _) := ho
  clear ho
  go_enter Tryd.func18, Tryd.ntmps18
  go_wp2_with fail
  refine HO.out.mono ?_
  rintro e w1 ⟨ok, rfl, hb⟩
  have HB : Hid (Below _ _ _) := hb
  clear hb
  go_wp2
  go_ret
  exact ⟨rfl, below_all HB.out (below_new _ _)⟩

set_option maxHeartbeats 400000 in
theorem results_tmp4 {fn : Func} {t u v x : Tmp} (h : fn.results = #[.tmp t, .tmp u, .tmp v, .tmp x]) (tmps : Array Value) (P : Program) (w : World) :
    (results fn tmps).run P w = .ok (.tuple #[tmps.getD t undef, tmps.getD u undef, tmps.getD v undef, tmps.getD x undef]) w := by
  simp [results, h]

set_option maxHeartbeats 400000 in
theorem has_at (k : Nat) (hk : k < 8) (w : World) : Calls Tryd.prog 26 #[.int .i64 (k : Int)] w fun e w' => e = .returned (.tuple #[.bool (hasA k), .bool (hasB k), .bool (hasC k), .bool (hasI k)]) ∧ w' = w := by
  have e : k = 0 ∨ k = 1 ∨ k = 2 ∨ k = 3 ∨ k = 4 ∨ k = 5 ∨ k = 6 ∨ k = 7 := by omega
  rcases e with rfl | rfl | rfl | rfl | rfl | rfl | rfl | rfl
  all_goals (
    go_enter Tryd.func26, Tryd.ntmps26
    go_wp2
    refine bodyPost_ret (results_tmp4 rfl _ _ _) rfl ?_
    exact ⟨rfl, rfl⟩)

set_option maxHeartbeats 400000 in
theorem right_any (n : Int) (there : Bool) (w : World) : Calls Tryd.prog 37 #[.bool there, .int .i64 n] w fun e w' => e = .returned (.bool (fitB there n)) ∧ w' = w := by
  cases there
  · go_enter Tryd.func37, Tryd.ntmps37
    go_wp2
    go_ret
    exact ⟨ret_bool (by simp [fitB]; rfl), rfl⟩
  · by_cases h1 : 0 ≤ n
    · by_cases h2 : n ≤ 15
      · have e : fitB true n = true := by simp [fitB]; omega
        rw [e]; clear e
        go_enter Tryd.func37, Tryd.ntmps37
        go_wp2
        go_ret
        exact ⟨rfl, rfl⟩
      · have e : fitB true n = false := by simp [fitB]; omega
        rw [e]; clear e
        go_enter Tryd.func37, Tryd.ntmps37
        go_wp2
        go_ret
        exact ⟨rfl, rfl⟩
    · have e : fitB true n = false := by simp [fitB]; omega
      rw [e]; clear e
      go_enter Tryd.func37, Tryd.ntmps37
      go_wp2
      go_ret
      exact ⟨rfl, rfl⟩
end Go.Proofs.YtohojpacijnnaaaDoor.Is
