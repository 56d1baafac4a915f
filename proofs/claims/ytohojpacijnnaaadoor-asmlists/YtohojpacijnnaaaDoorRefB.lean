import Derived.Test.YtohojpacijnnaaaDoorRef
namespace Go.Proofs.YtohojpacijnnaaaDoor.Is
open Go.RowKit
set_option linter.unusedVariables false

theorem flat3 (f : Nat → List Value) (hf : ∀ x, (f x).length = 3) : ∀ (l : List Nat) (i j : Nat), j < 3 → (l.flatMap f)[i * 3 + j]? = (l[i]?).bind fun x => (f x)[j]?
  | [], i, j, hj => by simp
  | x :: l, 0, j, hj => by
    simp only [List.flatMap_cons, Nat.zero_mul, Nat.zero_add, List.getElem?_cons_zero, Option.bind_some]
    rw [List.getElem?_append_left (by rw [hf]; exact hj)]
  | x :: l, i + 1, j, hj => by
    simp only [List.flatMap_cons, List.getElem?_cons_succ]
    rw [List.getElem?_append_right (by rw [hf]; omega), hf, show (i + 1) * 3 + j - 3 = i * 3 + j by omega]
    exact flat3 f hf l i j hj
theorem tabL_at (i j : Nat) (hi : i < 30) (hj : j < 3) : tabL[i * 3 + j]? = (rowAt (i + 1))[j]? := by
  unfold tabL
  rw [flat3 _ (fun x => rfl) _ i j hj]
  simp [hi]

set_option maxHeartbeats 1000000 in
theorem of_no (n : Int) (w : World) (hn : n < 1 ∨ 30 < n) : Calls Tryd.prog 31 #[.int .i64 n] w fun e w' => e = .returned (.tuple #[.agg #[.string ⟨#[]⟩, .int .i64 0, .int .i64 0], .bool false]) ∧ Below w.heap.size w w' := by
  have hn' : n < 1 ∨ (¬ n < 1 ∧ 30 < n) := by omega
  clear hn
  rcases hn' with hn | ⟨hn, hn2⟩
  all_goals (
    go_enter Tryd.func31, Tryd.ntmps31
    go_wp2_with fail
    refine (table_any _).mono ?_
    rintro e w1 ⟨rfl, hb1, hbel⟩
    have hb0 := (Blk.new w [.string ⟨#[]⟩, .int .i64 0, .int .i64 0] 63).below hbel
    have hw := below_all (below_new w _) hbel
    obtain ⟨g0, hg0⟩ : ∃ g0, g0 = w.heap.size := ⟨_, rfl⟩
    have hlo : w.heap.size ≤ g0 := by omega
    rw [← hg0] at hb0
    rw [← hg0]
    have HB : Hid (Blk _ _ _ _) := hb0
    have HW : Hid (_ ∧ _) := And.intro hw hlo
    clear hb0 hb1 hbel hw hg0 hlo
    go_wp2_with (refine wpList_store_row rfl rfl 63 (.tmp 2) (.tmp 14) rfl g0 rfl _ rfl _ 63 HB.out (by kernel_rfl) rfl rfl w.heap.size HW.out.2 ?_; intro W3 hB hK hs; refine Hid.out ?_)
    unfold Hid
    have HF : Hid (Below w.heap.size w W3) := HW.out.1.trans hK
    have HB3 : Hid (Blk _ _ _ _) := hB
    clear hB hK hs HB
    go_wp2
    refine bodyPost_ret (results_cell_two rfl _ _ g0 63 _ (0, 0) _ rfl HB3.out Tryd.underlying63 rfl (by kernel_rfl)) rfl ?_
    exact ⟨rfl, HF.out⟩)

set_option maxHeartbeats 1000000 in
theorem of_yes (i : Nat) (w : World) (hi : i < 30) : Calls Tryd.prog 31 #[.int .i64 ((i : Int) + 1)] w fun e w' => e = .returned (.tuple #[.agg #[.string (nameAt (i + 1)), .int .i64 (formAt (i + 1)), .int .i64 (costAt (i + 1))], .bool true]) ∧ Below w.heap.size w w' := by
  have t0 := tabL_at i 0 hi (by omega)
  have t1 := tabL_at i 1 hi (by omega)
  have t2 := tabL_at i 2 hi (by omega)
  simp only [rowAt, List.getElem?_cons_zero, List.getElem?_cons_succ, Nat.add_zero] at t0 t1 t2
  have h1 : ¬ ((i : Int) + 1 < 1) := by omega
  have h2 : ¬ (30 < (i : Int) + 1) := by omega
  revert t0 t1 t2
  generalize nameAt (i + 1) = nm
  generalize formAt (i + 1) = fm
  generalize costAt (i + 1) = co
  intro t0 t1 t2
  have HT : Hid (_ ∧ _ ∧ _) := And.intro t0 (And.intro t1 t2)
  clear t0 t1 t2
  go_enter Tryd.func31, Tryd.ntmps31
  go_wp2_with fail
  refine (table_any _).mono ?_
  rintro e w1 ⟨rfl, hb1, hbel⟩
  have hb0 := (Blk.new w [.string ⟨#[]⟩, .int .i64 0, .int .i64 0] 63).below hbel
  have hw := below_all (below_new w _) hbel
  obtain ⟨g1, hg1⟩ : ∃ g1, g1 = (w.alloc (.cells [Value.string ⟨#[]⟩, .int .i64 0, .int .i64 0].toArray 63)).heap.size := ⟨_, rfl⟩
  rw [← hg1] at hb1
  rw [← hg1]
  obtain ⟨g0, hg0⟩ : ∃ g0, g0 = w.heap.size := ⟨_, rfl⟩
  have hlo : w.heap.size ≤ g0 := by omega
  rw [← hg0] at hb0
  rw [← hg0]
  have c0 := hb1.cell _ HT.out.1
  have c1 := hb1.cell _ HT.out.2.1
  have c2 := hb1.cell _ HT.out.2.2
  have HB : Hid (Blk _ _ _ _) := hb0
  have HW : Hid (_ ∧ _) := And.intro hw hlo
  clear hb0 hb1 hbel hw hg0 hlo hg1
  go_wp2_with (refine wpList_store_row rfl rfl 63 (.tmp 2) (.tmp 19) rfl g0 rfl _ rfl _ 63 HB.out (by kernel_rfl) rfl rfl w.heap.size HW.out.2 ?_; intro W3 hB hK hs; refine Hid.out ?_)
  unfold Hid
  have HF : Hid (Below w.heap.size w W3) := HW.out.1.trans hK
  have HB3 : Hid (Blk _ _ _ _) := hB
  clear hB hK hs HB
  go_wp2
  refine bodyPost_ret (results_cell_two rfl _ _ g0 63 _ (0, 0) _ rfl HB3.out Tryd.underlying63 rfl (by kernel_rfl)) rfl ?_
  exact ⟨rfl, HF.out⟩
end Go.Proofs.YtohojpacijnnaaaDoor.Is
