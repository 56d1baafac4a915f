import Derived.Test.YtohojpacijnnaaaDoorRefC
namespace Go.Proofs.YtohojpacijnnaaaDoor.Is
open Go.RowKit
set_option linter.unusedVariables false

/-- What Find answers to a name: the first operation of that name, or none. -/
def FindIs (s : ByteArray) (v : Value) : Prop :=
  (∃ j : Nat, 1 ≤ j ∧ j < 31 ∧ nameAt j = s ∧ (∀ i : Nat, 1 ≤ i → i < j → nameAt i ≠ s) ∧ v = .tuple #[.int .i64 (j : Int), .bool true]) ∨
  ((∀ i : Nat, 1 ≤ i → i < 31 → nameAt i ≠ s) ∧ v = .tuple #[.int .i64 0, .bool false])

theorem FindIs.same {s : ByteArray} {v v' : Value} (h : FindIs s v) (h' : FindIs s v') : v = v' := by
  rcases h with ⟨j, h1, h2, h3, h4, rfl⟩ | ⟨h1, rfl⟩ <;> rcases h' with ⟨j', h1', h2', h3', h4', rfl⟩ | ⟨h1', rfl⟩
  · have : j = j' := by
      rcases Nat.lt_trichotomy j j' with h | h | h
      · exact absurd h3 (h4' j h1 h)
      · exact h
      · exact absurd h3' (h4 j' h1' h)
    rw [this]
  · exact absurd h3 (h1' j h1 h2)
  · exact absurd h3' (h1 j' h1' h2')
  · rfl

theorem toList_ne {a b : ByteArray} (h : a ≠ b) : (a.toList == b.toList) = false := by
  simp only [beq_eq_false_iff_ne, ne_eq, ByteArray.toList_eq]
  intro h'
  apply h
  cases a; cases b
  simp only [ByteArray.mk.injEq]
  exact Array.toList_inj.1 h'

set_option maxHeartbeats 1000000 in
set_option maxHeartbeats 1000000 in
theorem rfind_any (s : ByteArray) (w : World) : Calls Tryd.prog 30 #[.string s] w fun e w' => ∃ v, e = .returned v ∧ FindIs s v ∧ Below w.heap.size w w' := by
  go_enter Tryd.func30, Tryd.ntmps30
  go_wp2_with fail
  refine (table_any _).mono ?_
  rintro e w1 ⟨rfl, hb1, hbel⟩
  obtain ⟨g, hg⟩ : ∃ g, g = w.heap.size := ⟨_, rfl⟩
  rw [← hg] at hb1
  rw [← hg]
  have HT : Hid (Blk _ _ _ _) := hb1
  have HB : Hid (Below _ _ _) := hbel
  clear hb1 hbel hg
  go_wp2
  go_loop [5] (fun i => ∃ j : Nat, j ≤ 30 ∧ (∀ i : Nat, 1 ≤ i → i < j + 1 → nameAt i ≠ s) ∧ i = .int .i64 j) (fun i => 30 - (intOf i).toNat)
  case atStart => exact ⟨0, by omega, fun i h1 h2 => by omega, rfl⟩
  case round =>
    obtain ⟨j, hj, hall, rfl⟩ := hrel
    have HA : Hid (∀ i : Nat, 1 ≤ i → i < j + 1 → nameAt i ≠ s) := hall
    clear hall
    by_cases hlt : (j : Int) < 30
    · have hc := HT.out.cell (j * 3) (v := .string (nameAt (j + 1))) (tabL_at j 0 (by omega) (by omega))
      by_cases he : nameAt (j + 1) = s
      · have HE : Hid (nameAt (j + 1) = s) := he
        rw [he] at hc
        clear he
        go_wp2
        go_ret2
        exact ⟨_, rfl, .inl ⟨j + 1, by omega, by omega, HE.out, HA.out, rfl⟩, HB.out⟩
      · have HN : Hid (∀ i : Nat, 1 ≤ i → i < j + 1 + 1 → nameAt i ≠ s) := fun i h1 h2 => by
          by_cases h : i = j + 1
          · rw [h]; exact he
          · exact HA.out i h1 (by omega)
        have hn := toList_ne he
        revert hc hn
        generalize nameAt (j + 1) = nm
        intro hc hn
        clear he HA
        go_wp2
        go_round
        case rel => exact ⟨j + 1, by omega, HN.out, by go_num⟩
        case measure => simp [intOf]; omega
    · have e : j = 30 := by omega
      subst e
      go_wp2
      go_ret2
      exact ⟨_, rfl, .inr ⟨HA.out, rfl⟩, HB.out⟩
end Go.Proofs.YtohojpacijnnaaaDoor.Is
