import Derived.Test.YtnkfdmlpjgmckaaOb
namespace Go.Proofs.Ytnkfdmlpjgmckaa
open Go.RowKit
set_option linter.unusedVariables false
set_option maxRecDepth 6000

/-- The mark of a list, and of what it grows by. -/
def mrk (i : Nat) : Int := -7000000 - 2 * i
def mks (i n m : Nat) : List Value := List.replicate n (.int .i64 (mrk i)) ++ List.replicate m (.int .i64 (mrk i - 1))
theorem mks_len (i n m : Nat) : (mks i n m).length = n + m := by simp [mks]
theorem mks_get (i n m k : Nat) (hk : k < n + m) : (mks i n m)[k]? = some (.int .i64 (if n ≤ k then mrk i - 1 else mrk i)) := by
  unfold mks
  by_cases h : k < n
  · rw [List.getElem?_append_left (by simpa using h), List.getElem?_replicate, if_pos h, if_neg (by omega)]
  · rw [List.getElem?_append_right (by simpa using h), List.getElem?_replicate, List.length_replicate, if_pos (by omega), if_pos (by omega)]

/-- A row's cells. -/
theorem owns_cell {w : World} {e : TypeId} {v : Value} {n : Nat} {xs : List Value} (h : w.ownsRow 0 e 1 v n xs) : ∃ a c, v = .slice a n c ∧ (n ≤ c ∧ c ≤ maxLen) ∧ ((n = 0) ∨ ∃ g, a = some ⟨g, 0, none⟩ ∧ ∀ j u, xs[j]? = some u → w.cell? ⟨g, j, none⟩ = some u) := by
  rcases h.2 with ⟨rfl, rfl⟩ | ⟨g, cap, cur, rfl, hb, hg, h3, h4, h5, h6⟩
  · exact ⟨none, 0, rfl, ⟨Nat.le_refl _, Nat.zero_le _⟩, .inl rfl⟩
  · refine ⟨_, cap, rfl, ⟨h3, h4⟩, .inr ⟨g, rfl, fun j u hj => ?_⟩⟩
    have := h.cells (g := g) rfl j u hj
    rw [addr_add, Nat.zero_add] at this
    exact this

set_option maxHeartbeats 1000000 in
theorem allInts_any (v : Value) (i n m : Nat) (hi : i ≤ 1) (hnm : n + m ≤ 1000) (w : World) (h : w.ownsRow 0 3 1 v (n + m) (mks i n m)) :
    Calls Try.prog 35 #[v, .int .i64 n, .int .i64 i] w fun e w' => e = .returned (.bool true) ∧ w' = w := by
  obtain ⟨a, c, rfl, hc, hcell⟩ := owns_cell h
  obtain ⟨L, hL⟩ : ∃ L, n + m = L := ⟨_, rfl⟩
  rw [hL] at hc hnm hcell ⊢
  have hc1 : (L : Int) ≤ c := by omega
  have hc3 : (c : Int) ≤ 9223372036854775807 := by unfold maxLen at hc; omega
  have HC : Hid ((L = 0 ∨ ∃ g, a = some ⟨g, 0, none⟩ ∧ ∀ j u, (mks i n m)[j]? = some u → w.cell? ⟨g, j, none⟩ = some u) ∧ n + m = L) := ⟨hcell, hL⟩
  obtain ⟨M, hM⟩ : ∃ M, mrk i = M := ⟨_, rfl⟩
  have hM1 : M = -7000000 - 2 * i := by rw [← hM]; rfl
  have q1 : IntKind.i64.wrap (2 * (i : Int)) = 2 * i := by rw [IntKind.wrap_i64]; omega
  have q2 : IntKind.i64.wrap (-7000000 - 2 * (i : Int)) = M := by rw [hM1, IntKind.wrap_i64]; omega
  have q3 : IntKind.i64.wrap (M - 1) = M - 1 := by rw [IntKind.wrap_i64]; omega
  have HM : Hid (mrk i = M) := hM
  clear h hc hcell hM hM1
  go_enter Try.func35, Try.ntmps35
  go_wp2
  go_loopw [7] (fun k wr => ∃ j : Nat, j ≤ L ∧ k = .int .i64 j ∧ wr = w) (fun k _ => L - (intOf k).toNat)
  case atStart => exact ⟨0, by omega, rfl, rfl⟩
  case round =>
    obtain ⟨j, hj, rfl, hw⟩ := hrel
    obtain rfl := hw.symm
    by_cases hlt : j < L
    · rcases HC.out.1 with h0 | ⟨g, rfl, hg⟩
      · omega
      have hcj := hg j _ (mks_get i n m j (by have := HC.out.2; omega))
      rw [HM.out] at hcj
      have hlt' : (j : Int) < L := by omega
      clear hg
      by_cases hn : n ≤ j
      · rw [if_pos hn] at hcj
        have hn' : decide (n ≤ j) = true := by simp [hn]
        go_wp2
        go_roundw
        case rel => exact ⟨j + 1, by omega, by go_num, trivial⟩
        case measure => simp [intOf]; omega
      · rw [if_neg hn] at hcj
        have hn' : decide (n ≤ j) = false := by simp [hn]
        go_wp2
        go_roundw
        case rel => exact ⟨j + 1, by omega, by go_num, trivial⟩
        case measure => simp [intOf]; omega
    · obtain rfl : j = L := by omega
      go_wp2
      go_ret
      exact ⟨rfl, rfl⟩
end Go.Proofs.Ytnkfdmlpjgmckaa
