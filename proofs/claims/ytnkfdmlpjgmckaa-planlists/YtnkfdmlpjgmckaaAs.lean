import Derived.Test.YtnkfdmlpjgmckaaAr
namespace Go.Proofs.Ytnkfdmlpjgmckaa
open Go.RowKit
set_option linter.unusedVariables false
set_option maxRecDepth 6000

/-- What both Starts tell. -/
def StV (x : Cfg) (k : Int) (l : List Int) (e : Int) : Prop :=
  ((k < 0 ∨ x.cs.length ≤ k) ∧ l = [] ∧ e = 140) ∨ ∃ (n : Nat) (X : Core), k = n ∧ x.cs[n]? = some X ∧ ((may X.ws = false ∧ l = [] ∧ e = 1) ∨ (may X.ws = true ∧ l = begs X.ws ∧ e = 0))
theorem stV_any (x : Cfg) (k : Int) : ∃ l e, StV x k l e ∧ l.length ≤ 16 := by
  by_cases hk : k < 0 ∨ x.cs.length ≤ k
  · exact ⟨[], 140, .inl ⟨hk, rfl, rfl⟩, by simp⟩
  · obtain ⟨n, rfl⟩ : ∃ n : Nat, k = n := ⟨k.toNat, by omega⟩
    obtain ⟨X, hX⟩ : ∃ X, x.cs[n]? = some X := ⟨_, List.getElem?_eq_getElem (by omega)⟩
    by_cases hm : may X.ws = true
    · exact ⟨_, _, .inr ⟨n, X, rfl, hX, .inr ⟨hm, rfl, rfl⟩⟩, by rw [begs_len]; exact (may_iff.1 hm).2.1⟩
    · exact ⟨_, _, .inr ⟨n, X, rfl, hX, .inl ⟨by simpa using hm, rfl, rfl⟩⟩, by simp⟩
theorem starts_q {x : Cfg} {k : Int} {l : List Int} {e0 : Int} (hv : StV x k l e0) {w : World} {N : Nat} (hi : x.In w N) (hN : N ≤ w.heap.size) :
    Calls Try.prog 13 #[x.v, .int .i64 k] w fun e w' => ∃ a c, e = .returned (.tuple #[.slice a l.length c, .int .i64 e0]) ∧ Fl a l.length c ∧ w'.ownsRow 0 3 1 (.slice a l.length c) l.length (l.map (.int .i64)) ∧ (∀ b, (Value.slice a l.length c).ownBlock = some b → w.heap.size ≤ b) ∧ Keeps (fun _ => False) w w' := by
  refine (starts_any x k w N hi hN).mono fun e w' h => ?_
  obtain ⟨hK, h⟩ := h
  have nil : ∀ w' : World, w'.ownsRow 0 3 1 (.slice none 0 0) 0 [] := fun w' => ⟨rfl, .inl ⟨rfl, rfl⟩⟩
  rcases hv with ⟨hk, rfl, rfl⟩ | ⟨n, X, rfl, hX, hv⟩
  · rcases h with ⟨_, rfl⟩ | ⟨n, X, rfl, hX, _⟩
    · exact ⟨none, 0, rfl, .inl ⟨rfl, rfl, rfl⟩, nil _, fun b hb => (by cases hb), hK⟩
    · have := (List.getElem?_eq_some_iff.1 hX).1; omega
  · rcases h with ⟨hk, _⟩ | ⟨n', X', hn, hX', h⟩
    · have := (List.getElem?_eq_some_iff.1 hX).1; omega
    · obtain rfl : n = n' := by omega
      rw [hX] at hX'
      cases hX'
      rcases hv with ⟨hm, rfl, rfl⟩ | ⟨hm, rfl, rfl⟩
      · rcases h with ⟨_, rfl⟩ | ⟨hm', _⟩
        · exact ⟨none, 0, rfl, .inl ⟨rfl, rfl, rfl⟩, nil _, fun b hb => (by cases hb), hK⟩
        · rw [hm] at hm'; cases hm'
      · rcases h with ⟨hm', _⟩ | ⟨_, g, rfl, hg, hB⟩
        · rw [hm] at hm'; cases hm'
        · refine ⟨some ⟨g, 0, none⟩, (begs X.ws).length, by rw [begs_len], .inr ⟨g, rfl, rfl⟩, ⟨by simp, .inr ⟨g, (begs X.ws).length, _, rfl, Nat.zero_le _, hB, Nat.le_refl _, ?_, by simp, ?_⟩⟩, fun b hb => by cases hb; exact hg, hK⟩
          · rw [begs_len]; have := (may_iff.1 hm).2.1; unfold maxLen; omega
          · rw [List.toList_toArray, Nat.mul_one]; exact List.take_of_length_le (by simp)
theorem rstarts_q {x : Cfg} {k : Int} {l : List Int} {e0 : Int} (hv : StV x k l e0) {w : World} {N : Nat} (hi : x.In w N) (hN : N ≤ w.heap.size) :
    Calls Try.prog 14 #[x.v, .int .i64 k] w fun e w' => ∃ a c, e = .returned (.tuple #[.slice a l.length c, .int .i64 e0]) ∧ SegA ivs 1 w' a l ∧ (l.length ≤ c ∧ c ≤ maxLen) ∧ Keeps (fun _ => False) w w' := by
  refine (rstarts_any x k w N hi hN).mono fun e w' h => ?_
  obtain ⟨hK, h⟩ := h
  rcases hv with ⟨hk, rfl, rfl⟩ | ⟨n, X, rfl, hX, hv⟩
  · rcases h with ⟨_, rfl⟩ | ⟨n, X, rfl, hX, _⟩
    · exact ⟨none, 0, rfl, .inl rfl, ⟨Nat.le_refl _, Nat.zero_le _⟩, hK⟩
    · have := (List.getElem?_eq_some_iff.1 hX).1; omega
  · rcases h with ⟨hk, _⟩ | ⟨n', X', hn, hX', h⟩
    · have := (List.getElem?_eq_some_iff.1 hX).1; omega
    · obtain rfl : n = n' := by omega
      rw [hX] at hX'
      cases hX'
      rcases hv with ⟨hm, rfl, rfl⟩ | ⟨hm, rfl, rfl⟩
      · rcases h with ⟨_, rfl⟩ | ⟨hm', _⟩
        · exact ⟨none, 0, rfl, .inl rfl, ⟨Nat.le_refl _, Nat.zero_le _⟩, hK⟩
        · rw [hm] at hm'; cases hm'
      · rcases h with ⟨hm', _⟩ | ⟨_, u, rfl, hRow⟩
        · rw [hm] at hm'; cases hm'
        · obtain ⟨ad, cp, rfl, hL⟩ := hRow.lst
          exact ⟨ad, cp, rfl, hL.seg, hL.len, hK⟩
theorem own_ints {w : World} {a : Option Addr} {c : Nat} {l : List Int} (h : w.ownsRow 0 3 1 (.slice a l.length c) l.length (l.map (.int .i64))) : SegA ivs 1 w a l := by
  rcases h.2 with ⟨h2, h0⟩ | ⟨g, cap, cur, h2, _⟩
  · exact .inl (List.eq_nil_of_length_eq_zero h0)
  · cases h2
    refine .inr ⟨g, 0, rfl, fun j x hj i v hv => ?_⟩
    have hi : i = 0 := by have := (List.getElem?_eq_some_iff.1 hv).1; simp [ivs] at this; omega
    subst hi
    simp [ivs] at hv
    subst hv
    have := h.cells (g := g) rfl j (.int .i64 x) (by simp [hj])
    rw [addr_add] at this
    simpa using this

/-- What both Spans tell. -/
def SpV (x : Cfg) (p : Int) (l : List Spn) (e : Int) : Prop :=
  (¬ (0 ≤ p ∧ p < x.ps.length) ∧ l = [] ∧ e = 142) ∨ ((0 ≤ p ∧ p < x.ps.length) ∧ ((allMay x.cs = false ∧ l = [] ∧ e = 1) ∨ (allMay x.cs = true ∧ l = pickAll p x.cs x.cs.length ∧ e = 0)))
theorem spV_any (x : Cfg) (p : Int) (ht : tot x.cs x.cs.length ≤ 2147483647) : ∃ l e, SpV x p l e ∧ l.length ≤ 2147483647 := by
  by_cases hp : 0 ≤ p ∧ p < x.ps.length
  · by_cases hm : allMay x.cs = true
    · exact ⟨_, _, .inr ⟨hp, .inr ⟨hm, rfl, rfl⟩⟩, Nat.le_trans (pickAll_len _ _ _) ht⟩
    · exact ⟨_, _, .inr ⟨hp, .inl ⟨by simpa using hm, rfl, rfl⟩⟩, by simp⟩
  · exact ⟨_, _, .inl ⟨hp, rfl, rfl⟩, by simp⟩
theorem ssp_q {x : Cfg} {p : Int} {l : List Spn} {e0 : Int} (hv : SpV x p l e0) {w w' : World} {e : Ending} (h : SsQ w x p e w') :
    ∃ a c, e = .returned (.tuple #[.slice a l.length c, .int .i64 e0]) ∧ OwnS w' (.slice a l.length c) l ∧ (∀ b, (Value.slice a l.length c).ownBlock = some b → w.heap.size ≤ b) ∧ Keeps (fun _ => False) w w' := by
  obtain ⟨hK, h⟩ := h
  have nil : ∀ w' : World, OwnS w' (.slice none 0 0) [] := fun w' => ⟨rfl, .inl ⟨rfl, rfl⟩⟩
  rcases hv with ⟨hp, rfl, rfl⟩ | ⟨hp, ⟨hm, rfl, rfl⟩ | ⟨hm, rfl, rfl⟩⟩
  · rcases h with ⟨_, rfl⟩ | ⟨hp', _⟩
    · exact ⟨none, 0, rfl, nil _, fun b hb => (by cases hb), hK⟩
    · exact (hp hp').elim
  · rcases h with ⟨hp', _⟩ | ⟨_, ⟨_, rfl⟩ | ⟨hm', _⟩⟩
    · exact (hp' hp).elim
    · exact ⟨none, 0, rfl, nil _, fun b hb => (by cases hb), hK⟩
    · rw [hm] at hm'; cases hm'
  · rcases h with ⟨hp', _⟩ | ⟨_, ⟨hm', _⟩ | ⟨_, u, rfl, hRow⟩⟩
    · exact (hp' hp).elim
    · rw [hm] at hm'; cases hm'
    · obtain ⟨ad, cp, rfl, hL⟩ := hRow.lst
      exact ⟨ad, cp, rfl, hRow.own, hRow.low, hK⟩
end Go.Proofs.Ytnkfdmlpjgmckaa
