import Derived.Test.YtajhkilclmicjaaG
namespace Go.Proofs.Ytajhkilclmicjaa
open Go.RowKit Go.Shelf
set_option linter.unusedVariables false

def slots (n : Nat) (s : Nat → Nat) : List Value := (List.range 4).map fun i => if i < n then ptr (s i) else .pointer none

/-- A cache in the memory whose first n sets are laid. -/
structure Ca0 (w : World) (c n : Nat) (s : Nat → Nat) (st : Nat → List Int) (Fs : Nat → Nat → Prop) : Prop where
  blk : Blk w c (slots n s) 55
  sf : ∀ i, i < n → Sf w (s i) 2 (st i) (Fs i)
  apart : ∀ i, i < n → ∀ j, j < n → i ≠ j → ∀ b, Fs i b → ¬ Fs j b
  out : ∀ i, i < n → ¬ Fs i c

/-- A cache: what its sets hold, the least lately used first; all its blocks are among F. -/
def Ca (w : World) (c : Nat) (st : Nat → List Int) (F : Nat → Prop) : Prop :=
  ∃ s Fs, Ca0 w c 4 s st Fs ∧ F c ∧ (∀ i, i < 4 → ∀ b, Fs i b → F b) ∧ ∀ b, F b → b < w.heap.size

def NowC (w w' : World) (c : Nat) (st : Nat → List Int) (F : Nat → Prop) : Prop :=
  (∃ F', Ca w' c st F' ∧ ∀ b, F' b → F b ∨ w.heap.size ≤ b) ∧ Keeps F w w'

theorem slots_get {n i : Nat} (s : Nat → Nat) (h : i < 4) : (slots n s)[i]? = some (if i < n then ptr (s i) else .pointer none) := by
  unfold slots
  rw [List.getElem?_map, List.getElem?_range h]
  rfl
theorem slots_set {n : Nat} (s s' : Nat → Nat) (h : n < 4) (hs : ∀ i, i < n → s' i = s i) : (slots n s).set n (ptr (s' n)) = slots (n + 1) s' := by
  have h' : n = 0 ∨ n = 1 ∨ n = 2 ∨ n = 3 := by omega
  rcases h' with rfl | rfl | rfl | rfl
  · rfl
  · have := hs 0 (by omega)
    simp [slots, List.range, List.range.loop, this]
  · have := hs 0 (by omega); have := hs 1 (by omega)
    simp [slots, List.range, List.range.loop, *]
  · have := hs 0 (by omega); have := hs 1 (by omega); have := hs 2 (by omega)
    simp [slots, List.range, List.range.loop, *]

section
variable {w w' : World} {c n : Nat} {s : Nat → Nat} {st st' : Nat → List Int} {Fs : Nat → Nat → Prop} {F : Nat → Prop}

theorem Ca0.kept {S : Nat → Prop} (h : Ca0 w c n s st Fs) (hK : Keeps S w w') (hc : ¬ S c) (hF : ∀ i, i < n → ∀ b, Fs i b → ¬ S b) : Ca0 w' c n s st Fs :=
  ⟨h.blk.kept hK hc, fun i hi => (h.sf i hi).kept hK (hF i hi), h.apart, h.out⟩
theorem Ca.kept {S : Nat → Prop} (h : Ca w c st F) (hK : Keeps S w w') (hF : ∀ b, F b → ¬ S b) : Ca w' c st F := by
  obtain ⟨s, Fs, h1, h2, h3, h4⟩ := h
  exact ⟨s, Fs, h1.kept hK (hF c h2) fun i hi b hb => hF b (h3 i hi b hb), h2, h3, fun b hb => Nat.lt_of_lt_of_le (h4 b hb) hK.size⟩
theorem Ca.lt (h : Ca w c st F) : ∀ b, F b → b < w.heap.size := by
  obtain ⟨s, Fs, h1, h2, h3, h4⟩ := h
  exact h4
theorem Ca.self (h : Ca w c st F) : F c := by
  obtain ⟨s, Fs, h1, h2, h3, h4⟩ := h
  exact h2
theorem Ca.same (h : Ca w c st F) (e : ∀ i, i < 4 → st' i = st i) : Ca w c st' F := by
  obtain ⟨s, Fs, h1, h2, h3, h4⟩ := h
  exact ⟨s, Fs, ⟨h1.blk, fun i hi => by rw [e i hi]; exact h1.sf i hi, h1.apart, h1.out⟩, h2, h3, h4⟩
theorem Ca.fits (h : Ca w c st F) (i : Nat) (hi : i < 4) : (st i).length ≤ 2 := by
  obtain ⟨s, Fs, h1, h2, h3, h4⟩ := h
  exact (h1.sf i hi).fits
theorem Ca.nodup (h : Ca w c st F) (i : Nat) (hi : i < 4) : (st i).Nodup := by
  obtain ⟨s, Fs, h1, h2, h3, h4⟩ := h
  exact (h1.sf i hi).keys

theorem nowC_keep (h : Ca w c st F) (hK : Keeps (fun _ => False) w w') : NowC w w' c st F :=
  ⟨⟨F, h.kept hK fun _ _ h => h, fun b hb => .inl hb⟩, hK.mono fun _ _ h => h.elim⟩
theorem nowC_trans {w1 w2 : World} {F1 : Nat → Prop} (hF : ∀ b, F1 b → F b ∨ w.heap.size ≤ b) (hK : Keeps F w w1) (h2 : NowC w1 w2 c st F1) : NowC w w2 c st F := by
  obtain ⟨⟨F2, g1, g2⟩, g3⟩ := h2
  refine ⟨⟨F2, g1, fun b hb => ?_⟩, hK.trans g3 fun b hb h => ?_⟩
  · rcases g2 b hb with h | h
    · exact hF b h
    · exact .inr (Nat.le_trans hK.size h)
  · rcases hF b h with h | h
    · exact h
    · omega
/-- One set has changed. -/
theorem nowC_set (h : Ca0 w c 4 s st Fs) (h2 : F c) (h3 : ∀ i, i < 4 → ∀ b, Fs i b → F b) (h4 : ∀ b, F b → b < w.heap.size) {k : Nat} (hk : k < 4) {ks : List Int} (hN : Now w w' (s k) 2 ks (Fs k)) :
    NowC w w' c (fun i => if i = k then ks else st i) F := by
  obtain ⟨⟨F', g1, g2⟩, g3⟩ := hN
  have lt : ∀ i, i < 4 → ∀ b, Fs i b → b < w.heap.size := fun i hi b hb => h4 b (h3 i hi b hb)
  refine ⟨⟨fun b => (F b ∨ w.heap.size ≤ b) ∧ b < w'.heap.size, ⟨s, fun i b => if i = k then F' b else Fs i b, ⟨h.blk.kept g3 (h.out k hk), ?_, ?_, ?_⟩, ⟨.inl h2, ?_⟩, ?_, fun b hb => hb.2⟩, fun b hb => hb.1⟩, g3.mono fun b _ hb => h3 k hk b hb⟩
  · intro i hi
    by_cases e : i = k
    · subst e; simp only [if_pos]; exact g1
    · simp only [if_neg e]
      exact (h.sf i hi).kept g3 fun b hb hb2 => h.apart i hi k hk e b hb hb2
  · intro i hi j hj hij b hb hb2
    by_cases e : i = k
    · have e2 : j ≠ k := fun e2 => hij (e.trans e2.symm)
      simp only [if_pos e] at hb
      simp only [if_neg e2] at hb2
      rcases g2 b hb with h' | h'
      · exact h.apart k hk j hj (fun e3 => e2 e3.symm) b h' hb2
      · have := lt j hj b hb2; omega
    · simp only [if_neg e] at hb
      by_cases e2 : j = k
      · simp only [if_pos e2] at hb2
        rcases g2 b hb2 with h' | h'
        · exact h.apart i hi k hk e b hb h'
        · have := lt i hi b hb; omega
      · simp only [if_neg e2] at hb2
        exact h.apart i hi j hj hij b hb hb2
  · intro i hi hb
    by_cases e : i = k
    · simp only [if_pos e] at hb
      rcases g2 c hb with h' | h'
      · exact h.out k hk h'
      · have := h4 c h2; omega
    · simp only [if_neg e] at hb
      exact h.out i hi hb
  · exact Nat.lt_of_lt_of_le (h4 c h2) g3.size
  · intro i hi b hb
    by_cases e : i = k
    · simp only [if_pos e] at hb
      refine ⟨?_, g1.lt b hb⟩
      rcases g2 b hb with h' | h'
      · exact .inl (h3 k hk b h')
      · exact .inr h'
    · simp only [if_neg e] at hb
      exact ⟨.inl (h3 i hi b hb), Nat.lt_of_lt_of_le (lt i hi b hb) g3.size⟩
end

/-! ### Small functions -/
theorem lineOf_in (a : Nat) (ha : a < 16384) (w : World) : Calls Try.prog 33 #[.int .i64 a] w fun r w' => r = .returned (.tuple #[.int .i64 ((a / 4 : Nat) : Int), .bool true]) ∧ w' = w := by
  have h1 : ¬ ((a : Int) < 0) := by omega
  have h2 : ¬ ((a : Int) ≥ 16384) := by omega
  go_enter Try.func33, Try.ntmps33
  go_wp2
  go_ret2
  refine ⟨?_, rfl⟩
  simp

theorem setOf_in (l : Nat) (w : World) : Calls Try.prog 34 #[.int .i64 l] w fun r w' => r = .returned (.int .i64 ((l % 4 : Nat) : Int)) ∧ w' = w := by
  go_enter Try.func34, Try.ntmps34
  go_wp2
  go_ret
  refine ⟨?_, rfl⟩
  simp

end Go.Proofs.Ytajhkilclmicjaa
