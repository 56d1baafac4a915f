import Derived.Test.YtajhkilclmicjaaRs
namespace Go.Proofs.Ytajhkilclmicjaa
open Go.RowKit Go.Shelf
set_option linter.unusedVariables false

/-- Where a cache is that was among F in w: its sets lie where they lay. -/
def SF (w w' : World) (c : Nat) (s : Nat → Nat) (st : Nat → List Int) (F : Nat → Prop) : Prop :=
  ∃ Fs, Ca0 w' c 4 s st Fs ∧ F c ∧ (∀ b, F b → b < w.heap.size) ∧ (∀ i, i < 4 → ∀ b, Fs i b → F b ∨ w.heap.size ≤ b) ∧ Keeps F w w'

section
variable {w w1 w2 : World} {c : Nat} {s : Nat → Nat} {st st' : Nat → List Int} {F : Nat → Prop}
theorem SF.same (h : SF w w1 c s st F) (e : ∀ i, i < 4 → st' i = st i) : SF w w1 c s st' F := by
  obtain ⟨Fs, h1, h2⟩ := h
  exact ⟨Fs, ⟨h1.blk, fun i hi => by rw [e i hi]; exact h1.sf i hi, h1.apart, h1.out⟩, h2⟩
theorem SF.now (h : SF w w1 c s st F) : NowC w w1 c st F := by
  obtain ⟨Fs, h1, h2, h3, h4, h5⟩ := h
  refine ⟨⟨fun b => (F b ∨ w.heap.size ≤ b) ∧ b < w1.heap.size, ⟨s, Fs, h1, ⟨.inl h2, h1.blk.lt⟩, fun i hi b hb => ⟨h4 i hi b hb, (h1.sf i hi).lt b hb⟩, fun b hb => hb.2⟩, fun b hb => hb.1⟩, h5⟩
theorem SF.of {Fs : Nat → Nat → Prop} (h1 : Ca0 w c 4 s st Fs) (h2 : F c) (h3 : ∀ i, i < 4 → ∀ b, Fs i b → F b) (h4 : ∀ b, F b → b < w.heap.size) : SF w w c s st F :=
  ⟨Fs, h1, h2, h4, fun i hi b hb => .inl (h3 i hi b hb), Keeps.refl _ _⟩
theorem SF.cell (h : SF w w1 c s st F) (i : Nat) (hi : i < 4) : w1.cell? ⟨c, i, none⟩ = some (ptr (s i)) := by
  obtain ⟨Fs, h1, h2⟩ := h
  exact h1.blk.cell (by rw [slots_get s hi, if_pos hi])
theorem SF.keeps (h : SF w w1 c s st F) : Keeps F w w1 := by
  obtain ⟨Fs, h1, h2, h3, h4, h5⟩ := h
  exact h5
/-- One set changes. -/
theorem SF.step (h : SF w w1 c s st F) {k : Nat} (hk : k < 4) {ks : List Int} {f : Nat} {args : Array Value} {R : Ending → Prop}
    (hC : ∀ Fk, Sf w1 (s k) 2 (st k) Fk → Calls Try.prog f args w1 fun r w2 => R r ∧ Now w1 w2 (s k) 2 ks Fk) :
    Calls Try.prog f args w1 fun r w2 => R r ∧ SF w w2 c s (fun i => if i = k then ks else st i) F := by
  obtain ⟨Fs, h1, h2, h3, h4, h5⟩ := h
  refine (hC (Fs k) (h1.sf k hk)).mono ?_
  rintro r w2 ⟨hr, ⟨F', g1, g2⟩, g3⟩
  have lt : ∀ i, i < 4 → ∀ b, Fs i b → b < w1.heap.size := fun i hi b hb => (h1.sf i hi).lt b hb
  refine ⟨hr, fun i b => if i = k then F' b else Fs i b, ⟨h1.blk.kept g3 (h1.out k hk), ?_, ?_, ?_⟩, h2, h3, ?_, h5.trans g3 fun b hb hf => ?_⟩
  · intro i hi
    by_cases e : i = k
    · subst e; simp only [if_pos]; exact g1
    · simp only [if_neg e]
      exact (h1.sf i hi).kept g3 fun b hb hb2 => h1.apart i hi k hk e b hb hb2
  · intro i hi j hj hij b hb hb2
    by_cases e : i = k
    · have e2 : j ≠ k := fun e2 => hij (e.trans e2.symm)
      simp only [if_pos e] at hb
      simp only [if_neg e2] at hb2
      rcases g2 b hb with h' | h'
      · exact h1.apart k hk j hj (fun e3 => e2 e3.symm) b h' hb2
      · have := lt j hj b hb2; omega
    · simp only [if_neg e] at hb
      by_cases e2 : j = k
      · simp only [if_pos e2] at hb2
        rcases g2 b hb2 with h' | h'
        · exact h1.apart i hi k hk e b hb h'
        · have := lt i hi b hb; omega
      · simp only [if_neg e2] at hb2
        exact h1.apart i hi j hj hij b hb hb2
  · intro i hi hb
    by_cases e : i = k
    · simp only [if_pos e] at hb
      rcases g2 c hb with h' | h'
      · exact h1.out k hk h'
      · have := h1.blk.lt; omega
    · simp only [if_neg e] at hb
      exact h1.out i hi hb
  · intro i hi b hb
    by_cases e : i = k
    · simp only [if_pos e] at hb
      rcases g2 b hb with h' | h'
      · exact h4 k hk b h'
      · exact .inr (Nat.le_trans h5.size h')
    · simp only [if_neg e] at hb
      exact h4 i hi b hb
  · rcases h4 k hk b hf with h' | h'
    · exact h'
    · omega
end

theorem flush_any (c : Nat) (s : Nat → Nat) (st : Nat → List Int) (F : Nat → Prop) (w w1 : World) (h : SF w w1 c s st F) :
    Calls Try.prog 27 #[ptr c] w1 fun e w' => e = .returned (.tuple #[]) ∧ SF w w' c s (fun _ => []) F := by
  refine (flush_walk c s w1 (fun j w' => SF w w' c s (fun i => if i < j then [] else st i) F) h.cell (h.same fun i hi => by simp) ?_).mono ?_
  · intro i hi w2 hS
    refine (hS.step hi (ks := []) (R := fun r => r = .returned (.tuple #[])) fun Fk hk => ?_).mono ?_
    · exact clear_all (s i) 2 _ Fk w2 hk
    · rintro r w3 ⟨rfl, h3⟩
      refine ⟨rfl, h3.same fun i' hi' => ?_⟩
      by_cases e : i' = i
      · simp [e]
      · by_cases e2 : i' < i
        · have : i' < i + 1 := by omega
          simp [e, e2, this]
        · have : ¬ i' < i + 1 := by omega
          simp [e, e2, this]
  · rintro r w3 ⟨rfl, h3⟩
    refine ⟨rfl, h3.same fun i' hi' => by simp [hi']⟩

set_option maxRecDepth 20000 in
set_option maxHeartbeats 2000000 in
theorem restore_walk (c : Nat) (s : Nat → Nat) (st : Nat → List Int) (F : Nat → Prop) (G : Nat) (vs : Nat → Value) (ls : Nat → List Int) (cap : Nat) (w : World) (h : SF w w c s st F)
    (hL : Hid (∀ w', Keeps F w w' → Lst w' G vs ls)) (h2 : ∀ i, i < 4 → (ls i).length ≤ 2 ∧ (ls i).Nodup) (hg : Good ls) :
    Calls Try.prog 19 #[ptr c, .slice (some ⟨G, 0, none⟩) 4 cap] w fun e w' => e = .returned (.int .i64 0) ∧ SF w w' c s ls F := by
  have H1 : Hid (Calls _ _ _ _ _) := canBe_any G vs ls cap w (hL.out w (Keeps.refl _ _)) h2 hg
  have H2 : Hid (Calls _ _ _ _ _) := flush_any c s st F w w h
  have HS : Hid ((∀ i, i < 4 → (ls i).length ≤ 2 ∧ (ls i).Nodup) ∧ Good ls) := ⟨h2, hg⟩
  clear h h2 hg
  go_enter Try.func19, Try.ntmps19
  go_wp2_with fail
  refine H1.out.mono ?_
  rintro e w1 ⟨rfl, rfl⟩
  clear H1
  go_wp2_with fail
  refine H2.out.mono ?_
  rintro e w2 ⟨rfl, hS⟩
  have H3 : Hid (SF w1 w2 c s (fun _ => []) F) := hS
  clear H2 hS
  go_wp2
  go_loopw [18] (fun i wr => ∃ j : Nat, j ≤ 4 ∧ i = .int .i64 j ∧ SF w1 wr c s (fun i => if i < j then ls i else []) F) (fun i _ => 4 - (intOf i).toNat)
  case atStart => exact ⟨0, by omega, rfl, H3.out.same fun i hi => by simp⟩
  case round =>
    obtain ⟨j, hj, rfl, hS⟩ := hrel
    by_cases hlt : j < 4
    · have cu := (hL.out wr hS.keeps).cell j hlt
      obtain ⟨a, c', hv, hs, hc'⟩ := (hL.out wr hS.keeps).seg j hlt
      rw [hv] at cu
      obtain ⟨n, hn⟩ : ∃ n, n = (ls j).length := ⟨_, rfl⟩
      rw [← hn] at cu
      have hn2 := (HS.out.1 j hlt).1
      have hnz : (n : Int) ≤ 2 := by omega
      have hjn : (j : Int) < 4 := by omega
      have HJ : Hid (j < 4 ∧ n = (ls j).length ∧ vs j = .slice a n c' ∧ SF w1 wr c s (fun i => if i < j then ls i else []) F) := ⟨hlt, hn, by rw [hv, hn], hS⟩
      clear hv hs hc' hn hlt hj hS hn2 H3
      go_wp2
      clear cu
      go_loopw [25] (fun i wr => ∃ m : Nat, m ≤ n ∧ i = .int .i64 m ∧ SF w1 wr c s (fun i => if i < j then ls i else if i = j then (ls j).take m else []) F) (fun i _ => n - (intOf i).toNat)
      case atStart => exact ⟨0, by omega, rfl, HJ.out.2.2.2.same fun i hi => by simp⟩
      case round =>
        obtain ⟨m, hm, rfl, hS⟩ := hrel
        obtain ⟨hlt, hn, hvj, -⟩ := HJ.out
        by_cases hmn : m < n
        · have hmu : m < (ls j).length := by omega
          obtain ⟨a2, c2, hv2, hs2, _⟩ := (hL.out wr hS.keeps).seg j hlt
          have ea : a2 = a := by
            rw [hvj] at hv2
            injection hv2 with h1 h2 h3
            exact h1.symm
          rw [ea] at hs2
          rcases hs2 with h0 | ⟨b, o, rfl, hcell⟩
          · exact absurd hmu (by rw [h0]; simp)
          · have cu := hcell m hmu
            have hx := HS.out.2 j hlt _ (List.getElem_mem hmu)
            have cs := hS.cell j hlt
            obtain ⟨x, hxx⟩ : ∃ x, x = (ls j)[m]'hmu := ⟨_, rfl⟩
            rw [← hxx] at cu hx
            have hput : putL 2 x ((ls j).take m) = (ls j).take (m + 1) := by
              have hnot : x ∉ (ls j).take m := by
                intro hm'
                obtain ⟨i, hi, he⟩ := List.getElem_of_mem hm'
                rw [List.getElem_take] at he
                rw [List.length_take] at hi
                rw [hxx] at he
                have := (List.getElem_inj (h₀ := by omega) (h₁ := hmu) (HS.out.1 j hlt).2).1 he
                omega
              unfold putL
              rw [if_neg hnot, if_pos (by rw [List.length_take]; have := (HS.out.1 j hlt).1; omega), List.take_add_one, List.getElem?_eq_getElem hmu, ← hxx]
              rfl
            have H4 : Hid (Calls Try.prog 36 #[ptr (s j), .int .i64 x, .agg #[]] wr fun r w' => (∃ z y, r = .returned (.tuple #[.int .i64 z, .bool y])) ∧ SF w1 w' c s (fun i => if i < j then ls i else if i = j then (ls j).take (m + 1) else []) F) := by
              refine (hS.step hlt (ks := (ls j).take (m + 1)) (R := fun r => ∃ z y, r = .returned (.tuple #[.int .i64 z, .bool y])) fun Fk hk => ?_).mono ?_
              · simp only [Nat.lt_irrefl, if_false, if_true] at hk
                refine (put_any (s j) 2 _ Fk x wr hk (by omega)).mono ?_
                rintro r w' ⟨rfl, hN⟩
                rw [hput] at hN
                exact ⟨⟨_, _, rfl⟩, hN⟩
              · rintro r w' ⟨hr, h3⟩
                refine ⟨hr, h3.same fun i' hi' => ?_⟩
                by_cases e : i' = j
                · subst e; simp
                · simp [e]
            have hmz : (m : Int) < n := by omega
            have HM : Hid (m < n) := hmn
            clear hcell hmu hxx hx hput hS hm hmn hv2 ea hlt hn hvj
            go_wp2_with fail
            refine H4.out.mono ?_
            rintro e w5 ⟨⟨z, y, rfl⟩, hS5⟩
            have H5 : Hid (SF w1 w5 c s (fun i => if i < j then ls i else if i = j then (ls j).take (m + 1) else []) F) := hS5
            clear H4 hS5 cu cs
            go_wp2
            go_roundw
            case rel => exact ⟨m + 1, by have := HM.out; omega, by go_num, H5.out⟩
            case measure => have := HM.out; simp [intOf]; omega
        · obtain rfl : m = n := by omega
          have HQ : Hid (SF w1 wr c s (fun i => if i < j + 1 then ls i else []) F) := hS.same fun i hi => by
            by_cases e : i < j
            · have : i < j + 1 := by omega
              simp [e, this]
            · by_cases e2 : i = j
              · subst e2
                simp [hn]
              · have : ¬ i < j + 1 := by omega
                simp [e, e2, this]
          clear hS hm hmn hn hvj hlt
          go_wp2
          go_roundw
          case rel => exact ⟨j + 1, by have := HJ.out.1; omega, by go_num, HQ.out⟩
          case measure => have := HJ.out.1; simp [intOf]; omega
    · obtain rfl : j = 4 := by omega
      have HQ : Hid (SF w1 wr c s ls F) := hS.same fun i hi => by simp [hi]
      clear hS H3
      go_wp2
      go_ret
      exact ⟨rfl, HQ.out⟩

theorem restore_any (c : Nat) (st : Nat → List Int) (F : Nat → Prop) (G : Nat) (vs : Nat → Value) (ls : Nat → List Int) (cap : Nat) (w : World) (h : Ca w c st F)
    (hL : ∀ w', Keeps F w w' → Lst w' G vs ls) (h2 : ∀ i, i < 4 → (ls i).length ≤ 2 ∧ (ls i).Nodup) (hg : Good ls) :
    Calls Try.prog 19 #[ptr c, .slice (some ⟨G, 0, none⟩) 4 cap] w fun e w' => e = .returned (.int .i64 0) ∧ NowC w w' c ls F := by
  obtain ⟨s, Fs, g1, g2, g3, g4⟩ := h
  refine (restore_walk c s st F G vs ls cap w (SF.of g1 g2 g3 g4) hL h2 hg).mono ?_
  rintro r w' ⟨rfl, hS⟩
  exact ⟨rfl, hS.now⟩

end Go.Proofs.Ytajhkilclmicjaa
