import Derived.Test.YtipejahmjdamjaaGreatDoorChDd
namespace Go.Proofs.YtipejahmjdamjaaGreatDoor.Ch
open Go.RowKit Go.Shelf
set_option linter.unusedVariables false
set_option maxRecDepth 6000

theorem SegI.take {w : World} {a : Option Addr} {ws : List Int} (h : SegI w a ws) (j : Nat) : SegI w a (ws.take j) := by
  rcases h with h | ⟨g, o, ha, hc⟩
  · exact .inl (by rw [h]; simp)
  · refine .inr ⟨g, o, ha, fun i hi => ?_⟩
    rw [List.length_take] at hi
    rw [List.getElem_take]
    exact hc i (by omega)

set_option maxHeartbeats 1000000 in
theorem fits_any (s : Nat) (a : Option Addr) (n c : Nat) (ws : List Int) (w : World) (hs : SegI w a ws) (hn : n = ws.length) (hl : n ≤ 2) (hc : n ≤ c) (hnd : ws.Nodup) (hg : ∀ z ∈ ws, 0 ≤ z ∧ z < 4096 ∧ z % 4 = (s : Int)) :
    Calls Tryz.prog 117 #[.int .i64 s, .slice a n c] w fun e w' => e = .returned (.bool true) ∧ w' = w := by
  have HS : Hid (SegI w a ws ∧ n = ws.length ∧ ws.Nodup ∧ (∀ z ∈ ws, 0 ≤ z ∧ z < 4096 ∧ z % 4 = (s : Int)) ∧ n ≤ c) := ⟨hs, hn, hnd, hg, hc⟩
  have hl2 : (n : Int) ≤ 2 := by omega
  have hcz : (n : Int) ≤ c := by omega
  clear hs hn hl hnd hg hc
  go_enter Tryz.func117, Tryz.ntmps117
  go_wp2
  go_loopw [12] (fun i wr => ∃ j : Nat, j ≤ n ∧ i = .int .i64 j ∧ wr = w) (fun i _ => n - (intOf i).toNat)
  case atStart => exact ⟨0, by omega, rfl, rfl⟩
  case round =>
    obtain ⟨j, hj, rfl, rfl⟩ := hrel
    by_cases hlt : j < n
    · have hju : j < ws.length := by have := HS.out.2.1; omega
      obtain ⟨e1, e2, e3, e4, e5⟩ := HS.out
      have hx := e4 _ (List.getElem_mem hju)
      have hnt : ws[j]'hju ∉ ws.take j := by
        intro hm
        obtain ⟨i, hi, he⟩ := List.getElem_of_mem hm
        rw [List.getElem_take] at he
        rw [List.length_take] at hi
        have := (List.getElem_inj (h₀ := by omega) (h₁ := hju) e3).1 he
        omega
      have htl : j = (ws.take j).length := by rw [List.length_take]; omega
      have H3 : Hid (Calls _ _ _ _ _) := contains_out a j c (ws.take j) _ wr (e1.take j) htl (by omega) hnt
      have H1 : Hid (Calls _ _ _ _ _) := isLine_in _ wr hx.1 hx.2.1
      have H2 : Hid (Calls _ _ _ _ _) := setOf_z _ s wr hx.1 hx.2.2
      rcases e1 with h0 | ⟨b, o, rfl, hcell⟩
      · exact absurd hju (by rw [h0]; simp)
      · have cu := hcell j hju
        obtain ⟨x, hxx⟩ : ∃ x, x = ws[j]'hju := ⟨_, rfl⟩
        rw [← hxx] at cu H1 H2 H3
        have hjn : (j : Int) < n := by omega
        have hjc : (j : Int) ≤ c := by omega
        have HJ : Hid (j < n) := hlt
        clear hju hcell hxx hx hnt htl e2 e3 e4 e5 hj hlt
        go_wp2_with fail
        refine H1.out.mono ?_
        rintro e w1 ⟨rfl, rfl⟩
        clear H1
        go_wp2_with fail
        refine H2.out.mono ?_
        rintro e w1 ⟨rfl, rfl⟩
        clear H2
        go_wp2_with fail
        refine H3.out.mono ?_
        rintro e w1 ⟨rfl, rfl⟩
        clear H3
        go_wp2
        go_roundw
        case rel => exact ⟨j + 1, by have := HJ.out; omega, by go_num, trivial⟩
        case measure => have := HJ.out; simp [intOf]; omega
    · obtain rfl : j = n := by omega
      go_wp2
      go_ret
      exact ⟨rfl, rfl⟩

set_option maxHeartbeats 1000000 in
theorem canBe_any (G : Nat) (vs : Nat → Value) (ls : Nat → List Int) (cap : Nat) (w : World) (h : Lst w G vs ls) (h2 : ∀ i, i < 4 → (ls i).length ≤ 2 ∧ (ls i).Nodup) (hg : Good ls) :
    Calls Tryz.prog 84 #[.slice (some ⟨G, 0, none⟩) 4 cap] w fun e w' => e = .returned (.bool true) ∧ w' = w := by
  have HS : Hid (Lst w G vs ls ∧ (∀ i, i < 4 → (ls i).length ≤ 2 ∧ (ls i).Nodup) ∧ Good ls) := ⟨h, h2, hg⟩
  clear h h2 hg
  go_enter Tryz.func84, Tryz.ntmps84
  go_wp2
  go_loopw [13] (fun i wr => ∃ j : Nat, j ≤ 4 ∧ i = .int .i64 j ∧ wr = w) (fun i _ => 4 - (intOf i).toNat)
  case atStart => exact ⟨0, by omega, rfl, rfl⟩
  case round =>
    obtain ⟨j, hj, rfl, rfl⟩ := hrel
    by_cases hlt : j < 4
    · obtain ⟨e1, e2, e3⟩ := HS.out
      have cu := e1.cell j hlt
      obtain ⟨a, c, hv, hs, hc⟩ := e1.seg j hlt
      have H1 : Hid (Calls _ _ _ _ _) := fits_any j a (ls j).length c (ls j) wr hs rfl (e2 j hlt).1 hc (e2 j hlt).2 (e3 j hlt)
      rw [hv] at cu
      obtain ⟨n, hn⟩ : ∃ n, n = (ls j).length := ⟨_, rfl⟩
      rw [← hn] at cu H1
      have hjn : (j : Int) < 4 := by omega
      have HJ : Hid (j < 4) := hlt
      clear e1 e2 e3 hv hs hc hn hlt hj
      go_wp2_with fail
      refine H1.out.mono ?_
      rintro e w1 ⟨rfl, rfl⟩
      clear H1
      go_wp2
      go_roundw
      case rel => exact ⟨j + 1, by have := HJ.out; omega, by go_num, trivial⟩
      case measure => have := HJ.out; simp [intOf]; omega
    · obtain rfl : j = 4 := by omega
      go_wp2
      go_ret
      exact ⟨rfl, rfl⟩

set_option maxHeartbeats 1000000 in
theorem flush_walk (c : Nat) (s : Nat → Nat) (w : World) (Q : Nat → World → Prop) (hc : ∀ i, i < 4 → w.cell? ⟨c, i, none⟩ = some (ptr (s i))) (h0 : Q 0 w)
    (HC : Hid (∀ i, i < 4 → ∀ w, Q i w → Calls Tryz.prog 96 #[ptr (s i)] w fun r w' => r = .returned (.tuple #[]) ∧ Q (i + 1) w')) :
    Calls Tryz.prog 59 #[ptr c] w fun e w' => e = .returned (.tuple #[]) ∧ Q 4 w' := by
  have c0 := hc 0 (by omega)
  have c1 := hc 1 (by omega)
  have c2 := hc 2 (by omega)
  have c3 := hc 3 (by omega)
  have H0 : Hid (Q 0 w) := h0
  clear hc h0
  go_enter Tryz.func59, Tryz.ntmps59
  go_wp2
  clear c0 c1 c2 c3
  go_loopw [10] (fun i wr => ∃ j : Nat, j ≤ 4 ∧ i = .int .i64 j ∧ Q j wr) (fun i _ => 4 - (intOf i).toNat)
  case atStart => exact ⟨0, by omega, rfl, H0.out⟩
  case round =>
    obtain ⟨j, hj, rfl, hq⟩ := hrel
    by_cases hlt : j < 4
    · have hidx := index4 s j hlt wr
      have H1 : Hid (Calls _ _ _ _ _) := HC.out j hlt wr hq
      have hjn : (j : Int) < 4 := by omega
      have HJ : Hid (j < 4) := hlt
      clear hq hlt hj H0
      go_wp2_with fail
      refine H1.out.mono ?_
      rintro e w1 ⟨rfl, hq⟩
      have HQ : Hid (Q (j + 1) w1) := hq
      clear H1 hq hidx
      go_wp2
      go_roundw
      case rel => exact ⟨j + 1, by have := HJ.out; omega, by go_num, HQ.out⟩
      case measure => have := HJ.out; simp [intOf]; omega
    · obtain rfl : j = 4 := by omega
      have HQ : Hid (Q 4 wr) := hq
      clear hq H0
      go_wp2
      go_end0
      exact ⟨rfl, HQ.out⟩

end Go.Proofs.YtipejahmjdamjaaGreatDoor.Ch
namespace Go.Proofs.YtipejahmjdamjaaGreatDoor.Ch
open Go.RowKit Go.Shelf
set_option linter.unusedVariables false
set_option maxRecDepth 6000

/-- Where a cache is that was among F in w: its sets lie where they lay. -/
def SF (w w' : World) (c : Nat) (s : Nat → Nat) (st : Nat → List Int) (F : Nat → Prop) : Prop :=
  ∃ Fs, Ca0 w' c 4 s st Fs ∧ F c ∧ (∀ b, F b → b < w.heap.size) ∧ (∀ i, i < 4 → ∀ b, Fs i b → F b ∨ w.heap.size ≤ b) ∧ Keeps F w w'

section
variable {w w1 w2 : World} {c : Nat} {s : Nat → Nat} {st st' : Nat → List Int} {F : Nat → Prop}
theorem SF.same (h : SF w w1 c s st F) (e : ∀ i, i < 4 → st' i = st i) : SF w w1 c s st' F := by
  obtain ⟨Fs, h1, h2⟩ := h
  exact ⟨Fs, ⟨h1.blk, fun i hi => by rw [e i hi]; exact h1.sf i hi, h1.apart, h1.out⟩, h2⟩
theorem SF.now (h : SF w w1 c s st F) : NowC w w1 c st F := by
  obtain ⟨Fs, h1, h2, h3, h4, h5⟩ := h
  refine ⟨⟨fun b => (F b ∨ w.heap.size ≤ b) ∧ b < w1.heap.size, ⟨s, Fs, h1, ⟨.inl h2, h1.blk.lt⟩, fun i hi b hb => ⟨h4 i hi b hb, (h1.sf i hi).lt b hb⟩, fun b hb => hb.2⟩, fun b hb => hb.1⟩, h5⟩
theorem SF.of {Fs : Nat → Nat → Prop} (h1 : Ca0 w c 4 s st Fs) (h2 : F c) (h3 : ∀ i, i < 4 → ∀ b, Fs i b → F b) (h4 : ∀ b, F b → b < w.heap.size) : SF w w c s st F :=
  ⟨Fs, h1, h2, h4, fun i hi b hb => .inl (h3 i hi b hb), Keeps.refl _ _⟩
theorem SF.cell (h : SF w w1 c s st F) (i : Nat) (hi : i < 4) : w1.cell? ⟨c, i, none⟩ = some (ptr (s i)) := by
  obtain ⟨Fs, h1, h2⟩ := h
  exact h1.blk.cell (by rw [slots_get s hi, if_pos hi])
theorem SF.keeps (h : SF w w1 c s st F) : Keeps F w w1 := by
  obtain ⟨Fs, h1, h2, h3, h4, h5⟩ := h
  exact h5
/-- One set changes. -/
theorem SF.step (h : SF w w1 c s st F) {k : Nat} (hk : k < 4) {ks : List Int} {f : Nat} {args : Array Value} {R : Ending → Prop}
    (hC : ∀ Fk, Sf w1 (s k) 2 (st k) Fk → Calls Tryz.prog f args w1 fun r w2 => R r ∧ Now w1 w2 (s k) 2 ks Fk) :
    Calls Tryz.prog f args w1 fun r w2 => R r ∧ SF w w2 c s (fun i => if i = k then ks else st i) F := by
  obtain ⟨Fs, h1, h2, h3, h4, h5⟩ := h
  refine (hC (Fs k) (h1.sf k hk)).mono ?_
  rintro r w2 ⟨hr, ⟨F', g1, g2⟩, g3⟩
  have lt : ∀ i, i < 4 → ∀ b, Fs i b → b < w1.heap.size := fun i hi b hb => (h1.sf i hi).lt b hb
  refine ⟨hr, fun i b => if i = k then F' b else Fs i b, ⟨h1.blk.kept g3 (h1.out k hk), ?_, ?_, ?_⟩, h2, h3, ?_, h5.trans g3 fun b hb hf => ?_⟩
  · intro i hi
    by_cases e : i = k
    · subst e; simp only [if_pos]; exact g1
    · simp only [if_neg e]
      exact (h1.sf i hi).kept g3 fun b hb hb2 => h1.apart i hi k hk e b hb hb2
  · intro i hi j hj hij b hb hb2
    by_cases e : i = k
    · have e2 : j ≠ k := fun e2 => hij (e.trans e2.symm)
      simp only [if_pos e] at hb
      simp only [if_neg e2] at hb2
      rcases g2 b hb with h' | h'
      · exact h1.apart k hk j hj (fun e3 => e2 e3.symm) b h' hb2
      · have := lt j hj b hb2; omega
    · simp only [if_neg e] at hb
      by_cases e2 : j = k
      · simp only [if_pos e2] at hb2
        rcases g2 b hb2 with h' | h'
        · exact h1.apart i hi k hk e b hb h'
        · have := lt i hi b hb; omega
      · simp only [if_neg e2] at hb2
        exact h1.apart i hi j hj hij b hb hb2
  · intro i hi hb
    by_cases e : i = k
    · simp only [if_pos e] at hb
      rcases g2 c hb with h' | h'
      · exact h1.out k hk h'
      · have := h1.blk.lt; omega
    · simp only [if_neg e] at hb
      exact h1.out i hi hb
  · intro i hi b hb
    by_cases e : i = k
    · simp only [if_pos e] at hb
      rcases g2 b hb with h' | h'
      · exact h4 k hk b h'
      · exact .inr (Nat.le_trans h5.size h')
    · simp only [if_neg e] at hb
      exact h4 i hi b hb
  · rcases h4 k hk b hf with h' | h'
    · exact h'
    · omega
end

theorem flush_any (c : Nat) (s : Nat → Nat) (st : Nat → List Int) (F : Nat → Prop) (w w1 : World) (h : SF w w1 c s st F) :
    Calls Tryz.prog 59 #[ptr c] w1 fun e w' => e = .returned (.tuple #[]) ∧ SF w w' c s (fun _ => []) F := by
  refine (flush_walk c s w1 (fun j w' => SF w w' c s (fun i => if i < j then [] else st i) F) h.cell (h.same fun i hi => by simp) ?_).mono ?_
  · intro i hi w2 hS
    refine (hS.step hi (ks := []) (R := fun r => r = .returned (.tuple #[])) fun Fk hk => ?_).mono ?_
    · exact clear_all (s i) 2 _ Fk w2 hk
    · rintro r w3 ⟨rfl, h3⟩
      refine ⟨rfl, h3.same fun i' hi' => ?_⟩
      by_cases e : i' = i
      · simp [e]
      · by_cases e2 : i' < i
        · have : i' < i + 1 := by omega
          simp [e, e2, this]
        · have : ¬ i' < i + 1 := by omega
          simp [e, e2, this]
  · rintro r w3 ⟨rfl, h3⟩
    refine ⟨rfl, h3.same fun i' hi' => by simp [hi']⟩

set_option maxRecDepth 20000 in
set_option maxHeartbeats 2000000 in
theorem restore_walk (c : Nat) (s : Nat → Nat) (st : Nat → List Int) (F : Nat → Prop) (G : Nat) (vs : Nat → Value) (ls : Nat → List Int) (cap : Nat) (w : World) (h : SF w w c s st F)
    (hL : Hid (∀ w', Keeps F w w' → Lst w' G vs ls)) (h2 : ∀ i, i < 4 → (ls i).length ≤ 2 ∧ (ls i).Nodup) (hg : Good ls) :
    Calls Tryz.prog 51 #[ptr c, .slice (some ⟨G, 0, none⟩) 4 cap] w fun e w' => e = .returned (.int .i64 0) ∧ SF w w' c s ls F := by
  have H1 : Hid (Calls _ _ _ _ _) := canBe_any G vs ls cap w (hL.out w (Keeps.refl _ _)) h2 hg
  have H2 : Hid (Calls _ _ _ _ _) := flush_any c s st F w w h
  have HS : Hid ((∀ i, i < 4 → (ls i).length ≤ 2 ∧ (ls i).Nodup) ∧ Good ls) := ⟨h2, hg⟩
  clear h h2 hg
  go_enter Tryz.func51, Tryz.ntmps51
  go_wp2_with fail
  refine H1.out.mono ?_
  rintro e w1 ⟨rfl, rfl⟩
  clear H1
  go_wp2_with fail
  refine H2.out.mono ?_
  rintro e w2 ⟨rfl, hS⟩
  have H3 : Hid (SF w1 w2 c s (fun _ => []) F) := hS
  clear H2 hS
  go_wp2
  go_loopw [18] (fun i wr => ∃ j : Nat, j ≤ 4 ∧ i = .int .i64 j ∧ SF w1 wr c s (fun i => if i < j then ls i else []) F) (fun i _ => 4 - (intOf i).toNat)
  case atStart => exact ⟨0, by omega, rfl, H3.out.same fun i hi => by simp⟩
  case round =>
    obtain ⟨j, hj, rfl, hS⟩ := hrel
    by_cases hlt : j < 4
    · have cu := (hL.out wr hS.keeps).cell j hlt
      obtain ⟨a, c', hv, hs, hc'⟩ := (hL.out wr hS.keeps).seg j hlt
      rw [hv] at cu
      obtain ⟨n, hn⟩ : ∃ n, n = (ls j).length := ⟨_, rfl⟩
      rw [← hn] at cu
      have hn2 := (HS.out.1 j hlt).1
      have hnz : (n : Int) ≤ 2 := by omega
      have hjn : (j : Int) < 4 := by omega
      have HJ : Hid (j < 4 ∧ n = (ls j).length ∧ vs j = .slice a n c' ∧ SF w1 wr c s (fun i => if i < j then ls i else []) F) := ⟨hlt, hn, by rw [hv, hn], hS⟩
      clear hv hs hc' hn hlt hj hS hn2 H3
      go_wp2
      clear cu
      go_loopw [25] (fun i wr => ∃ m : Nat, m ≤ n ∧ i = .int .i64 m ∧ SF w1 wr c s (fun i => if i < j then ls i else if i = j then (ls j).take m else []) F) (fun i _ => n - (intOf i).toNat)
      case atStart => exact ⟨0, by omega, rfl, HJ.out.2.2.2.same fun i hi => by simp⟩
      case round =>
        obtain ⟨m, hm, rfl, hS⟩ := hrel
        obtain ⟨hlt, hn, hvj, -⟩ := HJ.out
        by_cases hmn : m < n
        · have hmu : m < (ls j).length := by omega
          obtain ⟨a2, c2, hv2, hs2, _⟩ := (hL.out wr hS.keeps).seg j hlt
          have ea : a2 = a := by
            rw [hvj] at hv2
            injection hv2 with h1 h2 h3
            exact h1.symm
          rw [ea] at hs2
          rcases hs2 with h0 | ⟨b, o, rfl, hcell⟩
          · exact absurd hmu (by rw [h0]; simp)
          · have cu := hcell m hmu
            have hx := HS.out.2 j hlt _ (List.getElem_mem hmu)
            have cs := hS.cell j hlt
            obtain ⟨x, hxx⟩ : ∃ x, x = (ls j)[m]'hmu := ⟨_, rfl⟩
            rw [← hxx] at cu hx
            have hput : putL 2 x ((ls j).take m) = (ls j).take (m + 1) := by
              have hnot : x ∉ (ls j).take m := by
                intro hm'
                obtain ⟨i, hi, he⟩ := List.getElem_of_mem hm'
                rw [List.getElem_take] at he
                rw [List.length_take] at hi
                rw [hxx] at he
                have := (List.getElem_inj (h₀ := by omega) (h₁ := hmu) (HS.out.1 j hlt).2).1 he
                omega
              unfold putL
              rw [if_neg hnot, if_pos (by rw [List.length_take]; have := (HS.out.1 j hlt).1; omega), List.take_add_one, List.getElem?_eq_getElem hmu, ← hxx]
              rfl
            have H4 : Hid (Calls Tryz.prog 85 #[ptr (s j), .int .i64 x, .agg #[]] wr fun r w' => (∃ z y, r = .returned (.tuple #[.int .i64 z, .bool y])) ∧ SF w1 w' c s (fun i => if i < j then ls i else if i = j then (ls j).take (m + 1) else []) F) := by
              refine (hS.step hlt (ks := (ls j).take (m + 1)) (R := fun r => ∃ z y, r = .returned (.tuple #[.int .i64 z, .bool y])) fun Fk hk => ?_).mono ?_
              · simp only [Nat.lt_irrefl, if_false, if_true] at hk
                refine (put_any (s j) 2 _ Fk x wr hk (by omega)).mono ?_
                rintro r w' ⟨rfl, hN⟩
                rw [hput] at hN
                exact ⟨⟨_, _, rfl⟩, hN⟩
              · rintro r w' ⟨hr, h3⟩
                refine ⟨hr, h3.same fun i' hi' => ?_⟩
                by_cases e : i' = j
                · subst e; simp
                · simp [e]
            have hmz : (m : Int) < n := by omega
            have HM : Hid (m < n) := hmn
            clear hcell hmu hxx hx hput hS hm hmn hv2 ea hlt hn hvj
            go_wp2_with fail
            refine H4.out.mono ?_
            rintro e w5 ⟨⟨z, y, rfl⟩, hS5⟩
            have H5 : Hid (SF w1 w5 c s (fun i => if i < j then ls i else if i = j then (ls j).take (m + 1) else []) F) := hS5
            clear H4 hS5 cu cs
            go_wp2
            go_roundw
            case rel => exact ⟨m + 1, by have := HM.out; omega, by go_num, H5.out⟩
            case measure => have := HM.out; simp [intOf]; omega
        · obtain rfl : m = n := by omega
          have HQ : Hid (SF w1 wr c s (fun i => if i < j + 1 then ls i else []) F) := hS.same fun i hi => by
            by_cases e : i < j
            · have : i < j + 1 := by omega
              simp [e, this]
            · by_cases e2 : i = j
              · subst e2
                simp [hn]
              · have : ¬ i < j + 1 := by omega
                simp [e, e2, this]
          clear hS hm hmn hn hvj hlt
          go_wp2
          go_roundw
          case rel => exact ⟨j + 1, by have := HJ.out.1; omega, by go_num, HQ.out⟩
          case measure => have := HJ.out.1; simp [intOf]; omega
    · obtain rfl : j = 4 := by omega
      have HQ : Hid (SF w1 wr c s ls F) := hS.same fun i hi => by simp [hi]
      clear hS H3
      go_wp2
      go_ret
      exact ⟨rfl, HQ.out⟩

theorem restore_any (c : Nat) (st : Nat → List Int) (F : Nat → Prop) (G : Nat) (vs : Nat → Value) (ls : Nat → List Int) (cap : Nat) (w : World) (h : Ca w c st F)
    (hL : ∀ w', Keeps F w w' → Lst w' G vs ls) (h2 : ∀ i, i < 4 → (ls i).length ≤ 2 ∧ (ls i).Nodup) (hg : Good ls) :
    Calls Tryz.prog 51 #[ptr c, .slice (some ⟨G, 0, none⟩) 4 cap] w fun e w' => e = .returned (.int .i64 0) ∧ NowC w w' c ls F := by
  obtain ⟨s, Fs, g1, g2, g3, g4⟩ := h
  refine (restore_walk c s st F G vs ls cap w (SF.of g1 g2 g3 g4) hL h2 hg).mono ?_
  rintro r w' ⟨rfl, hS⟩
  exact ⟨rfl, hS.now⟩

end Go.Proofs.YtipejahmjdamjaaGreatDoor.Ch
namespace Go.Proofs.YtipejahmjdamjaaGreatDoor.Ch
open Go.RowKit Go.Shelf
end Go.Proofs.YtipejahmjdamjaaGreatDoor.Ch
namespace Go.Proofs.YtipejahmjdamjaaGreatDoor.Ch
open Go.RowKit Go.Shelf
set_option linter.unusedVariables false
set_option maxRecDepth 6000

/-- The cells of N numbers. -/
def fl (N : Nat) (f : Nat → Int) : List Value := (List.range N).map fun i => .int .i64 (f i)
theorem fl_get {N : Nat} (f : Nat → Int) {i : Nat} (h : i < N) : (fl N f)[i]? = some (.int .i64 (f i)) := by
  unfold fl
  rw [List.getElem?_map, List.getElem?_range h]
  rfl
theorem fl_length (N : Nat) (f : Nat → Int) : (fl N f).length = N := by simp [fl]
theorem fl_set {N : Nat} (f : Nat → Int) (m : Nat) (x : Int) : (fl N f).set m (.int .i64 x) = fl N (fun i => if i = m then x else f i) := by
  apply List.ext_getElem?
  intro i
  rw [List.getElem?_set]
  by_cases hi : i < N
  · rw [fl_get _ hi, fl_get _ hi]
    by_cases e : m = i
    · subst e
      simp [fl_length, hi]
    · have e2 : ¬ i = m := fun h => e h.symm
      simp [e, e2]
  · have h1 : (fl N f)[i]? = none := by rw [List.getElem?_eq_none_iff, fl_length]; omega
    have h2 : (fl N (fun i => if i = m then x else f i))[i]? = none := by rw [List.getElem?_eq_none_iff, fl_length]; omega
    rw [h1, h2]
    by_cases e : m = i
    · subst e; simp [fl_length, hi]
    · simp [e]
theorem fl_congr {N : Nat} {f g : Nat → Int} (h : ∀ i, i < N → f i = g i) : fl N f = fl N g := by
  unfold fl
  refine List.map_congr_left fun i hi => ?_
  rw [h i (by simpa using hi)]

/-- What a handed list has in its places and behind them. -/
def spareF (ks : List Int) (i : Nat) : Int := (ks[i]?).getD (-5000 - (i : Int))

theorem make_ints (w : World) (N : Nat) (hN : N ≤ 1000) : (Instr.makeSlice 99 (.int .i64 N) (.int .i64 N)).run Tryz.prog w = .ok (.slice (some ⟨w.heap.size, 0, none⟩) N N) (w.alloc (.cells (fl N (fun _ => 0)).toArray 3)) := by
  obtain ⟨i0, hi, hz0, hz1, hz2⟩ := info_parts Tryz.info3
  have h := run_make (P := Tryz.prog) w 99 3 i0 _ Tryz.underlying99 hi hz0 .i64 .i64 N N (by omega) (by omega) (by rw [hz2]; omega) (by omega)
  rw [hz1, Nat.mul_one, Int.toNat_natCast] at h
  have e : madeCells (Value.int .i64 0).cells N = (fl N (fun _ => 0)).toArray := by
    apply Array.ext'
    apply List.ext_getElem?
    intro i
    have hm : i % 1 = 0 := by omega
    by_cases hi : i < N
    · simp [madeCells, fl, hi, Value.cells, hm]
    · simp [madeCells, fl, hi]
  rw [e] at h
  exact h

set_option maxHeartbeats 2000000 in
theorem ints_any (a : Option Addr) (n c : Nat) (ks : List Int) (w : World) (hs : SegI w a ks) (hn : n = ks.length) (hl : n ≤ 2) :
    Calls Tryz.prog 50 #[.slice a n c] w fun e w' => e = .returned (.slice (some ⟨w.heap.size, 0, none⟩) n (n + 70)) ∧ Blk w' w.heap.size (fl (n + 70) (spareF ks)) 3 ∧ Keeps (fun _ => False) w w' := by
  obtain ⟨N, hN⟩ : ∃ N, N = n + 70 := ⟨_, rfl⟩
  obtain ⟨W1, hW1⟩ : ∃ W1, W1 = w.alloc (.cells (fl N (fun _ => 0)).toArray 3) := ⟨_, rfl⟩
  have HM : Hid ((Instr.makeSlice 99 (.int .i64 N) (.int .i64 N)).run Tryz.prog w = .ok (.slice (some ⟨w.heap.size, 0, none⟩) N N) W1) := by
    have := make_ints w N (by omega)
    rw [hW1]; exact this
  have hB : Blk W1 w.heap.size (fl N (fun _ => 0)) 3 := by rw [hW1]; exact Blk.new w _ 3
  have hK : Keeps (fun _ => False) w W1 := by rw [hW1]; exact (Keeps.refl _ w).alloc _
  have hnN : (n : Int) + 70 = (N : Int) := by omega
  have hwN : wrap64 ((n : Int) + 70) = (N : Int) := by unfold wrap64; omega
  obtain ⟨B, hBB⟩ : ∃ B, B = w.heap.size := ⟨_, rfl⟩
  rw [← hN, ← hBB]
  rw [← hBB] at hB HM
  have HB : Hid (Blk W1 B (fl N (fun _ => 0)) 3 ∧ Keeps (fun _ => False) w W1 ∧ SegI w a ks ∧ n = ks.length ∧ N = n + 70 ∧ B = w.heap.size) := ⟨hB, hK, hs, hn, hN, hBB⟩
  have hN2 : (N : Int) ≤ 72 := by omega
  have hnle : (n : Int) ≤ N := by omega
  clear hB hK hs hn hN hBB hW1 hl
  go_enter Tryz.func50, Tryz.ntmps50
  go_wp2_with (at_make; refine wpList_make_run rfl _ _ 99 rfl (.int .i64 N) (.int .i64 N) (.slice (some ⟨B, 0, none⟩) N N) W1 rfl rfl HM.out ?_; refine Hid.out ?_)
  unfold Hid
  clear HM hwN
  go_wp2
  go_loopw [4] (fun i wr => ∃ m : Nat, m ≤ N ∧ i = .int .i64 m ∧ Keeps (fun _ => False) w wr ∧ Blk wr B (fl N (fun i => if i < m then -5000 - (i : Int) else 0)) 3) (fun i _ => N - (intOf i).toNat)
  case atStart => exact ⟨0, by omega, rfl, HB.out.2.1, by simpa using HB.out.1⟩
  case round =>
    obtain ⟨m, hm, rfl, hK, hB⟩ := hrel
    by_cases hlt : m < N
    · have hmz : (m : Int) < N := by omega
      have cu := hB.cell (fl_get _ hlt)
      have fu := hB.frozen m
      have hw : wrap64 (-5000 - (m : Int)) = -5000 - (m : Int) := by unfold wrap64; omega
      have HR : Hid (Keeps (fun _ => False) w (wr.setCell ⟨B, m, none⟩ (.int .i64 (-5000 - (m : Int)))) ∧ Blk (wr.setCell ⟨B, m, none⟩ (.int .i64 (-5000 - (m : Int)))) B (fl N (fun i => if i < m + 1 then -5000 - (i : Int) else 0)) 3 ∧ m < N) := by
        refine ⟨hK.setCell _ _ fun h => by have := HB.out.2.2.2.2.2; simp at h; omega, ?_, hlt⟩
        have h1 := hB.setCell m (.int .i64 (-5000 - (m : Int)))
        rw [fl_set] at h1
        rw [fl_congr (f := fun i => if i < m + 1 then -5000 - (i : Int) else 0) fun i hi => ?_]
        · exact h1
        · by_cases e : i = m
          · subst e; simp
          · by_cases e2 : i < m
            · have : i < m + 1 := by omega
              simp [e, e2, this]
            · have : ¬ i < m + 1 := by omega
              simp [e, e2, this]
      clear hB hK hm hlt
      go_wp2
      go_roundw
      case rel => exact ⟨m + 1, by have := HR.out.2.2; omega, by go_num, HR.out.1, HR.out.2.1⟩
      case measure => have := HR.out.2.2; simp [intOf]; omega
    · obtain rfl : m = N := by omega
      have HR : Hid (Keeps (fun _ => False) w wr ∧ Blk wr B (fl m (fun i => -5000 - (i : Int))) 3) := by
        refine ⟨hK, ?_⟩
        rw [fl_congr (g := fun i => if i < m then -5000 - (i : Int) else 0) fun i hi => by simp [hi]]
        exact hB
      clear hB hK hm hlt
      go_wp2
      go_loopw [5] (fun i wr => ∃ j : Nat, j ≤ n ∧ i = .int .i64 j ∧ Keeps (fun _ => False) w wr ∧ Blk wr B (fl m (fun i => if i < j then spareF ks i else -5000 - (i : Int))) 3) (fun i _ => n - (intOf i).toNat)
      case atStart => exact ⟨0, by omega, rfl, HR.out.1, by simpa using HR.out.2⟩
      case round =>
        obtain ⟨j, hj, rfl, hK, hB⟩ := hrel
        by_cases hlt : j < n
        · obtain ⟨g1, g2, g3, g4, g5, g6⟩ := HB.out
          have hju : j < ks.length := by omega
          rcases g3 with h0 | ⟨b, o, rfl, hcell⟩
          · exact absurd hju (by rw [h0]; simp)
          · have hjz : (j : Int) < n := by omega
            have hjm : (j : Int) < m := by omega
            have cx := cell_kept (hcell j hju) hK fun h => h
            have cu := hB.cell (fl_get _ (show j < m by omega))
            have fu := hB.frozen j
            obtain ⟨x, hxx⟩ : ∃ x, x = ks[j]'hju := ⟨_, rfl⟩
            rw [← hxx] at cx
            have HR2 : Hid (Keeps (fun _ => False) w (wr.setCell ⟨B, j, none⟩ (.int .i64 x)) ∧ Blk (wr.setCell ⟨B, j, none⟩ (.int .i64 x)) B (fl m (fun i => if i < j + 1 then spareF ks i else -5000 - (i : Int))) 3 ∧ j < n) := by
              refine ⟨hK.setCell _ _ fun h => by simp at h; omega, ?_, hlt⟩
              have h1 := hB.setCell j (.int .i64 x)
              rw [fl_set] at h1
              rw [fl_congr (f := fun i => if i < j + 1 then spareF ks i else -5000 - (i : Int)) fun i hi => ?_]
              · exact h1
              · by_cases e : i = j
                · subst e; simp [spareF, hju, hxx]
                · by_cases e2 : i < j
                  · have : i < j + 1 := by omega
                    simp [e, e2, this]
                  · have : ¬ i < j + 1 := by omega
                    simp [e, e2, this]
            clear hB hK hj hlt hcell hju hxx g1 g2 g4 g5 g6 HR
            go_wp2
            go_roundw
            case rel => exact ⟨j + 1, by have := HR2.out.2.2; omega, by go_num, HR2.out.1, HR2.out.2.1⟩
            case measure => have := HR2.out.2.2; simp [intOf]; omega
        · obtain rfl : j = n := by omega
          have HR2 : Hid (Blk wr B (fl m (spareF ks)) 3 ∧ Keeps (fun _ => False) w wr) := by
            refine ⟨?_, hK⟩
            rw [fl_congr (g := fun i => if i < j then spareF ks i else -5000 - (i : Int)) fun i hi => ?_]
            · exact hB
            · by_cases e : i < j
              · simp [e]
              · have h1 : ks[i]? = none := by rw [List.getElem?_eq_none_iff]; have := HB.out.2.2.2.1; omega
                simp [e, spareF, h1]
          clear hB hK hj hlt HR
          go_wp2
          go_ret
          exact ⟨rfl, HR2.out⟩

set_option maxHeartbeats 2000000 in
theorem kept_any (B : Nat) (a : Option Addr) (n c : Nat) (ks : List Int) (w : World) (hB : Blk w B (fl (n + 70) (spareF ks)) 3) (hs : SegI w a ks) (hn : n = ks.length) (hl : n ≤ 2) :
    Calls Tryz.prog 55 #[.slice (some ⟨B, 0, none⟩) n (n + 70), .slice a n c] w fun e w' => e = .returned (.bool true) ∧ w' = w := by
  obtain ⟨N, hN⟩ : ∃ N, N = n + 70 := ⟨_, rfl⟩
  have hwN : wrap64 ((n : Int) + 70) = (N : Int) := by unfold wrap64; omega
  have hN2 : (N : Int) ≤ 72 := by omega
  have hnN : (n : Int) ≤ N := by omega
  have hnz : (n : Int) + 70 = N := by omega
  rw [← hN] at hB ⊢
  have HB : Hid (Blk w B (fl N (spareF ks)) 3 ∧ SegI w a ks ∧ n = ks.length) := ⟨hB, hs, hn⟩
  clear hB hs hn hN hl
  go_enter Tryz.func55, Tryz.ntmps55
  go_wp2
  go_loopw [6] (fun i wr => ∃ m : Nat, m ≤ N ∧ i = .int .i64 m ∧ wr = w) (fun i _ => N - (intOf i).toNat)
  case atStart => exact ⟨0, by omega, rfl, rfl⟩
  case round =>
    obtain ⟨m, hm, rfl, rfl⟩ := hrel
    by_cases hlt : m < N
    · obtain ⟨g1, g2, g3⟩ := HB.out
      have hmz : (m : Int) < N := by omega
      have cu := g1.cell (fl_get _ hlt)
      have hw : wrap64 (-5000 - (m : Int)) = -5000 - (m : Int) := by unfold wrap64; omega
      have HM : Hid (m < N) := hlt
      by_cases hmn : m < n
      · have hmu : m < ks.length := by omega
        rcases g2 with h0 | ⟨b, o, rfl, hcell⟩
        · exact absurd hmu (by rw [h0]; simp)
        · have cx := hcell m hmu
          have e1 : spareF ks m = ks[m]'hmu := by simp [spareF, hmu]
          rw [e1] at cu
          obtain ⟨x, hxx⟩ : ∃ x, x = ks[m]'hmu := ⟨_, rfl⟩
          rw [← hxx] at cu cx
          have hmz2 : (m : Int) < n := by omega
          clear g1 g3 hcell hxx e1 hmu hmn hlt hm
          go_wp2
          go_roundw
          case rel => exact ⟨m + 1, by have := HM.out; omega, by go_num, trivial⟩
          case measure => have := HM.out; simp [intOf]; omega
      · have e1 : spareF ks m = -5000 - (m : Int) := by
          have h1 : ks[m]? = none := by rw [List.getElem?_eq_none_iff]; omega
          simp [spareF, h1]
        rw [e1] at cu
        have hmz2 : ¬ ((m : Int) < n) := by omega
        clear g1 g2 g3 e1 hmn hlt hm
        go_wp2
        go_roundw
        case rel => exact ⟨m + 1, by have := HM.out; omega, by go_num, trivial⟩
        case measure => have := HM.out; simp [intOf]; omega
    · obtain rfl : m = N := by omega
      go_wp2
      go_ret
      exact ⟨rfl, rfl⟩

theorem fl_owns {w : World} {B n N : Nat} {f : Nat → Int} (hB : Blk w B (fl N f) 3) (hn : n ≤ N) (hN : N ≤ 1000) : w.ownsRow 0 3 1 (.slice (some ⟨B, 0, none⟩) n N) n ((fl N f).take n) := by
  refine ⟨by rw [List.length_take, fl_length]; omega, .inr ⟨B, N, _, rfl, Nat.zero_le _, hB, hn, by unfold maxLen; omega, ?_, ?_⟩⟩
  · simp [fl_length]
  · simp

def slN : Value → Nat | .slice _ n _ => n | _ => 0
theorem owns_form {w : World} {e : TypeId} {size n : Nat} {v : Value} {vs : List Value} (h : w.ownsRow 0 e size v n vs) : ∃ a c, v = .slice a n c := by
  rcases h.2 with ⟨rfl, rfl⟩ | ⟨g, cap, cur, rfl, _⟩
  · exact ⟨none, 0, rfl⟩
  · exact ⟨_, cap, rfl⟩

set_option maxHeartbeats 2000000 in
theorem spoilInts_any (B n : Nat) (f : Nat → Int) (mark : Int) (w : World) (hB : Blk w B (fl (n + 70) f) 3) (hl : n ≤ 2) :
    Calls Tryz.prog 56 #[.slice (some ⟨B, 0, none⟩) n (n + 70), .int .i64 mark] w fun e w' => e = .returned (.tuple #[]) ∧ Keeps (· = B) w w' := by
  obtain ⟨N, hN⟩ : ∃ N, N = n + 70 := ⟨_, rfl⟩
  rw [← hN] at hB ⊢
  have hN2 : (N : Int) ≤ 72 := by omega
  have hnN : (n : Int) ≤ N := by omega
  have HB : Hid (Blk w B (fl N f) 3 ∧ N = n + 70 ∧ n ≤ 2) := ⟨hB, hN, hl⟩
  clear hB hN hl
  go_enter Tryz.func56, Tryz.ntmps56
  go_wp2
  go_loopw [4] (fun i wr => ∃ (m : Nat) (g : Nat → Int), m ≤ n ∧ i = .int .i64 m ∧ Keeps (· = B) w wr ∧ Blk wr B (fl N g) 3) (fun i _ => n - (intOf i).toNat)
  case atStart => exact ⟨0, f, by omega, rfl, Keeps.refl _ _, HB.out.1⟩
  case round =>
    obtain ⟨m, g, hm, rfl, hK, hb⟩ := hrel
    by_cases hlt : m < n
    · have hmz : (m : Int) < n := by omega
      have cu := hb.cell (fl_get g (show m < N by have := HB.out.2; omega))
      have fu := hb.frozen m
      have HR : Hid (∀ x : Int, Keeps (· = B) w (wr.setCell ⟨B, m, none⟩ (.int .i64 x)) ∧ ∃ g, Blk (wr.setCell ⟨B, m, none⟩ (.int .i64 x)) B (fl N g) 3) := fun x => by
        have h1 := hb.setCell m (.int .i64 x)
        rw [fl_set] at h1
        exact ⟨hK.setCell _ _ fun _ => rfl, _, h1⟩
      have HM : Hid (m < n) := hlt
      clear hb hK hm hlt
      go_wp2
      go_roundw
      case rel =>
        obtain ⟨h1, g, h2⟩ := HR.out _
        exact ⟨m + 1, g, by have := HM.out; omega, by go_num, h1, h2⟩
      case measure => have := HM.out; simp [intOf]; omega
    · obtain rfl : m = n := by omega
      have HR : Hid (wr.ownsRow 0 3 1 (.slice (some ⟨B, 0, none⟩) m N) m ((fl N g).take m) ∧ Keeps (· = B) w wr) := ⟨fl_owns hb (by omega) (by omega), hK⟩
      clear hb hK hm hlt
      obtain ⟨wo, hwo⟩ : ∃ wo, wo = wr := ⟨_, rfl⟩
      subst hwo
      go_wp2
      go_loopw [0, 5] (fun v i wr => ∃ (j : Nat) (vs : List Value), j ≤ 72 ∧ i = .int .i64 j ∧ wr.ownsRow 0 3 1 v (m + j) vs ∧ Grew wo (.slice (some ⟨B, 0, none⟩) m N) wr v) (fun _ i _ => 72 - (intOf i).toNat)
      case atStart => exact ⟨0, _, by omega, rfl, HR.out.1, Grew.refl _ _⟩
      case round =>
        obtain ⟨j, vs, hj, rfl, hO, hG⟩ := hrel
        by_cases hlt : j < 72
        · obtain ⟨a, c, rfl⟩ := owns_form hO
          have hjz : (j : Int) < 72 := by omega
          have hm2 := HB.out.2.2
          obtain ⟨x, hx⟩ : ∃ x : Int, x = wrap64 (wrap64 (-mark) - (j : Int)) := ⟨_, rfl⟩
          obtain ⟨v', W', happ, hown', hgr⟩ := append_int x (.slice a (m + j) c) _ _ hO (by omega)
          have HAP : Hid (∀ ty, (Builtin.append_ #[99, 99] ty #[.slice a (m + j) c, .slice (some ⟨wr.heap.size, 0, none⟩) 1 1]).run Tryz.prog (wr.alloc (.cells #[.int .i64 x] 3)) = .ok v' W') := happ
          have HR2 : Hid ((∃ vs', W'.ownsRow 0 3 1 v' (m + (j + 1)) vs') ∧ Grew wo (.slice (some ⟨B, 0, none⟩) m N) W' v' ∧ j < 72 ∧ x = wrap64 (wrap64 (-mark) - (j : Int))) := ⟨⟨_, by rw [← Nat.add_assoc]; exact hown'⟩, hG.trans hgr, hlt, hx⟩
          clear happ hown' hgr hO hG hj hlt hx hm2
          go_wp2_with (at_builtin; go_must (rw [← HR2.out.2.2.2]; refine wpList_append_run rfl (.tmp 23) (.tmp 28) 99 99 rfl (.slice a (m + j) c) (.slice (some ⟨wr.heap.size, 0, none⟩) 1 1) v' W' rfl rfl HAP.out ?_; refine Hid.out ?_))
          unfold Hid
          go_wp2
          go_roundw
          case rel =>
            obtain ⟨⟨vs', h1⟩, h2, h3, -⟩ := HR2.out
            exact ⟨j + 1, vs', by omega, by go_num, h1, h2⟩
          case measure => have := HR2.out.2.2.1; simp [intOf]; omega
        · obtain rfl : j = 72 := by omega
          have HR2 : Hid (Keeps (· = B) w wr) := by
            refine HR.out.2.trans (hG.keeps.mono (T := (· = B)) fun b hb he => ?_) fun _ _ h => h
            simpa [Value.ownBlock] using he
          clear hO hG hj hlt
          go_wp2
          go_end0
          exact ⟨rfl, HR2.out⟩

end Go.Proofs.YtipejahmjdamjaaGreatDoor.Ch
