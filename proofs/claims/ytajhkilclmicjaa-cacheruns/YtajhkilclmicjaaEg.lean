import Derived.Test.YtajhkilclmicjaaEf
namespace Go.Proofs.Ytajhkilclmicjaa
open Go.RowKit Go.Shelf
set_option linter.unusedVariables false
set_option linter.unusedSimpArgs false
set_option maxRecDepth 6000

/-- The program's cache and the document's, since w: all their blocks are among D or new. -/
def Mid (w w1 : World) (c b : Nat) (st : Nat → List Int) (us : List Int) (D : Nat → Prop) : Prop :=
  ∃ u F1 F2, Ca w1 c st F1 ∧ Rc w1 b us u F2 ∧ (∀ k, F1 k → ¬ F2 k) ∧ (∀ k, F1 k → D k ∨ w.heap.size ≤ k) ∧ (∀ k, F2 k → D k ∨ w.heap.size ≤ k) ∧ (∀ k, D k → k < w.heap.size) ∧ Keeps D w w1
/-- A pair: both hold the same. -/
def PrS (w : World) (c b : Nat) (st : Nat → List Int) (us : List Int) (D : Nat → Prop) : Prop := Rel st us ∧ ∃ u F1 F2, Ca w c st F1 ∧ Rc w b us u F2 ∧ (∀ k, F1 k → ¬ F2 k) ∧ (∀ k, F1 k → D k) ∧ (∀ k, F2 k → D k) ∧ ∀ k, D k → k < w.heap.size
def Pr (w : World) (c b : Nat) (D : Nat → Prop) : Prop := ∃ st us, PrS w c b st us D
def NowP (w w' : World) (c b : Nat) (D : Nat → Prop) : Prop := (∃ D', Pr w' c b D' ∧ ∀ k, D' k → D k ∨ w.heap.size ≤ k) ∧ Keeps D w w'

section
variable {w w1 w2 : World} {c b : Nat} {st st' : Nat → List Int} {us us' : List Int} {D : Nat → Prop}
theorem Pr.lt (h : Pr w c b D) : ∀ k, D k → k < w.heap.size := by
  obtain ⟨st, us, hr, u, F1, F2, h1, h2, h3, h4, h5, h6⟩ := h
  exact h6
theorem PrS.kept {S : Nat → Prop} (h : PrS w c b st us D) (hK : Keeps S w w1) (hS : ∀ k, D k → ¬ S k) : PrS w1 c b st us D := by
  obtain ⟨hr, u, F1, F2, h1, h2, h3, h4, h5, h6⟩ := h
  exact ⟨hr, u, F1, F2, h1.kept hK fun k hk => hS k (h4 k hk), h2.kept hK fun k hk => hS k (h5 k hk), h3, h4, h5, fun k hk => Nat.lt_of_lt_of_le (h6 k hk) hK.size⟩
theorem Pr.kept {S : Nat → Prop} (h : Pr w c b D) (hK : Keeps S w w1) (hS : ∀ k, D k → ¬ S k) : Pr w1 c b D := by
  obtain ⟨st, us, h⟩ := h
  exact ⟨st, us, h.kept hK hS⟩
theorem PrS.rel (h : PrS w c b st us D) : Rel st us := h.1
theorem PrS.few (h : PrS w c b st us D) : ∀ i, i < 4 → (st i).Nodup ∧ (st i).length ≤ 2 := by
  obtain ⟨hr, u, F1, F2, h1, h2, h3, h4, h5, h6⟩ := h
  exact fun i hi => ⟨h1.nodup i hi, h1.fits i hi⟩
theorem PrS.mid (h : PrS w c b st us D) : Mid w w c b st us D := by
  obtain ⟨hr, u, F1, F2, h1, h2, h3, h4, h5, h6⟩ := h
  exact ⟨u, F1, F2, h1, h2, h3, fun k hk => .inl (h4 k hk), fun k hk => .inl (h5 k hk), h6, Keeps.refl _ _⟩
theorem Mid.keeps (h : Mid w w1 c b st us D) : Keeps D w w1 := by
  obtain ⟨u, F1, F2, h1, h2, h3, h4, h5, h6, h7⟩ := h
  exact h7
theorem Mid.done (h : Mid w w1 c b st us D) (hr : Rel st us) : NowP w w1 c b D := by
  obtain ⟨u, F1, F2, h1, h2, h3, h4, h5, h6, h7⟩ := h
  exact ⟨⟨fun k => (D k ∨ w.heap.size ≤ k) ∧ k < w1.heap.size, ⟨st, us, hr, u, F1, F2, h1, h2, h3, fun k hk => ⟨h4 k hk, h1.lt k hk⟩, fun k hk => ⟨h5 k hk, h2.lt k hk⟩, fun k hk => hk.2⟩, fun k hk => hk.1⟩, h7⟩
theorem Mid.kept (h : Mid w w1 c b st us D) (hK : Keeps (fun _ => False) w1 w2) : Mid w w2 c b st us D := by
  obtain ⟨u, F1, F2, h1, h2, h3, h4, h5, h6, h7⟩ := h
  exact ⟨u, F1, F2, h1.kept hK fun _ _ h => h, h2.kept hK fun _ _ h => h, h3, h4, h5, h6, h7.trans hK fun _ _ h => h.elim⟩
theorem Mid.left {f : Nat} {args : Array Value} {R : Ending → Prop} (h : Mid w w c b st us D) (hC : ∀ F1, (∀ k, F1 k → D k) → Ca w c st F1 → Calls Try.prog f args w fun r w2 => R r ∧ NowC w w2 c st' F1) :
    Calls Try.prog f args w fun r w2 => R r ∧ Keeps D w w2 ∧ Mid w w2 c b st' us D := by
  obtain ⟨u, F1, F2, h1, h2, h3, h4, h5, h6, h7⟩ := h
  have hF : ∀ k, F1 k → D k := fun k hk => (h4 k hk).elim id fun h => by have := h1.lt k hk; omega
  refine (hC F1 hF h1).mono ?_
  rintro r w2 ⟨hr, ⟨F', g1, g2⟩, g3⟩
  refine ⟨hr, g3.mono fun k _ hk => hF k hk, u, F', F2, g1, h2.kept g3 fun k hk hk1 => h3 k hk1 hk, fun k hk hk2 => ?_, fun k hk => ?_, h5, h6, g3.mono fun k _ hk => hF k hk⟩
  · rcases g2 k hk with h | h
    · exact h3 k h hk2
    · have := h2.lt k hk2; omega
  · rcases g2 k hk with h | h
    · exact .inl (hF k h)
    · exact .inr h
theorem Mid.right {f : Nat} {args : Array Value} {R : Ending → Prop} (h : Mid w w1 c b st us D) (hC : ∀ u F2, Rc w1 b us u F2 → Calls Try.prog f args w1 fun r w2 => R r ∧ NowR w1 w2 b us' F2) :
    Calls Try.prog f args w1 fun r w2 => R r ∧ Mid w w2 c b st us' D := by
  obtain ⟨u, F1, F2, h1, h2, h3, h4, h5, h6, h7⟩ := h
  refine (hC u F2 h2).mono ?_
  rintro r w2 ⟨hr, ⟨u', F', g1, g2⟩, g3⟩
  refine ⟨hr, u', F1, F', h1.kept g3 fun k hk hk2 => h3 k hk hk2, g1, fun k hk hk2 => ?_, h4, fun k hk => ?_, h6, h7.trans g3 fun k hk hf => ?_⟩
  · rcases g2 k hk2 with h | h
    · exact h3 k hk h
    · have := h1.lt k hk; omega
  · rcases g2 k hk with h | h
    · exact h5 k h
    · exact .inr (Nat.le_trans h7.size h)
  · exact (h5 k hf).elim id fun h => by omega
theorem NowP.base (hK : Keeps (fun _ => False) w w1) (h : NowP w1 w2 c b D) : NowP w w2 c b D := by
  obtain ⟨⟨D', g1, g2⟩, g3⟩ := h
  exact ⟨⟨D', g1, fun k hk => (g2 k hk).imp id fun h => Nat.le_trans hK.size h⟩, (hK.mono fun _ _ h => h.elim).trans g3 fun _ _ h => h⟩
end

theorem quot4 {z : Int} (h : 0 ≤ z ∧ z < 16384) : ∃ a : Nat, z = a ∧ a < 16384 := ⟨z.toNat, by omega, by omega⟩


section
variable {w : World} {c b : Nat} {st : Nat → List Int} {us : List Int} {D : Nat → Prop}

theorem one_any0 (o z : Int) (a : Option Addr) (L cap : Nat) (h : PrS w c b st us D) (hD : ∀ k, D k → k < w.heap.size) :
    Calls Try.prog 11 #[ptr c, ptr b, .agg #[.int .i64 0, .int .i64 o, .int .i64 z, .slice a L cap]] w fun r w' => r = .returned (.bool true) ∧ NowP w w' c b D := by
  have hr := h.rel
  have hf := h.few
  by_cases hz : 0 ≤ z ∧ z < 16384
  · obtain ⟨q, rfl, hq⟩ := quot4 hz
    refine one_touch (ptr c) (ptr b) q o (costR (q / 4) us) 0 a L cap w D (fun w2 => ∃ w1, Keeps (fun _ => False) w w1 ∧ Mid w1 w2 c b (step (q / 4) st) us D) _ hD ?_ ?_
    · intro w1 hK
      refine ((h.kept hK fun _ _ h => h).mid.left (st' := step (q / 4) st) (R := fun r => r = .returned (.tuple #[.int .i64 (costR (q / 4) us), .int .i64 0])) fun F1 _ hF => ?_).mono ?_
      · rw [← rel_cost hr]
        exact touch_any c q st F1 w1 hF hq
      · rintro r w2 ⟨rfl, k1, k2⟩
        exact ⟨rfl, k1, w1, hK, k2⟩
    · rintro w2 ⟨w1, hK, hM⟩
      refine (hM.right (R := fun r => r = .returned (.tuple #[.int .i64 (costR (q / 4) us), .int .i64 0])) fun u F2 hF => touchR_any b us u F2 q (q / 4) w2 hF hr.pos hq rfl).mono ?_
      rintro r w3 ⟨rfl, hM3⟩
      exact ⟨rfl, (hM3.done (rel_touch hr (fun i hi => (hf i hi).1) _)).base hK⟩
  · refine one_touch (ptr c) (ptr b) z o 0 70 a L cap w D (fun w2 => Keeps (fun _ => False) w w2) _ hD ?_ ?_
    · intro w1 hK
      refine (touch_out c z w1 hz).mono ?_
      rintro r w2 ⟨rfl, rfl⟩
      exact ⟨rfl, Keeps.refl _ _, hK⟩
    · intro w2 hK
      refine (touchR_out b z w2 hz).mono ?_
      rintro r w3 ⟨rfl, rfl⟩
      exact ⟨rfl, ((h.kept hK fun _ _ h => h).mid.done hr).base hK⟩

theorem one_any1 (o z : Int) (a : Option Addr) (L cap : Nat) (h : PrS w c b st us D) (hD : ∀ k, D k → k < w.heap.size) :
    Calls Try.prog 11 #[ptr c, ptr b, .agg #[.int .i64 1, .int .i64 o, .int .i64 z, .slice a L cap]] w fun r w' => r = .returned (.bool true) ∧ NowP w w' c b D := by
  have hr := h.rel
  by_cases hz : 0 ≤ z ∧ z < 16384
  · obtain ⟨q, rfl, hq⟩ := quot4 hz
    refine one_holds (ptr c) (ptr b) q o (has us (q / 4)) a L cap w D (fun w2 => Keeps (fun _ => False) w w2) _ hD ?_ ?_
    · intro w1 hK
      obtain ⟨_, u, F1, F2, h1, h2, h3, h4, h5, h6⟩ := h.kept hK fun _ _ h => h
      refine (holds_any c q st F1 w1 h1 hq).mono ?_
      rintro r w2 ⟨rfl, hK2⟩
      exact ⟨by rw [rel_has hr], hK2.mono fun _ _ h => h.elim, hK.trans hK2 fun _ _ h => h⟩
    · intro w2 hK
      obtain ⟨_, u, F1, F2, h1, h2, h3, h4, h5, h6⟩ := h.kept hK fun _ _ h => h
      refine (holdsR_any b us u F2 q (q / 4) w2 h2 hr.pos hq rfl).mono ?_
      rintro r w3 ⟨rfl, hK3⟩
      have hK4 := hK.trans hK3 fun _ _ h => h
      exact ⟨rfl, ((h.kept hK4 fun _ _ h => h).mid.done hr).base hK4⟩
  · refine one_holds (ptr c) (ptr b) z o false a L cap w D (fun w2 => Keeps (fun _ => False) w w2) _ hD ?_ ?_
    · intro w1 hK
      refine (holds_out c z w1 hz).mono ?_
      rintro r w2 ⟨rfl, rfl⟩
      exact ⟨rfl, Keeps.refl _ _, hK⟩
    · intro w2 hK
      refine (holdsR_out b z w2 hz).mono ?_
      rintro r w3 ⟨rfl, rfl⟩
      exact ⟨rfl, ((h.kept hK fun _ _ h => h).mid.done hr).base hK⟩

theorem one_any2 (o z : Int) (a : Option Addr) (L cap : Nat) (h : PrS w c b st us D) :
    Calls Try.prog 11 #[ptr c, ptr b, .agg #[.int .i64 2, .int .i64 o, .int .i64 z, .slice a L cap]] w fun r w' => r = .returned (.bool true) ∧ NowP w w' c b D := by
  refine one_flush (ptr c) (ptr b) z o a L cap w (fun w2 => ∃ w1, Keeps (fun _ => False) w w1 ∧ Mid w1 w2 c b (fun _ => []) us D) _ ?_ ?_
  · intro w1 hK
    refine ((h.kept hK fun _ _ h => h).mid.left (R := fun r => r = .returned (.tuple #[])) fun F1 _ hF => flushC_any c st F1 w1 hF).mono ?_
    rintro r w2 ⟨rfl, k1, k2⟩
    exact ⟨rfl, w1, hK, k2⟩
  · rintro w2 ⟨w1, hK, hM⟩
    refine (hM.right (R := fun r => r = .returned (.tuple #[])) fun u F2 hF => flushR_any b us u F2 w2 hF).mono ?_
    rintro r w3 ⟨rfl, hM3⟩
    exact ⟨rfl, (hM3.done rel_none).base hK⟩

theorem one_any3 (d o z : Int) (a : Option Addr) (L cap : Nat) (h : PrS w c b st us D) (h0 : d ≠ 0) (h1 : d ≠ 1) (h2 : d ≠ 2) (h4 : d ≠ 4) :
    Calls Try.prog 11 #[ptr c, ptr b, .agg #[.int .i64 d, .int .i64 o, .int .i64 z, .slice a L cap]] w fun r w' => r = .returned (.bool true) ∧ NowP w w' c b D := by
  have hr := h.rel
  have hf := h.few
  refine one_lines (ptr c) (ptr b) d z o 4 a L cap w (fun a1 p1 w2 => Keeps (fun _ => False) w w2 ∧ SegL w2 a1 [st 0, st 1, st 2, st 3]) (fun a1 p1 a2 p2 w3 => Keeps (fun _ => False) w w3 ∧ SegL w3 a1 [st 0, st 1, st 2, st 3] ∧ SegL w3 a2 [st 0, st 1, st 2, st 3]) _ h0 h1 h2 h4 ?_ ?_ ?_
  · intro w1 hK
    obtain ⟨_, u, F1, F2, g1, g2, g3, g4, g5, g6⟩ := h.kept hK fun _ _ h => h
    refine (lines_any c st F1 w1 g1).mono ?_
    rintro r w2 ⟨G, vs, rfl, k1, k2, k3⟩
    exact ⟨_, _, rfl, hK.trans k3 fun _ _ h => h, Four.segL (D := fun _ => True) k1.lst fun i hi => (hf i hi).2⟩
  · rintro a1 p1 w2 ⟨hK, hs⟩
    obtain ⟨_, u, F1, F2, g1, g2, g3, g4, g5, g6⟩ := h.kept hK fun _ _ h => h
    refine (linesR_any b us u F2 w2 g2 hr.pos).mono ?_
    rintro r w3 ⟨G, vs, p2, rfl, k1, k2⟩
    refine ⟨_, _, rfl, hK.trans k2 fun _ _ h => h, hs.kept k2, ?_⟩
    have e := Four.segL (D := fun _ => True) k1.lst fun i hi => hd_len _ _
    rw [show hd ((0 : Nat) : Int) us = st 0 from hr.eq 0 (by omega), show hd ((1 : Nat) : Int) us = st 1 from hr.eq 1 (by omega), show hd ((2 : Nat) : Int) us = st 2 from hr.eq 2 (by omega), show hd ((3 : Nat) : Int) us = st 3 from hr.eq 3 (by omega)] at e
    exact e
  · rintro a1 p1 a2 p2 w3 ⟨hK, hs1, hs2⟩
    refine (same_all a1 a2 [st 0, st 1, st 2, st 3] p1 p2 w3 hs1 hs2 (by simp)).mono ?_
    rintro r w4 ⟨rfl, hK4⟩
    have hK5 := hK.trans hK4 fun _ _ h => h
    exact ⟨rfl, ((h.kept hK5 fun _ _ h => h).mid.done hr).base hK5⟩
end

end Go.Proofs.Ytajhkilclmicjaa
