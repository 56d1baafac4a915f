import Derived.Test.YtajhkilclmicjaaTo
import Derived.Deep.RegionHeld3
namespace Go.Proofs.Ytajhkilclmicjaa
open Go.RowKit Go.Shelf
set_option linter.unusedVariables false

def intOf : Value → Int | .int _ n => n | _ => 0

theorem ca0_blank (w : World) : Ca0 (w.alloc (.cells #[.pointer none, .pointer none, .pointer none, .pointer none] 55)) w.heap.size 0 (fun _ => 0) (fun _ => []) (fun _ _ => False) :=
  ⟨Blk.new w _ 55, fun i hi => by omega, fun i hi => by omega, fun i hi => by omega⟩

/-- One set more. -/
theorem ca0_more {w w1 w2 : World} {c n s1 : Nat} {s : Nat → Nat} {Fs : Nat → Nat → Prop} {F1 : Nat → Prop} (h : Ca0 w c n s (fun _ => []) Fs) (hn : n < 4) (hK : Keeps (fun _ => False) w w1) (hS : Sf w1 s1 2 [] F1)
    (hF : ∀ b, F1 b → w.heap.size ≤ b) (hK2 : Keeps (· = c) w1 w2) (hB : Blk w1 c (slots n s) 55 → Blk w2 c ((slots n s).set n (ptr s1)) 55) :
    Ca0 w2 c (n + 1) (fun i => if i = n then s1 else s i) (fun _ => []) (fun i b => if i = n then F1 b else Fs i b) := by
  have hcw := h.blk.lt
  have lt : ∀ i, i < n → ∀ b, Fs i b → b < w.heap.size := fun i hi b hb => (h.sf i hi).lt b hb
  have h1 := h.kept hK (fun h => h) fun i hi b hb h => h
  refine ⟨?_, ?_, ?_, ?_⟩
  · have := hB h1.blk
    rw [← slots_set s (fun i => if i = n then s1 else s i) hn fun i hi => if_neg (by omega)]
    simpa using this
  · intro i hi
    by_cases e : i = n
    · simp only [if_pos e]
      refine hS.kept hK2 fun b hb he => ?_
      have := hF b hb; omega
    · simp only [if_neg e]
      refine (h1.sf i (by omega)).kept hK2 fun b hb he => ?_
      exact h.out i (by omega) (he ▸ hb)
  · intro i hi j hj hij b hb hb2
    by_cases e : i = n
    · have e2 : j ≠ n := by omega
      simp only [if_pos e] at hb
      simp only [if_neg e2] at hb2
      have := hF b hb; have := lt j (by omega) b hb2; omega
    · simp only [if_neg e] at hb
      by_cases e2 : j = n
      · simp only [if_pos e2] at hb2
        have := hF b hb2; have := lt i (by omega) b hb; omega
      · simp only [if_neg e2] at hb2
        exact h.apart i (by omega) j (by omega) hij b hb hb2
  · intro i hi hb
    by_cases e : i = n
    · simp only [if_pos e] at hb
      have := hF c hb; omega
    · simp only [if_neg e] at hb
      exact h.out i (by omega) hb

set_option maxHeartbeats 1000000 in
theorem newC_any (w : World) : Calls Try.prog 9 #[] w fun r w' => r = .returned (ptr w.heap.size) ∧ (∃ F, Ca w' w.heap.size (fun _ => []) F ∧ ∀ b, F b → w.heap.size ≤ b) ∧ Keeps (fun _ => False) w w' := by
  obtain ⟨W, hW⟩ : ∃ W, W = w.alloc (.cells #[.pointer none, .pointer none, .pointer none, .pointer none] 55) := ⟨_, rfl⟩
  obtain ⟨c, hc⟩ : ∃ c, c = w.heap.size := ⟨_, rfl⟩
  have h0 : Ca0 W c 0 (fun _ => 0) (fun _ => []) (fun _ _ => False) := by rw [hW, hc]; exact ca0_blank w
  have hK0 : Keeps (fun _ => False) w W := by rw [hW]; exact (Keeps.refl _ w).alloc _
  have HH : Hid (W = w.alloc (.cells #[.pointer none, .pointer none, .pointer none, .pointer none] 55) ∧ c = w.heap.size ∧ Ca0 W c 0 (fun _ => 0) (fun _ => []) (fun _ _ => False) ∧ Keeps (fun _ => False) w W) := ⟨hW, hc, h0, hK0⟩
  clear hW h0 hK0
  have HC : Hid (∀ w, Calls _ _ _ _ _) := fun w => new_any 2 w (by omega) (by omega)
  rw [← hc]
  go_enter Try.func9, Try.ntmps9
  go_wp2
  rw [← HH.out.1, ← hc]
  clear hc
  go_loopw [5] (fun i wr => ∃ (j : Nat) (s : Nat → Nat) (Fs : Nat → Nat → Prop), j ≤ 4 ∧ i = .int .i64 j ∧ Ca0 wr c j s (fun _ => []) Fs ∧ (∀ i, i < j → ∀ b, Fs i b → c ≤ b) ∧ Keeps (fun _ => False) w wr) (fun i _ => 4 - (intOf i).toNat)
  case atStart => exact ⟨0, _, _, by omega, rfl, HH.out.2.2.1, fun i hi => by omega, HH.out.2.2.2⟩
  case round =>
    obtain ⟨j, s, Fs, hj, rfl, hC, hF, hK⟩ := hrel
    by_cases hlt : j < 4
    · have hj4 : (j : Int) < 4 := by omega
      have HR : Hid (Ca0 wr c j s (fun _ => []) Fs ∧ (∀ i, i < j → ∀ b, Fs i b → c ≤ b) ∧ Keeps (fun _ => False) w wr ∧ j < 4 ∧ c = w.heap.size) := ⟨hC, hF, hK, hlt, HH.out.2.1⟩
      have hS : wr.cell? ⟨c, j, none⟩ = some (.pointer none) ∧ wr.frozen? ⟨c, j, none⟩ = false := ⟨hC.blk.cell (by rw [slots_get s hlt, if_neg (by omega)]), hC.blk.frozen j⟩
      clear hC hF hK hlt HH hj
      go_wp2_with fail
      go_region_held3 (fun _ => True) (trivial)
        ((go_at_call 24; refine (HC.out _).mono ?_; rintro e w2 ⟨rfl, ⟨F1, hS1, hF1⟩, hK1⟩; have hb2 := (HR.out.1.blk.drew).kept hK1 (fun h => h); have hc2 : w2.cell? ⟨c, j, none⟩ = some (.pointer none) := hb2.cell (by rw [slots_get s HR.out.2.2.2.1, if_neg (by omega)]); have hf2 := hb2.frozen j))
      have HF : Hid (∃ s' Fs', Ca0 (w2.setCell ⟨c, j, none⟩ (ptr (wr.heap.size + 1))) c (j + 1) s' (fun _ => []) Fs' ∧ (∀ i, i < j + 1 → ∀ b, Fs' i b → c ≤ b) ∧ Keeps (fun _ => False) w (w2.setCell ⟨c, j, none⟩ (ptr (wr.heap.size + 1)))) := by
        obtain ⟨r1, r2, r3, r4, r5⟩ := HR.out
        have hK1' : Keeps (fun _ => False) wr w2 := ((Keeps.refl _ wr).drew).trans hK1 fun _ _ h => h
        refine ⟨_, _, ca0_more r1 r4 hK1' hS1 hF1 ((Keeps.refl _ w2).setCell _ _ fun _ => rfl) (fun h => h.setCell j _), ?_, (r3.trans hK1' fun _ _ h => h).setCell _ _ fun h => by simp at h; omega⟩
        intro i hi b hb
        by_cases e : i = j
        · simp only [if_pos e] at hb
          have h1 : wr.heap.size ≤ b := hF1 b hb
          have := r3.size
          omega
        · simp only [if_neg e] at hb
          exact r2 i (by omega) b hb
      clear hS hb2 hS1 hF1 hK1
      go_wp2
      go_roundw
      case rel =>
        obtain ⟨s', Fs', g1, g2, g3⟩ := HF.out
        exact ⟨j + 1, s', Fs', by have := HR.out.2.2.2.1; omega, by simp, g1, g2, g3⟩
      case measure => have := HR.out.2.2.2.1; simp [intOf]; omega
    · obtain rfl : j = 4 := by omega
      have HR : Hid ((∃ F, Ca wr c (fun _ => []) F ∧ ∀ b, F b → c ≤ b) ∧ Keeps (fun _ => False) w wr) := by
        refine ⟨⟨fun b => (b = c ∨ ∃ i, i < 4 ∧ Fs i b), ⟨s, Fs, hC, .inl rfl, fun i hi b hb => .inr ⟨i, hi, hb⟩, ?_⟩, ?_⟩, hK⟩
        · rintro b (rfl | ⟨i, hi, hb⟩)
          · exact hC.blk.lt
          · exact (hC.sf i hi).lt b hb
        · rintro b (rfl | ⟨i, hi, hb⟩)
          · omega
          · exact hF i hi b hb
      clear hC hF hK hlt hj HH
      go_wp2
      go_ret
      exact ⟨rfl, HR.out⟩

end Go.Proofs.Ytajhkilclmicjaa
