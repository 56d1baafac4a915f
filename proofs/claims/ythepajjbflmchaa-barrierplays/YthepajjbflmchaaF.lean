import Derived.Test.YthepajjbflmchaaE
namespace Go.Proofs.Ythepajjbflmchaa
open Go.RowKit
set_option linter.unusedVariables false

/-- What Look answers, whatever the memory. -/
def Looks (m : Value) (p : Int) (w : World) (x y : Nat) (E : Int) : Prop :=
  ∀ W, Keeps (fun _ => False) w W → Calls Try.prog 13 #[m, .int .i64 p] W fun e w' => e = .returned (.tuple #[.agg #[.int .i64 (x : Int), .int .i64 (y : Int)], .int .i64 E]) ∧ Keeps (fun _ => False) W w'

theorem looks_in {b g : Nat} {xs : List UInt32} {p : Int} {w : World} (h : Mm w b g xs) (hf : BrOk xs p) : Looks (.pointer (some ⟨b, 0, none⟩)) p w (cm xs p).toNat (ep xs p).toNat 0 :=
  fun W k => look_in b g xs p W (h.kept k (fun e => e) (fun e => e)) hf
theorem looks_out {b g : Nat} {xs : List UInt32} {p : Int} {w : World} (h : Mm w b g xs) (hf : ¬ BrOk xs p) (hp : p ≤ 9223372036854775807) : Looks (.pointer (some ⟨b, 0, none⟩)) p w 0 0 51 :=
  fun W k => look_out b g xs p W (h.kept k (fun e => e) (fun e => e)) hf hp
theorem looks_nil {p : Int} {w : World} : Looks (.pointer none) p w 0 0 3 := fun W k => look_nil p W

/-- Behind a call of Look: all that the walk of lookFor wants. -/
structure LFW (w W0 w1 : World) (A : Nat) : Prop where
  hA : A = w.heap.size
  k : Keeps (fun _ => False) w w1
  blk : Blk w1 A [.int .i64 0, .int .i64 0] 42

theorem lfw_of {w W0 w1 : World} (h0 : W0 = w.alloc (.cells #[.int .i64 0, .int .i64 0] 42)) (k : Keeps (fun _ => False) W0 w1) : LFW w W0 w1 w.heap.size := by
  subst h0
  exact ⟨rfl, ((Keeps.refl (fun _ => False) w).alloc _).trans k (fun _ _ e => e), (Blk.new w _ 42).kept k (fun e => e)⟩

theorem lfw_end {w W0 w1 : World} {A : Nat} (h : LFW w W0 w1 A) (x y z u : Int) : ∃ W2, W2 = ((w1.setCell ⟨A, 0, none⟩ (.int .i64 x)).setCell ⟨A, 1, none⟩ (.int .i64 y)).alloc (.cells #[.int .i64 z, .int .i64 u] 42) ∧
    W2.cell? ⟨A, 0, none⟩ = some (.int .i64 x) ∧ W2.cell? ⟨A, 1, none⟩ = some (.int .i64 y) ∧ Keeps (fun _ => False) w W2 := by
  refine ⟨_, rfl, ?_, ?_, ?_⟩
  · exact (((h.blk.setCell 0 (.int .i64 x)).setCell 1 (.int .i64 y)).alloc _).cell rfl
  · exact (((h.blk.setCell 0 (.int .i64 x)).setCell 1 (.int .i64 y)).alloc _).cell rfl
  · have k1 := h.k.setCell ⟨A, 0, none⟩ (.int .i64 x) (fun e => by have := h.hA; simp at e; omega)
    have k2 := k1.setCell ⟨A, 1, none⟩ (.int .i64 y) (fun e => by have := h.hA; simp at e; omega)
    exact k2.alloc _

set_option maxHeartbeats 400000 in
theorem lookFor_good (m : Value) (p c : Int) (w : World) (x y : Nat) (h : Looks m p w x y 0) (h1 : 1 ≤ c) (h2 : c ≤ 4) :
    Calls Try.prog 26 #[m, .int .i64 p, .int .i64 c] w fun e w' => e = .returned (.tuple #[.agg #[.int .i64 (x : Int), .int .i64 (y : Int)], .int .i64 0]) ∧ Keeps (fun _ => False) w w' := by
  obtain ⟨W0, hW0⟩ : ∃ W0, W0 = w.alloc (.cells #[.int .i64 0, .int .i64 0] 42) := ⟨_, rfl⟩
  have HT : Hid (Calls _ _ _ _ _) := h W0 (by rw [hW0]; exact (Keeps.refl _ w).alloc _)
  have HW : Hid (W0 = _) := hW0
  clear hW0 h
  go_enter Try.func26, Try.ntmps26
  go_wp2_with fail
  rw [← HW.out]
  refine HT.out.mono ?_
  rintro e w1 ⟨rfl, hk⟩
  have HL : Hid (LFW _ _ _ _) := lfw_of HW.out hk
  have hB := HL.out.blk
  have c4 := hB.cell (i := 0) rfl
  have c5 := hB.cell (i := 1) rfl
  have c6 := hB.frozen 0
  have c7 := hB.frozen 1
  have hlt := HL.out.blk.lt
  obtain ⟨A, hA⟩ : ∃ A, A = w.heap.size := ⟨_, rfl⟩
  rw [← hA] at c4 c5 c6 c7 HL hlt ⊢
  clear hA hB hk HT HW
  go_wp2
  obtain ⟨W2, hW2, d0, d1, k2⟩ := lfw_end HL.out x y x y
  rw [show _ = W2 from hW2.symm]
  (try simp only [Exit.inBlock, Exit.then])
  refine bodyPost_ret (by simp [results, Try.results26, go_sem, d0, d1]; try rfl) rfl ?_
  exact ⟨rfl, k2⟩

set_option maxHeartbeats 400000 in
theorem lookFor_cores (m : Value) (p c : Int) (w : World) (x y : Nat) (h : Looks m p w x y 0) (hc : ¬ (1 ≤ c ∧ c ≤ 4)) :
    Calls Try.prog 26 #[m, .int .i64 p, .int .i64 c] w fun e w' => e = .returned (.tuple #[.agg #[.int .i64 (0 : Int), .int .i64 (0 : Int)], .int .i64 180]) ∧ Keeps (fun _ => False) w w' := by
  obtain ⟨W0, hW0⟩ : ∃ W0, W0 = w.alloc (.cells #[.int .i64 0, .int .i64 0] 42) := ⟨_, rfl⟩
  have HT : Hid (Calls _ _ _ _ _) := h W0 (by rw [hW0]; exact (Keeps.refl _ w).alloc _)
  have HW : Hid (W0 = _) := hW0
  clear hW0 h
  go_enter Try.func26, Try.ntmps26
  go_wp2_with fail
  rw [← HW.out]
  refine HT.out.mono ?_
  rintro e w1 ⟨rfl, hk⟩
  have HL : Hid (LFW _ _ _ _) := lfw_of HW.out hk
  have hB := HL.out.blk
  have c4 := hB.cell (i := 0) rfl
  have c5 := hB.cell (i := 1) rfl
  have c6 := hB.frozen 0
  have c7 := hB.frozen 1
  have hlt := HL.out.blk.lt
  obtain ⟨A, hA⟩ : ∃ A, A = w.heap.size := ⟨_, rfl⟩
  rw [← hA] at c4 c5 c6 c7 HL hlt ⊢
  clear hA hB hk HT HW
  go_wp2
  all_goals
    obtain ⟨W2, hW2, d0, d1, k2⟩ := lfw_end HL.out 0 0 x y
    rw [show _ = W2 from hW2.symm]
    (try simp only [Exit.inBlock, Exit.then])
    refine bodyPost_ret (by simp [results, Try.results26, go_sem, d0, d1]; try rfl) rfl ?_
    exact ⟨rfl, k2⟩

set_option maxHeartbeats 400000 in
theorem lookFor_no (m : Value) (p c : Int) (w : World) (E : Int) (h : Looks m p w 0 0 E) (hE : ¬ E = 0) :
    Calls Try.prog 26 #[m, .int .i64 p, .int .i64 c] w fun e w' => e = .returned (.tuple #[.agg #[.int .i64 (0 : Int), .int .i64 (0 : Int)], .int .i64 E]) ∧ Keeps (fun _ => False) w w' := by
  obtain ⟨W0, hW0⟩ : ∃ W0, W0 = w.alloc (.cells #[.int .i64 0, .int .i64 0] 42) := ⟨_, rfl⟩
  have HT : Hid (Calls _ _ _ _ _) := h W0 (by rw [hW0]; exact (Keeps.refl _ w).alloc _)
  have HW : Hid (W0 = _) := hW0
  clear hW0 h
  go_enter Try.func26, Try.ntmps26
  go_wp2_with fail
  rw [← HW.out]
  refine HT.out.mono ?_
  rintro e w1 ⟨rfl, hk⟩
  have HL : Hid (LFW _ _ _ _) := lfw_of HW.out hk
  have hB := HL.out.blk
  have c4 := hB.cell (i := 0) rfl
  have c5 := hB.cell (i := 1) rfl
  have c6 := hB.frozen 0
  have c7 := hB.frozen 1
  have hlt := HL.out.blk.lt
  obtain ⟨A, hA⟩ : ∃ A, A = w.heap.size := ⟨_, rfl⟩
  rw [← hA] at c4 c5 c6 c7 HL hlt ⊢
  clear hA hB hk HT HW
  go_wp2
  obtain ⟨W2, hW2, d0, d1, k2⟩ := lfw_end HL.out 0 0 0 0
  rw [show _ = W2 from hW2.symm]
  (try simp only [Exit.inBlock, Exit.then])
  refine bodyPost_ret (by simp [results, Try.results26, go_sem, d0, d1]; try rfl) rfl ?_
  exact ⟨rfl, k2⟩

end Go.Proofs.Ythepajjbflmchaa
