import Derived.Test.YtfbapgcopidbpaaGreatVk
import Derived.Test.YtfbapgcopidbpaaGreatEx
namespace Go.Proofs.YtfbapgcopidbpaaGreat
open Go.RowKit Go.Shelf
open Mq (SegW wvs wvs_length wvs_get run_make_words run_copy_wb segW_of_blk Mm lay)
set_option linter.unusedVariables false
set_option maxRecDepth 8000
set_option linter.unusedSimpArgs false

abbrev nameA : ByteArray := { data := #[97] }
/-- The small configuration. -/
def smC (b1 b2 b3 b4 : Nat) : Cfg :=
  ⟨16, 400, 8, 4, some ⟨b2, 0, none⟩, 1, [⟨some ⟨b1, 0, none⟩, 1, [⟨0, 300, 100⟩]⟩], some ⟨b4, 0, none⟩, 1, [⟨nameA, 0, 0, 0, 1, 1, some ⟨b3, 0, none⟩, 1, [⟨0, 1, 2, 7⟩], none, 0, []⟩], none, 0, []⟩
theorem smC_chk (b1 b2 b3 b4 : Nat) : (chk (smC b1 b2 b3 b4)).n = 0 := by kernel_rfl
theorem smC_in (b1 b2 b3 b4 : Nat) (w : World) (hb1 : Blk w b1 [.int .i64 0, .int .i64 300, .int .i64 100] 94) (hb2 : Blk w b2 [.slice (some ⟨b1, 0, none⟩) 1 1] 95) (hb3 : Blk w b3 [.int .i64 0, .int .i64 1, .int .i64 2, .int .i64 7] 97)
    (hb4 : Blk w b4 [.string nameA, .int .i64 0, .int .i64 0, .int .i64 0, .int .i64 1, .int .i64 1, .slice (some ⟨b3, 0, none⟩) 1 1, .slice none 0 0] 55) : (smC b1 b2 b3 b4).In w w.heap.size := by
  have l (b : Nat) (cs : List Value) (t : TypeId) (hB : Blk w b cs t) : ∀ y, some (⟨b, 0, none⟩ : Addr) = some y → y.block < w.heap.size := fun y hy => by cases hy; exact hB.lt
  unfold smC
  refine ⟨seg_blk eCore (xs := [⟨some ⟨b1, 0, none⟩, 1, [⟨0, 300, 100⟩]⟩]) hb2, fun _ => l _ _ _ hb2, ⟨by simp, Nat.le_of_ble_eq_true rfl⟩, ?_,
    seg_blk ePar (xs := [⟨nameA, 0, 0, 0, 1, 1, some ⟨b3, 0, none⟩, 1, [⟨0, 1, 2, 7⟩], none, 0, []⟩]) hb4, fun _ => l _ _ _ hb4, ⟨by simp, Nat.le_of_ble_eq_true rfl⟩, ?_,
    .inl rfl, fun h => absurd rfl h, ⟨by simp, Nat.le_of_ble_eq_true rfl⟩, ?_, ?_⟩
  · intro y hy
    simp only [List.mem_cons, List.not_mem_nil, or_false] at hy
    rcases hy with rfl
    refine ⟨seg_blk eWin (xs := [⟨0, 300, 100⟩]) hb1, fun _ => l _ _ _ hb1, ⟨by simp, Nat.le_of_ble_eq_true rfl⟩, fun z hz => ?_⟩
    simp only [List.mem_cons, List.not_mem_nil, or_false] at hz
    unfold Win.Fine I64
    rcases hz with rfl <;> dsimp only <;> omega
  · intro y hy
    simp only [List.mem_cons, List.not_mem_nil, or_false] at hy
    rcases hy with rfl
    refine ⟨seg_blk eRgn (xs := [⟨0, 1, 2, 7⟩]) hb3, fun _ => l _ _ _ hb3, ⟨by simp, Nat.le_of_ble_eq_true rfl⟩, fun z hz => ?_, .inl rfl, fun h => absurd rfl h, ⟨by simp, Nat.le_of_ble_eq_true rfl⟩, fun z hz => (by simp at hz), fun n hn => ?_, Nat.le_of_ble_eq_true rfl⟩
    · simp only [List.mem_cons, List.not_mem_nil, or_false] at hz
      unfold Rgn.Fine I64
      rcases hz with rfl <;> dsimp only <;> omega
    · simp only [Par.ns, List.mem_cons, List.not_mem_nil, or_false] at hn
      unfold I64
      omega
  · intro z hz
    simp at hz
  · intro n hn
    simp only [Cfg.ns, List.mem_cons, List.not_mem_nil, or_false] at hn
    unfold I64
    omega
theorem small_any (w : World) : Calls Tryz.prog 10 #[] w fun e w' => ∃ b1 b2 b3 b4, e = .returned (smC b1 b2 b3 b4).v ∧ (smC b1 b2 b3 b4).In w' w'.heap.size ∧ Keeps (fun _ => False) w w' := by
  go_enter Tryz.func10, Tryz.ntmps10
  go_wp2_with fail
  obtain ⟨W0, h0⟩ : ∃ W0, W0 = w.alloc (.cells #[.int .i64 16, .int .i64 400, .int .i64 8, .int .i64 4, .slice (some ⟨w.heap.size + 1 + 1 + 1, 0, none⟩) 1 1, .slice (some ⟨w.heap.size + 1 + 1 + 1 + 1 + 1 + 1, 0, none⟩) 1 1, .slice none 0 0] 42) := ⟨_, rfl⟩
  rw [← h0]
  obtain ⟨W1, h1⟩ : ∃ W1, W1 = W0.alloc (.cells #[.int .i64 16, .int .i64 400, .int .i64 8, .int .i64 4, .slice (some ⟨w.heap.size + 1 + 1 + 1, 0, none⟩) 1 1, .slice (some ⟨w.heap.size + 1 + 1 + 1 + 1 + 1 + 1, 0, none⟩) 1 1, .slice none 0 0] 42) := ⟨_, rfl⟩
  rw [← h1]
  obtain ⟨W2, h2⟩ : ∃ W2, W2 = W1.alloc (.cells #[.int .i64 0, .int .i64 300, .int .i64 100] 94) := ⟨_, rfl⟩
  rw [← h2]
  obtain ⟨W3, h3⟩ : ∃ W3, W3 = W2.alloc (.cells #[.slice (some ⟨w.heap.size + 1 + 1, 0, none⟩) 1 1] 95) := ⟨_, rfl⟩
  rw [← h3]
  obtain ⟨W4, h4⟩ : ∃ W4, W4 = W3.alloc (.cells #[.string nameA, .int .i64 0, .int .i64 0, .int .i64 0, .int .i64 1, .int .i64 1, .slice (some ⟨w.heap.size + 1 + 1 + 1 + 1 + 1, 0, none⟩) 1 1, .slice none 0 0] 55) := ⟨_, rfl⟩
  rw [← h4]
  obtain ⟨W5, h5⟩ : ∃ W5, W5 = W4.alloc (.cells #[.int .i64 0, .int .i64 1, .int .i64 2, .int .i64 7] 97) := ⟨_, rfl⟩
  rw [← h5]
  obtain ⟨W6, h6⟩ : ∃ W6, W6 = W5.alloc (.cells #[.string nameA, .int .i64 0, .int .i64 0, .int .i64 0, .int .i64 1, .int .i64 1, .slice (some ⟨w.heap.size + 1 + 1 + 1 + 1 + 1, 0, none⟩) 1 1, .slice none 0 0] 55) := ⟨_, rfl⟩
  rw [← h6]
  have s0 : W0.heap.size = w.heap.size + 1 := by rw [h0, World.size_alloc]
  have s1 : W1.heap.size = w.heap.size + 1 + 1 := by rw [h1, World.size_alloc, s0]
  have s2 : W2.heap.size = w.heap.size + 1 + 1 + 1 := by rw [h2, World.size_alloc, s1]
  have s3 : W3.heap.size = w.heap.size + 1 + 1 + 1 + 1 := by rw [h3, World.size_alloc, s2]
  have s4 : W4.heap.size = w.heap.size + 1 + 1 + 1 + 1 + 1 := by rw [h4, World.size_alloc, s3]
  have s5 : W5.heap.size = w.heap.size + 1 + 1 + 1 + 1 + 1 + 1 := by rw [h5, World.size_alloc, s4]
  have s6 : W6.heap.size = w.heap.size + 1 + 1 + 1 + 1 + 1 + 1 + 1 := by rw [h6, World.size_alloc, s5]
  have g0 : Blk W6 (w.heap.size) [.int .i64 16, .int .i64 400, .int .i64 8, .int .i64 4, .slice (some ⟨w.heap.size + 1 + 1 + 1, 0, none⟩) 1 1, .slice (some ⟨w.heap.size + 1 + 1 + 1 + 1 + 1 + 1, 0, none⟩) 1 1, .slice none 0 0] 42 := by
    have g := Blk.new w #[.int .i64 16, .int .i64 400, .int .i64 8, .int .i64 4, .slice (some ⟨w.heap.size + 1 + 1 + 1, 0, none⟩) 1 1, .slice (some ⟨w.heap.size + 1 + 1 + 1 + 1 + 1 + 1, 0, none⟩) 1 1, .slice none 0 0] 42
    rw [← h0] at g
    have g := g.alloc (.cells #[.int .i64 16, .int .i64 400, .int .i64 8, .int .i64 4, .slice (some ⟨w.heap.size + 1 + 1 + 1, 0, none⟩) 1 1, .slice (some ⟨w.heap.size + 1 + 1 + 1 + 1 + 1 + 1, 0, none⟩) 1 1, .slice none 0 0] 42)
    rw [← h1] at g
    have g := g.alloc (.cells #[.int .i64 0, .int .i64 300, .int .i64 100] 94)
    rw [← h2] at g
    have g := g.alloc (.cells #[.slice (some ⟨w.heap.size + 1 + 1, 0, none⟩) 1 1] 95)
    rw [← h3] at g
    have g := g.alloc (.cells #[.string nameA, .int .i64 0, .int .i64 0, .int .i64 0, .int .i64 1, .int .i64 1, .slice (some ⟨w.heap.size + 1 + 1 + 1 + 1 + 1, 0, none⟩) 1 1, .slice none 0 0] 55)
    rw [← h4] at g
    have g := g.alloc (.cells #[.int .i64 0, .int .i64 1, .int .i64 2, .int .i64 7] 97)
    rw [← h5] at g
    have g := g.alloc (.cells #[.string nameA, .int .i64 0, .int .i64 0, .int .i64 0, .int .i64 1, .int .i64 1, .slice (some ⟨w.heap.size + 1 + 1 + 1 + 1 + 1, 0, none⟩) 1 1, .slice none 0 0] 55)
    rw [← h6] at g
    exact g
  have g2 : Blk W6 (w.heap.size + 1 + 1) [.int .i64 0, .int .i64 300, .int .i64 100] 94 := by
    have g := Blk.new W1 #[.int .i64 0, .int .i64 300, .int .i64 100] 94
    rw [← h2, s1] at g
    have g := g.alloc (.cells #[.slice (some ⟨w.heap.size + 1 + 1, 0, none⟩) 1 1] 95)
    rw [← h3] at g
    have g := g.alloc (.cells #[.string nameA, .int .i64 0, .int .i64 0, .int .i64 0, .int .i64 1, .int .i64 1, .slice (some ⟨w.heap.size + 1 + 1 + 1 + 1 + 1, 0, none⟩) 1 1, .slice none 0 0] 55)
    rw [← h4] at g
    have g := g.alloc (.cells #[.int .i64 0, .int .i64 1, .int .i64 2, .int .i64 7] 97)
    rw [← h5] at g
    have g := g.alloc (.cells #[.string nameA, .int .i64 0, .int .i64 0, .int .i64 0, .int .i64 1, .int .i64 1, .slice (some ⟨w.heap.size + 1 + 1 + 1 + 1 + 1, 0, none⟩) 1 1, .slice none 0 0] 55)
    rw [← h6] at g
    exact g
  have g3 : Blk W6 (w.heap.size + 1 + 1 + 1) [.slice (some ⟨w.heap.size + 1 + 1, 0, none⟩) 1 1] 95 := by
    have g := Blk.new W2 #[.slice (some ⟨w.heap.size + 1 + 1, 0, none⟩) 1 1] 95
    rw [← h3, s2] at g
    have g := g.alloc (.cells #[.string nameA, .int .i64 0, .int .i64 0, .int .i64 0, .int .i64 1, .int .i64 1, .slice (some ⟨w.heap.size + 1 + 1 + 1 + 1 + 1, 0, none⟩) 1 1, .slice none 0 0] 55)
    rw [← h4] at g
    have g := g.alloc (.cells #[.int .i64 0, .int .i64 1, .int .i64 2, .int .i64 7] 97)
    rw [← h5] at g
    have g := g.alloc (.cells #[.string nameA, .int .i64 0, .int .i64 0, .int .i64 0, .int .i64 1, .int .i64 1, .slice (some ⟨w.heap.size + 1 + 1 + 1 + 1 + 1, 0, none⟩) 1 1, .slice none 0 0] 55)
    rw [← h6] at g
    exact g
  have g5 : Blk W6 (w.heap.size + 1 + 1 + 1 + 1 + 1) [.int .i64 0, .int .i64 1, .int .i64 2, .int .i64 7] 97 := by
    have g := Blk.new W4 #[.int .i64 0, .int .i64 1, .int .i64 2, .int .i64 7] 97
    rw [← h5, s4] at g
    have g := g.alloc (.cells #[.string nameA, .int .i64 0, .int .i64 0, .int .i64 0, .int .i64 1, .int .i64 1, .slice (some ⟨w.heap.size + 1 + 1 + 1 + 1 + 1, 0, none⟩) 1 1, .slice none 0 0] 55)
    rw [← h6] at g
    exact g
  have g6 : Blk W6 (w.heap.size + 1 + 1 + 1 + 1 + 1 + 1) [.string nameA, .int .i64 0, .int .i64 0, .int .i64 0, .int .i64 1, .int .i64 1, .slice (some ⟨w.heap.size + 1 + 1 + 1 + 1 + 1, 0, none⟩) 1 1, .slice none 0 0] 55 := by
    have g := Blk.new W5 #[.string nameA, .int .i64 0, .int .i64 0, .int .i64 0, .int .i64 1, .int .i64 1, .slice (some ⟨w.heap.size + 1 + 1 + 1 + 1 + 1, 0, none⟩) 1 1, .slice none 0 0] 55
    rw [← h6, s5] at g
    exact g
  have hK : Keeps (fun _ => False) w W6 := by
    rw [h6, h5, h4, h3, h2, h1, h0]
    exact (((((((Keeps.refl _ _).alloc _).alloc _).alloc _).alloc _).alloc _).alloc _).alloc _
  refine bodyPost_ret (results_cell_row rfl _ _ (w.heap.size) 42 _ (0, 0) _ rfl g0 Tryz.underlying42 rfl (by kernel_rfl)) rfl ?_
  exact ⟨w.heap.size + 1 + 1, w.heap.size + 1 + 1 + 1, w.heap.size + 1 + 1 + 1 + 1 + 1, w.heap.size + 1 + 1 + 1 + 1 + 1 + 1, rfl, smC_in _ _ _ _ W6 g2 g3 g5 g6, hK⟩
end Go.Proofs.YtfbapgcopidbpaaGreat
