import Derived.Test.YtfbapgcopidbpaaGreatGd
import Derived.Test.YtfbapgcopidbpaaGreatVk
namespace Go.Proofs.YtfbapgcopidbpaaGreat
open Go.RowKit
set_option linter.unusedVariables false
set_option linter.unusedSimpArgs false
set_option maxRecDepth 8000
theorem seg_blk {α : Type} (E : Elem α) {w : World} {b : Nat} {xs : List α} {t : TypeId} (h : Blk w b (xs.flatMap E.vs) t) : SegA E.vs E.k w (some ⟨b, 0, none⟩) xs :=
 .inr ⟨b, 0, rfl, fun j x hj i v hv => by rw [Nat.zero_add]; exact h.cell (flat_get E xs j x i v hj hv)⟩
end Go.Proofs.YtfbapgcopidbpaaGreat
namespace Go.Proofs.YtfbapgcopidbpaaGreat
open Go.RowKit Go.Shelf
open Mq (SegW wvs wvs_length wvs_get run_make_words run_copy_wb segW_of_blk Mm lay)
set_option linter.unusedVariables false
set_option maxRecDepth 8000
set_option linter.unusedSimpArgs false
abbrev nameA : ByteArray := { data := #[97] }
def smC (b1 b2 b3 b4 : Nat) : Cfg :=
 ⟨16, 400, 8, 4, some ⟨b2, 0, none⟩, 1, [⟨some ⟨b1, 0, none⟩, 1, [⟨0, 300, 100⟩]⟩], some ⟨b4, 0, none⟩, 1, [⟨nameA, 0, 0, 0, 1, 1, some ⟨b3, 0, none⟩, 1, [⟨0, 1, 2, 7⟩], none, 0, []⟩], none, 0, []⟩
theorem smC_chk (b1 b2 b3 b4 : Nat) : (chk (smC b1 b2 b3 b4)).n = 0 := by kernel_rfl
theorem smC_in (b1 b2 b3 b4 : Nat) (w : World) (hb1 : Blk w b1 [.int .i64 0, .int .i64 300, .int .i64 100] 94) (hb2 : Blk w b2 [.slice (some ⟨b1, 0, none⟩) 1 1] 95) (hb3 : Blk w b3 [.int .i64 0, .int .i64 1, .int .i64 2, .int .i64 7] 97)
  (hb4 : Blk w b4 [.string nameA, .int .i64 0, .int .i64 0, .int .i64 0, .int .i64 1, .int .i64 1, .slice (some ⟨b3, 0, none⟩) 1 1, .slice none 0 0] 55) : (smC b1 b2 b3 b4).In w w.heap.size := by
 have l (b : Nat) (cs : List Value) (t : TypeId) (hB : Blk w b cs t) : ∀ y, some (⟨b, 0, none⟩ : Addr) = some y → y.block < w.heap.size := fun y hy => by cases hy; exact hB.lt
 unfold smC
 refine ⟨seg_blk eCore (xs := [⟨some ⟨b1, 0, none⟩, 1, [⟨0, 300, 100⟩]⟩]) hb2, fun _ => l _ _ _ hb2, ⟨by simp, Nat.le_of_ble_eq_true rfl⟩, ?_,
  seg_blk ePar (xs := [⟨nameA, 0, 0, 0, 1, 1, some ⟨b3, 0, none⟩, 1, [⟨0, 1, 2, 7⟩], none, 0, []⟩]) hb4, fun _ => l _ _ _ hb4, ⟨by simp, Nat.le_of_ble_eq_true rfl⟩, ?_,
  .inl rfl, fun h => absurd rfl h, ⟨by simp, Nat.le_of_ble_eq_true rfl⟩, ?_, ?_⟩
 ·
  intro y hy
  simp only [List.mem_cons, List.not_mem_nil, or_false] at hy
  rcases hy with rfl
  refine ⟨seg_blk eWin (xs := [⟨0, 300, 100⟩]) hb1, fun _ => l _ _ _ hb1, ⟨by simp, Nat.le_of_ble_eq_true rfl⟩, fun z hz => ?_⟩
  simp only [List.mem_cons, List.not_mem_nil, or_false] at hz
  unfold Win.Fine I64
  rcases hz with rfl <;> dsimp only <;> omega
 ·
  intro y hy
  simp only [List.mem_cons, List.not_mem_nil, or_false] at hy
  rcases hy with rfl
  refine ⟨seg_blk eRgn (xs := [⟨0, 1, 2, 7⟩]) hb3, fun _ => l _ _ _ hb3, ⟨by simp, Nat.le_of_ble_eq_true rfl⟩, fun z hz => ?_, .inl rfl, fun h => absurd rfl h, ⟨by simp, Nat.le_of_ble_eq_true rfl⟩, fun z hz => (by simp at hz), fun n hn => ?_, Nat.le_of_ble_eq_true rfl⟩
  ·
   simp only [List.mem_cons, List.not_mem_nil, or_false] at hz
   unfold Rgn.Fine I64
   rcases hz with rfl <;> dsimp only <;> omega
  ·
   simp only [Par.ns, List.mem_cons, List.not_mem_nil, or_false] at hn
   unfold I64
   omega
 ·
  intro z hz
  simp at hz
 ·
  intro n hn
  simp only [Cfg.ns, List.mem_cons, List.not_mem_nil, or_false] at hn
  unfold I64
  omega
theorem small_any (w : World) : Calls Tryz.prog 10 #[] w fun e w' => ∃ b1 b2 b3 b4, e = .returned (smC b1 b2 b3 b4).v ∧ (smC b1 b2 b3 b4).In w' w'.heap.size ∧ Keeps (fun _ => False) w w' := by
 go_enter Tryz.func10, Tryz.ntmps10
 go_wp2_with fail
 obtain ⟨W0, h0⟩ : ∃ W0, W0 = w.alloc (.cells #[.int .i64 16, .int .i64 400, .int .i64 8, .int .i64 4, .slice (some ⟨w.heap.size + 1 + 1 + 1, 0, none⟩) 1 1, .slice (some ⟨w.heap.size + 1 + 1 + 1 + 1 + 1 + 1, 0, none⟩) 1 1, .slice none 0 0] 42) := ⟨_, rfl⟩
 rw [← h0]
 obtain ⟨W1, h1⟩ : ∃ W1, W1 = W0.alloc (.cells #[.int .i64 16, .int .i64 400, .int .i64 8, .int .i64 4, .slice (some ⟨w.heap.size + 1 + 1 + 1, 0, none⟩) 1 1, .slice (some ⟨w.heap.size + 1 + 1 + 1 + 1 + 1 + 1, 0, none⟩) 1 1, .slice none 0 0] 42) := ⟨_, rfl⟩
 rw [← h1]
 obtain ⟨W2, h2⟩ : ∃ W2, W2 = W1.alloc (.cells #[.int .i64 0, .int .i64 300, .int .i64 100] 94) := ⟨_, rfl⟩
 rw [← h2]
 obtain ⟨W3, h3⟩ : ∃ W3, W3 = W2.alloc (.cells #[.slice (some ⟨w.heap.size + 1 + 1, 0, none⟩) 1 1] 95) := ⟨_, rfl⟩
 rw [← h3]
 obtain ⟨W4, h4⟩ : ∃ W4, W4 = W3.alloc (.cells #[.string nameA, .int .i64 0, .int .i64 0, .int .i64 0, .int .i64 1, .int .i64 1, .slice (some ⟨w.heap.size + 1 + 1 + 1 + 1 + 1, 0, none⟩) 1 1, .slice none 0 0] 55) := ⟨_, rfl⟩
 rw [← h4]
 obtain ⟨W5, h5⟩ : ∃ W5, W5 = W4.alloc (.cells #[.int .i64 0, .int .i64 1, .int .i64 2, .int .i64 7] 97) := ⟨_, rfl⟩
 rw [← h5]
 obtain ⟨W6, h6⟩ : ∃ W6, W6 = W5.alloc (.cells #[.string nameA, .int .i64 0, .int .i64 0, .int .i64 0, .int .i64 1, .int .i64 1, .slice (some ⟨w.heap.size + 1 + 1 + 1 + 1 + 1, 0, none⟩) 1 1, .slice none 0 0] 55) := ⟨_, rfl⟩
 rw [← h6]
 have s0 : W0.heap.size = w.heap.size + 1 := by rw [h0, World.size_alloc]
 have s1 : W1.heap.size = w.heap.size + 1 + 1 := by rw [h1, World.size_alloc, s0]
 have s2 : W2.heap.size = w.heap.size + 1 + 1 + 1 := by rw [h2, World.size_alloc, s1]
 have s3 : W3.heap.size = w.heap.size + 1 + 1 + 1 + 1 := by rw [h3, World.size_alloc, s2]
 have s4 : W4.heap.size = w.heap.size + 1 + 1 + 1 + 1 + 1 := by rw [h4, World.size_alloc, s3]
 have s5 : W5.heap.size = w.heap.size + 1 + 1 + 1 + 1 + 1 + 1 := by rw [h5, World.size_alloc, s4]
 have s6 : W6.heap.size = w.heap.size + 1 + 1 + 1 + 1 + 1 + 1 + 1 := by rw [h6, World.size_alloc, s5]
 have g0 : Blk W6 (w.heap.size) [.int .i64 16, .int .i64 400, .int .i64 8, .int .i64 4, .slice (some ⟨w.heap.size + 1 + 1 + 1, 0, none⟩) 1 1, .slice (some ⟨w.heap.size + 1 + 1 + 1 + 1 + 1 + 1, 0, none⟩) 1 1, .slice none 0 0] 42 := by
  have g := Blk.new w #[.int .i64 16, .int .i64 400, .int .i64 8, .int .i64 4, .slice (some ⟨w.heap.size + 1 + 1 + 1, 0, none⟩) 1 1, .slice (some ⟨w.heap.size + 1 + 1 + 1 + 1 + 1 + 1, 0, none⟩) 1 1, .slice none 0 0] 42
  rw [← h0] at g
  have g := g.alloc (.cells #[.int .i64 16, .int .i64 400, .int .i64 8, .int .i64 4, .slice (some ⟨w.heap.size + 1 + 1 + 1, 0, none⟩) 1 1, .slice (some ⟨w.heap.size + 1 + 1 + 1 + 1 + 1 + 1, 0, none⟩) 1 1, .slice none 0 0] 42)
  rw [← h1] at g
  have g := g.alloc (.cells #[.int .i64 0, .int .i64 300, .int .i64 100] 94)
  rw [← h2] at g
  have g := g.alloc (.cells #[.slice (some ⟨w.heap.size + 1 + 1, 0, none⟩) 1 1] 95)
  rw [← h3] at g
  have g := g.alloc (.cells #[.string nameA, .int .i64 0, .int .i64 0, .int .i64 0, .int .i64 1, .int .i64 1, .slice (some ⟨w.heap.size + 1 + 1 + 1 + 1 + 1, 0, none⟩) 1 1, .slice none 0 0] 55)
  rw [← h4] at g
  have g := g.alloc (.cells #[.int .i64 0, .int .i64 1, .int .i64 2, .int .i64 7] 97)
  rw [← h5] at g
  have g := g.alloc (.cells #[.string nameA, .int .i64 0, .int .i64 0, .int .i64 0, .int .i64 1, .int .i64 1, .slice (some ⟨w.heap.size + 1 + 1 + 1 + 1 + 1, 0, none⟩) 1 1, .slice none 0 0] 55)
  rw [← h6] at g
  exact g
 have g2 : Blk W6 (w.heap.size + 1 + 1) [.int .i64 0, .int .i64 300, .int .i64 100] 94 := by
  have g := Blk.new W1 #[.int .i64 0, .int .i64 300, .int .i64 100] 94
  rw [← h2, s1] at g
  have g := g.alloc (.cells #[.slice (some ⟨w.heap.size + 1 + 1, 0, none⟩) 1 1] 95)
  rw [← h3] at g
  have g := g.alloc (.cells #[.string nameA, .int .i64 0, .int .i64 0, .int .i64 0, .int .i64 1, .int .i64 1, .slice (some ⟨w.heap.size + 1 + 1 + 1 + 1 + 1, 0, none⟩) 1 1, .slice none 0 0] 55)
  rw [← h4] at g
  have g := g.alloc (.cells #[.int .i64 0, .int .i64 1, .int .i64 2, .int .i64 7] 97)
  rw [← h5] at g
  have g := g.alloc (.cells #[.string nameA, .int .i64 0, .int .i64 0, .int .i64 0, .int .i64 1, .int .i64 1, .slice (some ⟨w.heap.size + 1 + 1 + 1 + 1 + 1, 0, none⟩) 1 1, .slice none 0 0] 55)
  rw [← h6] at g
  exact g
 have g3 : Blk W6 (w.heap.size + 1 + 1 + 1) [.slice (some ⟨w.heap.size + 1 + 1, 0, none⟩) 1 1] 95 := by
  have g := Blk.new W2 #[.slice (some ⟨w.heap.size + 1 + 1, 0, none⟩) 1 1] 95
  rw [← h3, s2] at g
  have g := g.alloc (.cells #[.string nameA, .int .i64 0, .int .i64 0, .int .i64 0, .int .i64 1, .int .i64 1, .slice (some ⟨w.heap.size + 1 + 1 + 1 + 1 + 1, 0, none⟩) 1 1, .slice none 0 0] 55)
  rw [← h4] at g
  have g := g.alloc (.cells #[.int .i64 0, .int .i64 1, .int .i64 2, .int .i64 7] 97)
  rw [← h5] at g
  have g := g.alloc (.cells #[.string nameA, .int .i64 0, .int .i64 0, .int .i64 0, .int .i64 1, .int .i64 1, .slice (some ⟨w.heap.size + 1 + 1 + 1 + 1 + 1, 0, none⟩) 1 1, .slice none 0 0] 55)
  rw [← h6] at g
  exact g
 have g5 : Blk W6 (w.heap.size + 1 + 1 + 1 + 1 + 1) [.int .i64 0, .int .i64 1, .int .i64 2, .int .i64 7] 97 := by
  have g := Blk.new W4 #[.int .i64 0, .int .i64 1, .int .i64 2, .int .i64 7] 97
  rw [← h5, s4] at g
  have g := g.alloc (.cells #[.string nameA, .int .i64 0, .int .i64 0, .int .i64 0, .int .i64 1, .int .i64 1, .slice (some ⟨w.heap.size + 1 + 1 + 1 + 1 + 1, 0, none⟩) 1 1, .slice none 0 0] 55)
  rw [← h6] at g
  exact g
 have g6 : Blk W6 (w.heap.size + 1 + 1 + 1 + 1 + 1 + 1) [.string nameA, .int .i64 0, .int .i64 0, .int .i64 0, .int .i64 1, .int .i64 1, .slice (some ⟨w.heap.size + 1 + 1 + 1 + 1 + 1, 0, none⟩) 1 1, .slice none 0 0] 55 := by
  have g := Blk.new W5 #[.string nameA, .int .i64 0, .int .i64 0, .int .i64 0, .int .i64 1, .int .i64 1, .slice (some ⟨w.heap.size + 1 + 1 + 1 + 1 + 1, 0, none⟩) 1 1, .slice none 0 0] 55
  rw [← h6, s5] at g
  exact g
 have hK : Keeps (fun _ => False) w W6 := by
  rw [h6, h5, h4, h3, h2, h1, h0]
  exact (((((((Keeps.refl _ _).alloc _).alloc _).alloc _).alloc _).alloc _).alloc _).alloc _
 refine bodyPost_ret (results_cell_row rfl _ _ (w.heap.size) 42 _ (0, 0) _ rfl g0 Tryz.underlying42 rfl (by kernel_rfl)) rfl ?_
 exact ⟨w.heap.size + 1 + 1, w.heap.size + 1 + 1 + 1, w.heap.size + 1 + 1 + 1 + 1 + 1, w.heap.size + 1 + 1 + 1 + 1 + 1 + 1, rfl, smC_in _ _ _ _ W6 g2 g3 g5 g6, hK⟩
end Go.Proofs.YtfbapgcopidbpaaGreat
namespace Go.Proofs.YtfbapgcopidbpaaGreat
open Go.RowKit Go.Shelf
open Mq (SegW wvs wvs_length wvs_get run_make_words run_copy_wb segW_of_blk Mm lay)
set_option linter.unusedVariables false
set_option maxRecDepth 8000
set_option linter.unusedSimpArgs false
theorem Cfg.In.more {x : Cfg} {w : World} {N M : Nat} (h : x.In w N) (hM : N ≤ M) : x.In w M :=
 ⟨h.cseg, fun a y hy => Nat.lt_of_lt_of_le (h.clo a y hy) hM, h.clen, fun c hc => ⟨(h.cin c hc).seg, fun a y hy => Nat.lt_of_lt_of_le ((h.cin c hc).lo a y hy) hM, (h.cin c hc).len, (h.cin c hc).fine⟩,
  h.pseg, fun a y hy => Nat.lt_of_lt_of_le (h.plo a y hy) hM, h.plen, fun p hp => ⟨(h.pin p hp).rseg, fun a y hy => Nat.lt_of_lt_of_le ((h.pin p hp).rlo a y hy) hM, (h.pin p hp).rlen, (h.pin p hp).rfine, (h.pin p hp).pseg, fun a y hy => Nat.lt_of_lt_of_le ((h.pin p hp).plo a y hy) hM, (h.pin p hp).plen, (h.pin p hp).pfine, (h.pin p hp).ns, (h.pin p hp).name⟩,
  h.hseg, fun a y hy => Nat.lt_of_lt_of_le (h.hlo a y hy) hM, h.hlen, h.hfine, h.ns⟩
theorem k3_one {R : List Tr} {a b : Int} {ws : List UInt32} (h : R.map Tr.k3 = [(a, b, ws)]) : tells R a b = ws ∧ (∀ c, c ≠ a → tells R c b = []) ∧ ∀ r ∈ R, r.ws = ws := by
 match R, h with
 | [], h => simp at h
 | r :: q :: t, h => simp at h
 | [r], h =>
  simp only [List.map_cons, List.map_nil, List.cons.injEq, and_true] at h
  unfold Tr.k3 at h
  simp only [Prod.mk.injEq] at h
  obtain ⟨h1, h2, h3⟩ := h
  refine ⟨by unfold tells; simp [h1, h2, h3], fun c hc => ?_, fun q hq => by rw [List.mem_singleton.1 hq]; exact h3⟩
  unfold tells
  have : ¬ (r.e = c) := fun e => hc (by rw [← e, h1])
  simp [this]
def AwP (w : World) (e : Ending) (w' : World) : Prop := e = .returned (.bool true) ∧ Keeps (fun _ => False) w w'
theorem sm_may (b1 b2 b3 b4 : Nat) (q : Nat) : MayF (smC b1 b2 b3 b4) [⟨0, 3, some ⟨q, 0, none⟩, 1, [77]⟩] := by
 refine ⟨fun f hf => ?_, by simp⟩
 rw [List.mem_singleton.1 hf]
 refine ⟨Int.le_refl 0, ?_, show (0 : Int) ≤ 3 by decide, show (3 : Int) < 1073741824 by decide, fun P hP => ?_⟩
 ·
  show (0 : Int) < ((1 : Nat) : Int)
  omega
 ·
  have : P = ⟨nameA, 0, 0, 0, 1, 1, some ⟨b3, 0, none⟩, 1, [⟨0, 1, 2, 7⟩], none, 0, []⟩ := by
   have h1 : (smC b1 b2 b3 b4).ps[(0 : Int).toNat]? = some ⟨nameA, 0, 0, 0, 1, 1, some ⟨b3, 0, none⟩, 1, [⟨0, 1, 2, 7⟩], none, 0, []⟩ := rfl
   have h2 : (some P : Option Par) = _ := hP.symm.trans h1
   exact Option.some.inj h2
  rw [this]
  show ((1 : Nat) : Int) ≤ 1
  omega
theorem sm_at (b1 b2 b3 b4 : Nat) : atN (smC b1 b2 b3 b4) 0 = 153 ∧ outs (smC b1 b2 b3 b4) 0 = 1 ∧ inP (smC b1 b2 b3 b4) 0 = true := ⟨rfl, rfl, rfl⟩
set_option maxHeartbeats 2000000 in
theorem awake_any (w : World) : Calls Tryz.prog 13 #[] w (AwP w) := by
 have HC0 : Hid (Calls Tryz.prog 10 #[] w fun e w' => ∃ b1 b2 b3 b4, e = .returned (smC b1 b2 b3 b4).v ∧ (smC b1 b2 b3 b4).In w' w'.heap.size ∧ Keeps (fun _ => False) w w') := small_any w
 go_enter Tryz.func13, Tryz.ntmps13
 go_wp2_with fail
 refine HC0.out.mono ?_
 rintro e w1 ⟨b1, b2, b3, b4, rfl, hin, hK1⟩
 obtain ⟨x, hx⟩ : ∃ x, x = smC b1 b2 b3 b4 := ⟨_, rfl⟩
 rw [← hx] at hin ⊢
 obtain ⟨Q, hQ⟩ : ∃ Q, Q = w1.heap.size := ⟨_, rfl⟩
 obtain ⟨fs, hfs⟩ : ∃ fs : List Fd, fs = [⟨0, 3, some ⟨Q, 0, none⟩, 1, [77]⟩] := ⟨_, rfl⟩
 obtain ⟨W1, hW1⟩ : ∃ W1, W1 = w1.alloc (.cells #[.int .u32 77] 27) := ⟨_, rfl⟩
 obtain ⟨W2, hW2⟩ : ∃ W2, W2 = W1.alloc (.cells #[.int .i64 0, .int .i64 3, .slice (some ⟨Q, 0, none⟩) 1 1] 59) := ⟨_, rfl⟩
 have hs1 : W1.heap.size = Q + 1 := by rw [hW1, World.size_alloc, hQ]
 have hK2 : Keeps (fun _ => False) w1 W2 := by rw [hW2, hW1]; exact ((Keeps.refl _ _).alloc _).alloc _
 have hbq : Blk W2 Q [.int .u32 77] 27 := by
  have := Blk.new w1 #[.int .u32 77] 27
  rw [← hW1, ← hQ] at this
  rw [hW2]
  exact this.alloc _
 have hbf : Blk W2 (Q + 1) [.int .i64 0, .int .i64 3, .slice (some ⟨Q, 0, none⟩) 1 1] 59 := by
  have := Blk.new W1 #[.int .i64 0, .int .i64 3, .slice (some ⟨Q, 0, none⟩) 1 1] 59
  rw [← hW2, hs1] at this
  exact this
 have hin2 : x.In W2 (Q + 2) := by
  have h := hin.keeps (Nat.le_refl _) hK2
  rw [← hQ] at h
  exact Cfg.In.more h (by omega)
 have hfin : FdsIn W2 (Q + 2) (some ⟨Q + 1, 0, none⟩) 1 fs := by
  rw [hfs]
  refine ⟨.inr ⟨Q + 1, 0, rfl, fun j f hj i v hv => ?_⟩, fun _ y hy => by cases hy; exact Nat.lt_succ_self _, ⟨by simp, Nat.le_of_ble_eq_true rfl⟩, fun f hf => ?_⟩
  ·
   cases j with
   | zero =>
    simp only [List.getElem?_cons_zero, Option.some.injEq] at hj
    subst hj
    rw [Nat.zero_mul, Nat.zero_add]
    exact hbf.cell hv
   | succ j => simp at hj
  ·
   rw [List.mem_singleton.1 hf]
   exact ⟨segW_of_blk (ws := [77]) hbq, fun _ y hy => (by cases hy; show Q < Q + 2; omega), ⟨by simp, Nat.le_of_ble_eq_true rfl⟩, show I64 0 by decide, show I64 3 by decide⟩
 have hsz2 : Q + 2 ≤ W2.heap.size := by rw [hW2, World.size_alloc, hs1]; omega
 have HC : Hid (Calls Tryz.prog 15 #[x.v, .slice (some ⟨Q + 1, 0, none⟩) 1 1] W2 (NewP x fs W2)) := by
  have := new_any x fs (some ⟨Q + 1, 0, none⟩) 1 W2 (Q + 2) hin2 hsz2 hfin
  rw [hfs] at this ⊢
  exact this
 have HX : Hid (x = smC b1 b2 b3 b4 ∧ fs = [⟨0, 3, some ⟨Q, 0, none⟩, 1, [77]⟩] ∧ Keeps (fun _ => False) w W2) := ⟨hx, hfs, hK1.trans hK2 fun _ _ h => h⟩
 clear hin hK1 hx hfs hs1 hK2 hbq hbf hin2 hfin hsz2 HC0
 go_wp2_with fail
 (try rw [← hQ])
 (try rw [← hW1])
 (try rw [← hW2])
 refine HC.out.mono ?_
 rintro e w3 ⟨hK3, h⟩
 have hgd : Gd x := by rw [HX.out.1]; exact chk_n.1 (smC_chk b1 b2 b3 b4)
 have hmf : MayF x fs := by rw [HX.out.1, HX.out.2.1]; exact sm_may b1 b2 b3 b4 Q
 rcases h with ⟨h, _⟩ | ⟨_, h, _⟩ | ⟨_, _, h, _⟩ | ⟨_, _, _, d, E, m, l, R, rfl, hD⟩
 ·
  rw [HX.out.2.1] at h; simp at h
 ·
  exact absurd hgd h
 ·
  exact absurd hmf h
 have HD : Hid (Dv w3 d W2.heap.size x fs E m l R ∧ Keeps (fun _ => False) W2 w3 ∧ Gd x) := ⟨hD, hK3, hgd⟩
 clear hD hK3 hgd hmf HC hW1 hW2 hQ
 have HC : Hid (Calls Tryz.prog 6 #[.int .i64 16] w3 fun e w' => e = .returned (.tuple #[.pointer (some ⟨w3.heap.size + 1, 0, none⟩), .int .i64 0]) ∧ Mm w' (w3.heap.size + 1) w3.heap.size (List.replicate 256 0) ∧ Keeps (fun _ => False) w3 w') := Mq.new_in 16 w3 (by decide) (by decide)
 go_wp2_with fail
 refine HC.out.mono ?_
 rintro e w4 ⟨rfl, hm4, hK4⟩
 obtain ⟨G, hG⟩ : ∃ G, G = w3.heap.size := ⟨_, rfl⟩
 rw [← hG] at hm4 ⊢
 have hD4 := HD.out.1.kept hK4
 have hk3 : R.map Tr.k3 = [(3, 0, [77])] := by
  have := HD.out.1.told
  rw [HX.out.2.1] at this
  exact this
 have hk := k3_one hk3
 have hne : d ≠ G ∧ E ≠ G := by
  have h1 := HD.out.1.dev.lt
  have h2 := HD.out.1.eb.lt
  omega
 have HE : Hid (Dv w4 d W2.heap.size x fs E m l R ∧ Mm w4 (G + 1) G (List.replicate 256 0) ∧ tells R 3 0 = [77] ∧ tells R 4 0 = [] ∧ (d ≠ G ∧ E ≠ G) ∧ (∀ r ∈ R, r.ws.length ≤ 1048576) ∧ Keeps (fun _ => False) w w4 ∧ w.heap.size ≤ G) := by
  refine ⟨hD4, hm4, hk.1, hk.2.1 4 (by decide), hne, fun r hr => by rw [hk.2.2 r hr]; decide, (HX.out.2.2.trans HD.out.2.1 fun _ _ h => h).trans hK4 fun _ _ h => h, ?_⟩
  have h1 := HX.out.2.2.size
  have h2 := HD.out.2.1.size
  omega
 clear HC hm4 hK4 hD4 hk3 hk hne hG
 have HC : Hid (Calls Tryz.prog 7 #[.pointer (some ⟨d, 0, none⟩), .int .i64 0, .int .i64 3, .int .u32 0] w4 (InP [77] 0 w4)) := by
  have := input_any d m W2.heap.size _ _ R 0 3 0 (by decide) (by decide) (by decide) w4 HE.out.1.dev HE.out.1.td HE.out.2.2.2.2.2.1
  rw [HE.out.2.2.1] at this
  exact this
 go_wp2_with fail
 refine HC.out.mono ?_
 rintro e w5 ⟨hK5, ⟨h, _⟩ | ⟨_, rfl⟩⟩
 ·
  simp at h
 have HK5 : Hid (Keeps (fun _ => False) w4 w5) := hK5
 clear hK5 HC
 have HC : Hid (Calls Tryz.prog 7 #[.pointer (some ⟨d, 0, none⟩), .int .i64 0, .int .i64 4, .int .u32 0] w5 (InP [] 0 w5)) := by
  have := input_any d m W2.heap.size _ _ R 0 4 0 (by decide) (by decide) (by decide) w5 (HE.out.1.kept HK5.out).dev (HE.out.1.kept HK5.out).td HE.out.2.2.2.2.2.1
  rw [HE.out.2.2.2.1] at this
  exact this
 go_wp2_with fail
 refine HC.out.mono ?_
 rintro e w6 ⟨hK6, ⟨_, rfl⟩ | ⟨h, _⟩⟩
 rotate_left
 ·
  simp at h
 have HK6 : Hid (Keeps (fun _ => False) w4 w6) := HK5.out.trans hK6 fun _ _ h => h
 clear hK6 HC
 have hfr : ((List.replicate 256 (0 : UInt32)).length : Int) = 16 * x.frames := by rw [HX.out.1]; rfl
 have HC : Hid (Calls Tryz.prog 8 #[.pointer (some ⟨d, 0, none⟩), .pointer (some ⟨G + 1, 0, none⟩), .int .i64 0] w6 (OutP x (G + 1) G (List.replicate 256 0) 0 w6)) :=
  output_any x d E (.map (some m)) l (G + 1) G _ 0 w6 (HE.out.1.kept HK6.out).dev (HE.out.1.kept HK6.out).eb HE.out.1.ears HD.out.2.2 (HE.out.2.1.kept HK6.out (fun h => h) fun h => h) hfr HE.out.2.2.2.2.1
 clear hfr
 go_wp2_with fail
 refine HC.out.mono ?_
 rintro e w7 ⟨hK7, ⟨_, rfl, hm7⟩ | ⟨h, _⟩⟩
 rotate_left
 ·
  rw [HX.out.1] at h; exact absurd h (by rw [(sm_at b1 b2 b3 b4).2.2]; decide)
 have ht7 : hrT (List.replicate 256 0) (atN x (0 : Int).toNat) (outs x (0 : Int).toNat) = 0 := by rw [HX.out.1]; kernel_rfl
 have hx7 : hrX (List.replicate 256 0) (atN x (0 : Int).toNat) (outs x (0 : Int).toNat) = lay (List.replicate 256 0) 153 [1] := by rw [HX.out.1]; kernel_rfl
 rw [hx7] at hm7
 rw [ht7]
 have HM7 : Hid (Mm w7 (G + 1) G (lay (List.replicate 256 0) 153 [1]) ∧ Keeps (· = G) w6 w7) := ⟨hm7, hK7⟩
 clear hx7 ht7 hm7 hK7 HC
 have hfr : ((lay (List.replicate 256 (0 : UInt32)) 153 [1]).length : Int) = 16 * x.frames := by rw [HX.out.1]; kernel_rfl
 have hKd : Keeps (· = G) w4 w7 := (HK6.out.mono fun _ _ h => h.elim).trans HM7.out.2 fun _ _ h => h
 have HC : Hid (Calls Tryz.prog 8 #[.pointer (some ⟨d, 0, none⟩), .pointer (some ⟨G + 1, 0, none⟩), .int .i64 0] w7 (OutP x (G + 1) G (lay (List.replicate 256 0) 153 [1]) 0 w7)) :=
  output_any x d E (.map (some m)) l (G + 1) G _ 0 w7 (HE.out.1.dev.kept hKd HE.out.2.2.2.2.1.1) (HE.out.1.eb.kept hKd HE.out.2.2.2.2.1.2) HE.out.1.ears HD.out.2.2 HM7.out.1 hfr HE.out.2.2.2.2.1
 have HKd : Hid (Keeps (· = G) w4 w7) := hKd
 clear hfr hKd
 go_wp2_with fail
 refine HC.out.mono ?_
 rintro e w8 ⟨hK8, ⟨_, rfl, hm8⟩ | ⟨h, _⟩⟩
 rotate_left
 ·
  rw [HX.out.1] at h; exact absurd h (by rw [(sm_at b1 b2 b3 b4).2.2]; decide)
 have ht8 : hrT (lay (List.replicate 256 0) 153 [1]) (atN x (0 : Int).toNat) (outs x (0 : Int).toNat) = 5 := by rw [HX.out.1]; kernel_rfl
 rw [ht8]
 have HK8 : Hid (Keeps (· = G) w7 w8) := hK8
 clear ht8 hm8 hK8 HC
 have hv : (wAt [77] 0 : Int) = 77 := rfl
 rw [hv]
 clear hv
 go_wp2
 go_ret
 refine ⟨rfl, HE.out.2.2.2.2.2.2.1.trans (HKd.out.trans HK8.out fun _ _ h => h) fun b hb e => ?_⟩
 have := HE.out.2.2.2.2.2.2.2
 rw [e] at hb
 omega
end Go.Proofs.YtfbapgcopidbpaaGreat
