import Derived.Test.YtfbapgcopidbpaaGreatCk
namespace Go.Proofs.YtfbapgcopidbpaaGreat
open Go.RowKit
set_option linter.unusedVariables false
set_option linter.unusedSimpArgs false
set_option maxRecDepth 8000

abbrev radio : ByteArray := { data := #[114, 97, 100, 105, 111] }
abbrev lamp : ByteArray := { data := #[108, 97, 109, 112] }
/-- The configuration of the example, with six of its numbers left open. -/
def exC (mj rm fr wp sl : Int) (src : Bool) (b1 b2 b3 b4 b5 b6 b7 b8 b9 : Nat) : Cfg :=
  ⟨64, mj, 40, rm, some ⟨b3, 0, none⟩, 2, [⟨some ⟨b1, 0, none⟩, 2, [⟨0, 300, sl⟩, ⟨1, 300, 100⟩]⟩, ⟨some ⟨b2, 0, none⟩, 1, [⟨wp, 700, 100⟩]⟩],
   some ⟨b9, 0, none⟩, 2, [⟨radio, 0, 2, 3, 0, 1, some ⟨b5, 0, none⟩, 1, [⟨0, 2, 10, 7⟩], some ⟨b6, 0, none⟩, 1, [⟨0, true⟩]⟩, ⟨lamp, 16, 0, 0, 2, 0, some ⟨b7, 0, none⟩, 1, [⟨1, 1, fr, 5⟩], some ⟨b8, 0, none⟩, 1, [⟨0, src⟩]⟩],
   some ⟨b4, 0, none⟩, 1, [⟨1, 2, 0⟩]⟩
theorem chk0 (b1 b2 b3 b4 b5 b6 b7 b8 b9 : Nat) : (chk (exC 800 8 20 (-1) 100 false b1 b2 b3 b4 b5 b6 b7 b8 b9)).n = 0 := by kernel_rfl
theorem chk1 (b1 b2 b3 b4 b5 b6 b7 b8 b9 : Nat) : (chk (exC 800 7 20 (-1) 100 false b1 b2 b3 b4 b5 b6 b7 b8 b9)).n = 423 := by kernel_rfl
theorem chk2 (b1 b2 b3 b4 b5 b6 b7 b8 b9 : Nat) : (chk (exC 801 8 20 (-1) 100 false b1 b2 b3 b4 b5 b6 b7 b8 b9)).n = 421 := by kernel_rfl
theorem chk3 (b1 b2 b3 b4 b5 b6 b7 b8 b9 : Nat) : (chk (exC 800 8 11 (-1) 100 false b1 b2 b3 b4 b5 b6 b7 b8 b9)).n = 411 := by kernel_rfl
theorem chk4 (b1 b2 b3 b4 b5 b6 b7 b8 b9 : Nat) : (chk (exC 800 8 20 (-1) 100 true b1 b2 b3 b4 b5 b6 b7 b8 b9)).n = 416 := by kernel_rfl
theorem chk5 (b1 b2 b3 b4 b5 b6 b7 b8 b9 : Nat) : (chk (exC 800 8 20 1 100 false b1 b2 b3 b4 b5 b6 b7 b8 b9)).n = 422 := by kernel_rfl
theorem chk6 (b1 b2 b3 b4 b5 b6 b7 b8 b9 : Nat) : (chk (exC 800 8 20 (-1) 81 false b1 b2 b3 b4 b5 b6 b7 b8 b9)).n = 420 := by kernel_rfl

theorem seg_blk {α : Type} (E : Elem α) {w : World} {b : Nat} {xs : List α} {t : TypeId} (h : Blk w b (xs.flatMap E.vs) t) : SegA E.vs E.k w (some ⟨b, 0, none⟩) xs :=
  .inr ⟨b, 0, rfl, fun j x hj i v hv => by rw [Nat.zero_add]; exact h.cell (flat_get E xs j x i v hj hv)⟩
theorem Bls.sub {L L' : List (Nat × List Value × TypeId)} {w : World} (h : Bls L w) (hs : ∀ b ∈ L', b ∈ L) : Bls L' w := fun b hb => h b (hs b hb)
theorem Bls.put {g : Nat} {L : List (Nat × List Value × TypeId)} {cs ds : List Value} {t : TypeId} {w w' : World} (h : Bls ((g, cs, t) :: L) w) (hK : Keeps (fun k => k = g) w w') (hB : Blk w' g ds t) (hL : ∀ b ∈ L, b.1 ≠ g) : Bls ((g, ds, t) :: L) w' := by
  intro b hb
  rcases List.mem_cons.1 hb with rfl | hb
  · exact hB
  · exact (h b (List.mem_cons_of_mem _ hb)).kept hK (hL b hb)
/-- Where the example lies. -/
def ExL (mj rm fr wp sl : Int) (src : Bool) (C b1 b2 b3 b4 b5 b6 b7 b8 b9 : Nat) : List (Nat × List Value × TypeId) := [(b9, [.string radio, .int .i64 0, .int .i64 2, .int .i64 3, .int .i64 0, .int .i64 1, .slice (some ⟨b5, 0, none⟩) 1 1, .slice (some ⟨b6, 0, none⟩) 1 1, .string lamp, .int .i64 16, .int .i64 0, .int .i64 0, .int .i64 2, .int .i64 0, .slice (some ⟨b7, 0, none⟩) 1 1, .slice (some ⟨b8, 0, none⟩) 1 1], 55), (b8, [.int .i64 0, .bool src], 116), (b7, [.int .i64 1, .int .i64 1, .int .i64 fr, .int .i64 5], 97), (b6, [.int .i64 0, .bool true], 116), (b5, [.int .i64 0, .int .i64 2, .int .i64 10, .int .i64 7], 97), (b4, [.int .i64 1, .int .i64 2, .int .i64 0], 112), (b3, [.slice (some ⟨b1, 0, none⟩) 2 2, .slice (some ⟨b2, 0, none⟩) 1 1], 95), (b2, [.int .i64 wp, .int .i64 700, .int .i64 100], 94), (b1, [.int .i64 0, .int .i64 300, .int .i64 sl, .int .i64 1, .int .i64 300, .int .i64 100], 94), (C, [.int .i64 64, .int .i64 mj, .int .i64 40, .int .i64 rm, .slice (some ⟨b3, 0, none⟩) 2 2, .slice (some ⟨b9, 0, none⟩) 2 2, .slice (some ⟨b4, 0, none⟩) 1 1], 42)]
theorem exC_in (mj rm fr wp sl : Int) (src : Bool) (C b1 b2 b3 b4 b5 b6 b7 b8 b9 : Nat) (w : World) (h : Bls (ExL mj rm fr wp sl src C b1 b2 b3 b4 b5 b6 b7 b8 b9) w) (h1 : I64 mj ∧ I64 rm ∧ I64 fr ∧ I64 wp ∧ I64 sl) :
    (exC mj rm fr wp sl src b1 b2 b3 b4 b5 b6 b7 b8 b9).In w w.heap.size := by
  have hb9 := h _ (.head _)
  have hb8 := h _ (.tail _ (.head _))
  have hb7 := h _ (.tail _ (.tail _ (.head _)))
  have hb6 := h _ (.tail _ (.tail _ (.tail _ (.head _))))
  have hb5 := h _ (.tail _ (.tail _ (.tail _ (.tail _ (.head _)))))
  have hb4 := h _ (.tail _ (.tail _ (.tail _ (.tail _ (.tail _ (.head _))))))
  have hb3 := h _ (.tail _ (.tail _ (.tail _ (.tail _ (.tail _ (.tail _ (.head _)))))))
  have hb2 := h _ (.tail _ (.tail _ (.tail _ (.tail _ (.tail _ (.tail _ (.tail _ (.head _))))))))
  have hb1 := h _ (.tail _ (.tail _ (.tail _ (.tail _ (.tail _ (.tail _ (.tail _ (.tail _ (.head _)))))))))
  dsimp only at hb1 hb2 hb3 hb4 hb5 hb6 hb7 hb8 hb9
  have l (b : Nat) (cs : List Value) (t : TypeId) (hB : Blk w b cs t) : ∀ y, some (⟨b, 0, none⟩ : Addr) = some y → y.block < w.heap.size := fun y hy => by cases hy; exact hB.lt
  unfold I64 at h1
  unfold exC
  refine ⟨seg_blk eCore (xs := [⟨some ⟨b1, 0, none⟩, 2, [⟨0, 300, sl⟩, ⟨1, 300, 100⟩]⟩, ⟨some ⟨b2, 0, none⟩, 1, [⟨wp, 700, 100⟩]⟩]) hb3, fun _ => l _ _ _ hb3, ⟨by simp, Nat.le_of_ble_eq_true rfl⟩, ?_,
    seg_blk ePar (xs := [⟨radio, 0, 2, 3, 0, 1, some ⟨b5, 0, none⟩, 1, [⟨0, 2, 10, 7⟩], some ⟨b6, 0, none⟩, 1, [⟨0, true⟩]⟩, ⟨lamp, 16, 0, 0, 2, 0, some ⟨b7, 0, none⟩, 1, [⟨1, 1, fr, 5⟩], some ⟨b8, 0, none⟩, 1, [⟨0, src⟩]⟩]) hb9, fun _ => l _ _ _ hb9, ⟨by simp, Nat.le_of_ble_eq_true rfl⟩, ?_,
    seg_blk eChn (xs := [⟨1, 2, 0⟩]) hb4, fun _ => l _ _ _ hb4, ⟨by simp, Nat.le_of_ble_eq_true rfl⟩, ?_, ?_⟩
  · intro y hy
    simp only [List.mem_cons, List.not_mem_nil, or_false] at hy
    rcases hy with rfl | rfl
    · refine ⟨seg_blk eWin (xs := [⟨0, 300, sl⟩, ⟨1, 300, 100⟩]) hb1, fun _ => l _ _ _ hb1, ⟨by simp, Nat.le_of_ble_eq_true rfl⟩, fun z hz => ?_⟩
      simp only [List.mem_cons, List.not_mem_nil, or_false] at hz
      unfold Win.Fine I64
      rcases hz with rfl | rfl <;> dsimp only <;> omega
    · refine ⟨seg_blk eWin (xs := [⟨wp, 700, 100⟩]) hb2, fun _ => l _ _ _ hb2, ⟨by simp, Nat.le_of_ble_eq_true rfl⟩, fun z hz => ?_⟩
      simp only [List.mem_cons, List.not_mem_nil, or_false] at hz
      unfold Win.Fine I64
      rcases hz with rfl <;> dsimp only <;> omega
  · intro y hy
    simp only [List.mem_cons, List.not_mem_nil, or_false] at hy
    rcases hy with rfl | rfl
    · refine ⟨seg_blk eRgn (xs := [⟨0, 2, 10, 7⟩]) hb5, fun _ => l _ _ _ hb5, ⟨by simp, Nat.le_of_ble_eq_true rfl⟩, fun z hz => ?_, seg_blk ePrt (xs := [⟨0, true⟩]) hb6, fun _ => l _ _ _ hb6, ⟨by simp, Nat.le_of_ble_eq_true rfl⟩, fun z hz => ?_, fun n hn => ?_, Nat.le_of_ble_eq_true rfl⟩
      · simp only [List.mem_cons, List.not_mem_nil, or_false] at hz
        unfold Rgn.Fine I64
        rcases hz with rfl <;> dsimp only <;> omega
      · simp only [List.mem_cons, List.not_mem_nil, or_false] at hz
        unfold Prt.Fine I64
        rcases hz with rfl <;> dsimp only <;> omega
      · simp only [Par.ns, List.mem_cons, List.not_mem_nil, or_false] at hn
        unfold I64
        omega
    · refine ⟨seg_blk eRgn (xs := [⟨1, 1, fr, 5⟩]) hb7, fun _ => l _ _ _ hb7, ⟨by simp, Nat.le_of_ble_eq_true rfl⟩, fun z hz => ?_, seg_blk ePrt (xs := [⟨0, src⟩]) hb8, fun _ => l _ _ _ hb8, ⟨by simp, Nat.le_of_ble_eq_true rfl⟩, fun z hz => ?_, fun n hn => ?_, Nat.le_of_ble_eq_true rfl⟩
      · simp only [List.mem_cons, List.not_mem_nil, or_false] at hz
        unfold Rgn.Fine I64
        rcases hz with rfl <;> dsimp only <;> omega
      · simp only [List.mem_cons, List.not_mem_nil, or_false] at hz
        unfold Prt.Fine I64
        rcases hz with rfl <;> dsimp only <;> omega
      · simp only [Par.ns, List.mem_cons, List.not_mem_nil, or_false] at hn
        unfold I64
        omega
  · intro z hz
    simp only [List.mem_cons, List.not_mem_nil, or_false] at hz
    unfold Chn.Fine I64
    rcases hz with rfl <;> dsimp only <;> omega
  · intro n hn
    simp only [Cfg.ns, List.mem_cons, List.not_mem_nil, or_false] at hn
    unfold I64
    omega
end Go.Proofs.YtfbapgcopidbpaaGreat
