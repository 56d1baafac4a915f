import Derived.Test.YtgookbkaacidpaaGreatCk
namespace Go.Proofs.YtgookbkaacidpaaGreat
open Go.RowKit
set_option linter.unusedVariables false
set_option linter.unusedSimpArgs false
set_option maxRecDepth 8000

abbrev radio : ByteArray := { data := #[114, 97, 100, 105, 111] }
abbrev lamp : ByteArray := { data := #[108, 97, 109, 112] }
/-- The configuration of the example, with six of its numbers left open. -/
def exC (mj rm fr wp sl : Int) (src : Bool) (b1 b2 b3 b4 b5 b6 b7 b8 b9 : Nat) : Cfg :=
  ⟨64, mj, 40, rm, some ⟨b3, 0, none⟩, 2, [⟨some ⟨b1, 0, none⟩, 2, [⟨0, 300, sl⟩, ⟨1, 300, 100⟩]⟩, ⟨some ⟨b2, 0, none⟩, 1, [⟨wp, 700, 100⟩]⟩],
   some ⟨b9, 0, none⟩, 2, [⟨radio, 0, 2, 3, 0, 1, some ⟨b5, 0, none⟩, 1, [⟨0, 2, 10, 7⟩], some ⟨b6, 0, none⟩, 1, [⟨0, true⟩]⟩, ⟨lamp, 16, 0, 0, 2, 0, some ⟨b7, 0, none⟩, 1, [⟨1, 1, fr, 5⟩], some ⟨b8, 0, none⟩, 1, [⟨0, src⟩]⟩],
   some ⟨b4, 0, none⟩, 1, [⟨1, 2, 0⟩]⟩
theorem chk0 (b1 b2 b3 b4 b5 b6 b7 b8 b9 : Nat) : (chk (exC 800 8 20 (-1) 100 false b1 b2 b3 b4 b5 b6 b7 b8 b9)).n = 0 := by kernel_rfl
theorem chk1 (b1 b2 b3 b4 b5 b6 b7 b8 b9 : Nat) : (chk (exC 800 7 20 (-1) 100 false b1 b2 b3 b4 b5 b6 b7 b8 b9)).n = 423 := by kernel_rfl
theorem chk2 (b1 b2 b3 b4 b5 b6 b7 b8 b9 : Nat) : (chk (exC 801 8 20 (-1) 100 false b1 b2 b3 b4 b5 b6 b7 b8 b9)).n = 421 := by kernel_rfl
theorem chk3 (b1 b2 b3 b4 b5 b6 b7 b8 b9 : Nat) : (chk (exC 800 8 11 (-1) 100 false b1 b2 b3 b4 b5 b6 b7 b8 b9)).n = 411 := by kernel_rfl
theorem chk4 (b1 b2 b3 b4 b5 b6 b7 b8 b9 : Nat) : (chk (exC 800 8 20 (-1) 100 true b1 b2 b3 b4 b5 b6 b7 b8 b9)).n = 416 := by kernel_rfl
theorem chk5 (b1 b2 b3 b4 b5 b6 b7 b8 b9 : Nat) : (chk (exC 800 8 20 1 100 false b1 b2 b3 b4 b5 b6 b7 b8 b9)).n = 422 := by kernel_rfl
theorem chk6 (b1 b2 b3 b4 b5 b6 b7 b8 b9 : Nat) : (chk (exC 800 8 20 (-1) 81 false b1 b2 b3 b4 b5 b6 b7 b8 b9)).n = 420 := by kernel_rfl

theorem seg_blk {α : Type} (E : Elem α) {w : World} {b : Nat} {xs : List α} {t : TypeId} (h : Blk w b (xs.flatMap E.vs) t) : SegA E.vs E.k w (some ⟨b, 0, none⟩) xs :=
  .inr ⟨b, 0, rfl, fun j x hj i v hv => by rw [Nat.zero_add]; exact h.cell (flat_get E xs j x i v hj hv)⟩
theorem Bls.sub {L L' : List (Nat × List Value × TypeId)} {w : World} (h : Bls L w) (hs : ∀ b ∈ L', b ∈ L) : Bls L' w := fun b hb => h b (hs b hb)
theorem Bls.put {g : Nat} {L : List (Nat × List Value × TypeId)} {cs ds : List Value} {t : TypeId} {w w' : World} (h : Bls ((g, cs, t) :: L) w) (hK : Keeps (fun k => k = g) w w') (hB : Blk w' g ds t) (hL : ∀ b ∈ L, b.1 ≠ g) : Bls ((g, ds, t) :: L) w' := by
  intro b hb
  rcases List.mem_cons.1 hb with rfl | hb
  · exact hB
  · exact (h b (List.mem_cons_of_mem _ hb)).kept hK (hL b hb)
/-- Where the example lies. -/
def ExL (mj rm fr wp sl : Int) (src : Bool) (C b1 b2 b3 b4 b5 b6 b7 b8 b9 : Nat) : List (Nat × List Value × TypeId) := [(b9, [.string radio, .int .i64 0, .int .i64 2, .int .i64 3, .int .i64 0, .int .i64 1, .slice (some ⟨b5, 0, none⟩) 1 1, .slice (some ⟨b6, 0, none⟩) 1 1, .string lamp, .int .i64 16, .int .i64 0, .int .i64 0, .int .i64 2, .int .i64 0, .slice (some ⟨b7, 0, none⟩) 1 1, .slice (some ⟨b8, 0, none⟩) 1 1], 37), (b8, [.int .i64 0, .bool src], 51), (b7, [.int .i64 1, .int .i64 1, .int .i64 fr, .int .i64 5], 39), (b6, [.int .i64 0, .bool true], 51), (b5, [.int .i64 0, .int .i64 2, .int .i64 10, .int .i64 7], 39), (b4, [.int .i64 1, .int .i64 2, .int .i64 0], 49), (b3, [.slice (some ⟨b1, 0, none⟩) 2 2, .slice (some ⟨b2, 0, none⟩) 1 1], 43), (b2, [.int .i64 wp, .int .i64 700, .int .i64 100], 45), (b1, [.int .i64 0, .int .i64 300, .int .i64 sl, .int .i64 1, .int .i64 300, .int .i64 100], 45), (C, [.int .i64 64, .int .i64 mj, .int .i64 40, .int .i64 rm, .slice (some ⟨b3, 0, none⟩) 2 2, .slice (some ⟨b9, 0, none⟩) 2 2, .slice (some ⟨b4, 0, none⟩) 1 1], 26)]
theorem exC_in (mj rm fr wp sl : Int) (src : Bool) (C b1 b2 b3 b4 b5 b6 b7 b8 b9 : Nat) (w : World) (h : Bls (ExL mj rm fr wp sl src C b1 b2 b3 b4 b5 b6 b7 b8 b9) w) (h1 : I64 mj ∧ I64 rm ∧ I64 fr ∧ I64 wp ∧ I64 sl) :
    (exC mj rm fr wp sl src b1 b2 b3 b4 b5 b6 b7 b8 b9).In w w.heap.size := by
  have hb9 := h _ (.head _)
  have hb8 := h _ (.tail _ (.head _))
  have hb7 := h _ (.tail _ (.tail _ (.head _)))
  have hb6 := h _ (.tail _ (.tail _ (.tail _ (.head _))))
  have hb5 := h _ (.tail _ (.tail _ (.tail _ (.tail _ (.head _)))))
  have hb4 := h _ (.tail _ (.tail _ (.tail _ (.tail _ (.tail _ (.head _))))))
  have hb3 := h _ (.tail _ (.tail _ (.tail _ (.tail _ (.tail _ (.tail _ (.head _)))))))
  have hb2 := h _ (.tail _ (.tail _ (.tail _ (.tail _ (.tail _ (.tail _ (.tail _ (.head _))))))))
  have hb1 := h _ (.tail _ (.tail _ (.tail _ (.tail _ (.tail _ (.tail _ (.tail _ (.tail _ (.head _)))))))))
  dsimp only at hb1 hb2 hb3 hb4 hb5 hb6 hb7 hb8 hb9
  have l (b : Nat) (cs : List Value) (t : TypeId) (hB : Blk w b cs t) : ∀ y, some (⟨b, 0, none⟩ : Addr) = some y → y.block < w.heap.size := fun y hy => by cases hy; exact hB.lt
  unfold I64 at h1
  unfold exC
  refine ⟨seg_blk eCore (xs := [⟨some ⟨b1, 0, none⟩, 2, [⟨0, 300, sl⟩, ⟨1, 300, 100⟩]⟩, ⟨some ⟨b2, 0, none⟩, 1, [⟨wp, 700, 100⟩]⟩]) hb3, fun _ => l _ _ _ hb3, ⟨by simp, Nat.le_of_ble_eq_true rfl⟩, ?_,
    seg_blk ePar (xs := [⟨radio, 0, 2, 3, 0, 1, some ⟨b5, 0, none⟩, 1, [⟨0, 2, 10, 7⟩], some ⟨b6, 0, none⟩, 1, [⟨0, true⟩]⟩, ⟨lamp, 16, 0, 0, 2, 0, some ⟨b7, 0, none⟩, 1, [⟨1, 1, fr, 5⟩], some ⟨b8, 0, none⟩, 1, [⟨0, src⟩]⟩]) hb9, fun _ => l _ _ _ hb9, ⟨by simp, Nat.le_of_ble_eq_true rfl⟩, ?_,
    seg_blk eChn (xs := [⟨1, 2, 0⟩]) hb4, fun _ => l _ _ _ hb4, ⟨by simp, Nat.le_of_ble_eq_true rfl⟩, ?_, ?_⟩
  · intro y hy
    simp only [List.mem_cons, List.not_mem_nil, or_false] at hy
    rcases hy with rfl | rfl
    · refine ⟨seg_blk eWin (xs := [⟨0, 300, sl⟩, ⟨1, 300, 100⟩]) hb1, fun _ => l _ _ _ hb1, ⟨by simp, Nat.le_of_ble_eq_true rfl⟩, fun z hz => ?_⟩
      simp only [List.mem_cons, List.not_mem_nil, or_false] at hz
      unfold Win.Fine I64
      rcases hz with rfl | rfl <;> dsimp only <;> omega
    · refine ⟨seg_blk eWin (xs := [⟨wp, 700, 100⟩]) hb2, fun _ => l _ _ _ hb2, ⟨by simp, Nat.le_of_ble_eq_true rfl⟩, fun z hz => ?_⟩
      simp only [List.mem_cons, List.not_mem_nil, or_false] at hz
      unfold Win.Fine I64
      rcases hz with rfl <;> dsimp only <;> omega
  · intro y hy
    simp only [List.mem_cons, List.not_mem_nil, or_false] at hy
    rcases hy with rfl | rfl
    · refine ⟨seg_blk eRgn (xs := [⟨0, 2, 10, 7⟩]) hb5, fun _ => l _ _ _ hb5, ⟨by simp, Nat.le_of_ble_eq_true rfl⟩, fun z hz => ?_, seg_blk ePrt (xs := [⟨0, true⟩]) hb6, fun _ => l _ _ _ hb6, ⟨by simp, Nat.le_of_ble_eq_true rfl⟩, fun z hz => ?_, fun n hn => ?_, Nat.le_of_ble_eq_true rfl⟩
      · simp only [List.mem_cons, List.not_mem_nil, or_false] at hz
        unfold Rgn.Fine I64
        rcases hz with rfl <;> dsimp only <;> omega
      · simp only [List.mem_cons, List.not_mem_nil, or_false] at hz
        unfold Prt.Fine I64
        rcases hz with rfl <;> dsimp only <;> omega
      · simp only [Par.ns, List.mem_cons, List.not_mem_nil, or_false] at hn
        unfold I64
        omega
    · refine ⟨seg_blk eRgn (xs := [⟨1, 1, fr, 5⟩]) hb7, fun _ => l _ _ _ hb7, ⟨by simp, Nat.le_of_ble_eq_true rfl⟩, fun z hz => ?_, seg_blk ePrt (xs := [⟨0, src⟩]) hb8, fun _ => l _ _ _ hb8, ⟨by simp, Nat.le_of_ble_eq_true rfl⟩, fun z hz => ?_, fun n hn => ?_, Nat.le_of_ble_eq_true rfl⟩
      · simp only [List.mem_cons, List.not_mem_nil, or_false] at hz
        unfold Rgn.Fine I64
        rcases hz with rfl <;> dsimp only <;> omega
      · simp only [List.mem_cons, List.not_mem_nil, or_false] at hz
        unfold Prt.Fine I64
        rcases hz with rfl <;> dsimp only <;> omega
      · simp only [Par.ns, List.mem_cons, List.not_mem_nil, or_false] at hn
        unfold I64
        omega
  · intro z hz
    simp only [List.mem_cons, List.not_mem_nil, or_false] at hz
    unfold Chn.Fine I64
    rcases hz with rfl <;> dsimp only <;> omega
  · intro n hn
    simp only [Cfg.ns, List.mem_cons, List.not_mem_nil, or_false] at hn
    unfold I64
    omega
end Go.Proofs.YtgookbkaacidpaaGreat
namespace Go.Proofs.YtgookbkaacidpaaGreat
open Go.RowKit
set_option linter.unusedVariables false
set_option linter.unusedSimpArgs false
set_option maxRecDepth 8000

def ExP (n : Int) (w : World) (e : Ending) (w' : World) : Prop := (∃ a b : Int, e = .returned (.tuple #[.int .i64 n, .agg #[.int .i64 a, .int .i64 b]])) ∧ Keeps (fun _ => False) w w'
theorem check_ex (mj rm fr wp sl : Int) (src : Bool) (C b1 b2 b3 b4 b5 b6 b7 b8 b9 : Nat) (n : Int) (w : World) (h : Bls (ExL mj rm fr wp sl src C b1 b2 b3 b4 b5 b6 b7 b8 b9) w) (h1 : I64 mj ∧ I64 rm ∧ I64 fr ∧ I64 wp ∧ I64 sl) (hn : (chk (exC mj rm fr wp sl src b1 b2 b3 b4 b5 b6 b7 b8 b9)).n = n) :
    Calls Tryz.prog 6 #[.agg #[.int .i64 64, .int .i64 mj, .int .i64 40, .int .i64 rm, .slice (some ⟨b3, 0, none⟩) 2 2, .slice (some ⟨b9, 0, none⟩) 2 2, .slice (some ⟨b4, 0, none⟩) 1 1]] w (ExP n w) := by
  have h2 : Calls Tryz.prog 6 #[.agg #[.int .i64 64, .int .i64 mj, .int .i64 40, .int .i64 rm, .slice (some ⟨b3, 0, none⟩) 2 2, .slice (some ⟨b9, 0, none⟩) 2 2, .slice (some ⟨b4, 0, none⟩) 1 1]] w (ChkP (exC mj rm fr wp sl src b1 b2 b3 b4 b5 b6 b7 b8 b9) w) := Check_any (exC mj rm fr wp sl src b1 b2 b3 b4 b5 b6 b7 b8 b9) w w.heap.size (exC_in mj rm fr wp sl src C b1 b2 b3 b4 b5 b6 b7 b8 b9 w h h1) (Nat.le_refl _)
  refine h2.mono ?_
  rintro e w' ⟨rfl, hK⟩
  rw [hn]
  exact ⟨⟨_, _, rfl⟩, hK⟩
/-- The example, built in new blocks. -/
theorem built (w : World) : ∃ (C b1 b2 b3 b4 b5 b6 b7 b8 b9 : Nat) (W : World), C = w.heap.size ∧ b1 = w.heap.size + 1 ∧ b2 = w.heap.size + 1 + 1 ∧ b3 = w.heap.size + 1 + 1 + 1 ∧ b4 = w.heap.size + 1 + 1 + 1 + 1 ∧ b5 = w.heap.size + 1 + 1 + 1 + 1 + 1 ∧ b6 = w.heap.size + 1 + 1 + 1 + 1 + 1 + 1 ∧ b7 = w.heap.size + 1 + 1 + 1 + 1 + 1 + 1 + 1 ∧ b8 = w.heap.size + 1 + 1 + 1 + 1 + 1 + 1 + 1 + 1 ∧ b9 = w.heap.size + 1 + 1 + 1 + 1 + 1 + 1 + 1 + 1 + 1 ∧ W = ((((((((((w.alloc (.cells #[.int .i64 64, .int .i64 800, .int .i64 40, .int .i64 8, .slice (some ⟨w.heap.size + 1 + 1 + 1, 0, none⟩) 2 2, .slice (some ⟨w.heap.size + 1 + 1 + 1 + 1 + 1 + 1 + 1 + 1 + 1, 0, none⟩) 2 2, .slice (some ⟨w.heap.size + 1 + 1 + 1 + 1, 0, none⟩) 1 1] 26)).alloc (.cells #[.int .i64 0, .int .i64 300, .int .i64 100, .int .i64 1, .int .i64 300, .int .i64 100] 45)).alloc (.cells #[.int .i64 (-1), .int .i64 700, .int .i64 100] 45)).alloc (.cells #[.slice (some ⟨w.heap.size + 1, 0, none⟩) 2 2, .slice (some ⟨w.heap.size + 1 + 1, 0, none⟩) 1 1] 43)).alloc (.cells #[.int .i64 1, .int .i64 2, .int .i64 0] 49)).alloc (.cells #[.int .i64 0, .int .i64 2, .int .i64 10, .int .i64 7] 39)).alloc (.cells #[.int .i64 0, .bool true] 51)).alloc (.cells #[.int .i64 1, .int .i64 1, .int .i64 20, .int .i64 5] 39)).alloc (.cells #[.int .i64 0, .bool false] 51)).alloc (.cells #[.string { data := #[114, 97, 100, 105, 111] }, .int .i64 0, .int .i64 2, .int .i64 3, .int .i64 0, .int .i64 1, .slice (some ⟨w.heap.size + 1 + 1 + 1 + 1 + 1, 0, none⟩) 1 1, .slice (some ⟨w.heap.size + 1 + 1 + 1 + 1 + 1 + 1, 0, none⟩) 1 1, .string { data := #[108, 97, 109, 112] }, .int .i64 16, .int .i64 0, .int .i64 0, .int .i64 2, .int .i64 0, .slice (some ⟨w.heap.size + 1 + 1 + 1 + 1 + 1 + 1 + 1, 0, none⟩) 1 1, .slice (some ⟨w.heap.size + 1 + 1 + 1 + 1 + 1 + 1 + 1 + 1, 0, none⟩) 1 1] 37)) ∧ Bls (ExL 800 8 20 (-1) 100 false C b1 b2 b3 b4 b5 b6 b7 b8 b9) W ∧ Keeps (fun _ => False) w W := by
  refine ⟨_, _, _, _, _, _, _, _, _, _, _, rfl, rfl, rfl, rfl, rfl, rfl, rfl, rfl, rfl, rfl, rfl, ?_, ?_⟩
  · have h0 : Bls [] w := fun b hb => by cases hb
    have h1 := (BI.box h0 [.int .i64 64, .int .i64 800, .int .i64 40, .int .i64 8, .slice (some ⟨w.heap.size + 1 + 1 + 1, 0, none⟩) 2 2, .slice (some ⟨w.heap.size + 1 + 1 + 1 + 1 + 1 + 1 + 1 + 1 + 1, 0, none⟩) 2 2, .slice (some ⟨w.heap.size + 1 + 1 + 1 + 1, 0, none⟩) 1 1] 26).1
    have h2 := (BI.box h1 [.int .i64 0, .int .i64 300, .int .i64 100, .int .i64 1, .int .i64 300, .int .i64 100] 45).1
    simp only [World.size_alloc] at h2
    have h3 := (BI.box h2 [.int .i64 (-1), .int .i64 700, .int .i64 100] 45).1
    simp only [World.size_alloc] at h3
    have h4 := (BI.box h3 [.slice (some ⟨w.heap.size + 1, 0, none⟩) 2 2, .slice (some ⟨w.heap.size + 1 + 1, 0, none⟩) 1 1] 43).1
    simp only [World.size_alloc] at h4
    have h5 := (BI.box h4 [.int .i64 1, .int .i64 2, .int .i64 0] 49).1
    simp only [World.size_alloc] at h5
    have h6 := (BI.box h5 [.int .i64 0, .int .i64 2, .int .i64 10, .int .i64 7] 39).1
    simp only [World.size_alloc] at h6
    have h7 := (BI.box h6 [.int .i64 0, .bool true] 51).1
    simp only [World.size_alloc] at h7
    have h8 := (BI.box h7 [.int .i64 1, .int .i64 1, .int .i64 20, .int .i64 5] 39).1
    simp only [World.size_alloc] at h8
    have h9 := (BI.box h8 [.int .i64 0, .bool false] 51).1
    simp only [World.size_alloc] at h9
    have h10 := (BI.box h9 [.string { data := #[114, 97, 100, 105, 111] }, .int .i64 0, .int .i64 2, .int .i64 3, .int .i64 0, .int .i64 1, .slice (some ⟨w.heap.size + 1 + 1 + 1 + 1 + 1, 0, none⟩) 1 1, .slice (some ⟨w.heap.size + 1 + 1 + 1 + 1 + 1 + 1, 0, none⟩) 1 1, .string { data := #[108, 97, 109, 112] }, .int .i64 16, .int .i64 0, .int .i64 0, .int .i64 2, .int .i64 0, .slice (some ⟨w.heap.size + 1 + 1 + 1 + 1 + 1 + 1 + 1, 0, none⟩) 1 1, .slice (some ⟨w.heap.size + 1 + 1 + 1 + 1 + 1 + 1 + 1 + 1, 0, none⟩) 1 1] 37).1
    simp only [World.size_alloc] at h10
    exact h10
  · exact (((((((((((Keeps.refl _ _).alloc _).alloc _).alloc _).alloc _).alloc _).alloc _).alloc _).alloc _).alloc _).alloc _)

set_option maxHeartbeats 8000000 in
theorem admitOne_any (which : Int) (w : World) : Calls Tryz.prog 5 #[.int .i64 which] w fun e w' => e = .returned (.bool true) ∧ Keeps (fun _ => False) w w' := by
  obtain ⟨C, b1, b2, b3, b4, b5, b6, b7, b8, b9, W, hC, e1, e2, e3, e4, e5, e6, e7, e8, e9, hW, hL, hK⟩ := built w
  have HL : Hid (Bls (ExL 800 8 20 (-1) 100 false C b1 b2 b3 b4 b5 b6 b7 b8 b9) W ∧ Keeps (fun _ => False) w W ∧ w.heap.size ≤ C ∧ C < b1 ∧ b1 < b2 ∧ b2 < b3 ∧ b3 < b4 ∧ b4 < b5 ∧ b5 < b6 ∧ b6 < b7 ∧ b7 < b8 ∧ b8 < b9) := ⟨hL, hK, by omega, by omega, by omega, by omega, by omega, by omega, by omega, by omega, by omega, by omega⟩
  have HC : Hid (Calls Tryz.prog 6 #[.agg #[.int .i64 64, .int .i64 800, .int .i64 40, .int .i64 8, .slice (some ⟨b3, 0, none⟩) 2 2, .slice (some ⟨b9, 0, none⟩) 2 2, .slice (some ⟨b4, 0, none⟩) 1 1]] W (ExP 0 W)) := check_ex 800 8 20 (-1) 100 false C b1 b2 b3 b4 b5 b6 b7 b8 b9 0 W hL (by unfold I64; omega) (chk0 b1 b2 b3 b4 b5 b6 b7 b8 b9)
  have c0 := (hL _ (.tail _ (.tail _ (.tail _ (.tail _ (.tail _ (.tail _ (.tail _ (.tail _ (.tail _ (.head _))))))))))).cell (i := 0) rfl
  have c1 := (hL _ (.tail _ (.tail _ (.tail _ (.tail _ (.tail _ (.tail _ (.tail _ (.tail _ (.tail _ (.head _))))))))))).cell (i := 1) rfl
  have c2 := (hL _ (.tail _ (.tail _ (.tail _ (.tail _ (.tail _ (.tail _ (.tail _ (.tail _ (.tail _ (.head _))))))))))).cell (i := 2) rfl
  have c3 := (hL _ (.tail _ (.tail _ (.tail _ (.tail _ (.tail _ (.tail _ (.tail _ (.tail _ (.tail _ (.head _))))))))))).cell (i := 3) rfl
  have c4 := (hL _ (.tail _ (.tail _ (.tail _ (.tail _ (.tail _ (.tail _ (.tail _ (.tail _ (.tail _ (.head _))))))))))).cell (i := 4) rfl
  have c5 := (hL _ (.tail _ (.tail _ (.tail _ (.tail _ (.tail _ (.tail _ (.tail _ (.tail _ (.tail _ (.head _))))))))))).cell (i := 5) rfl
  have c6 := (hL _ (.tail _ (.tail _ (.tail _ (.tail _ (.tail _ (.tail _ (.tail _ (.tail _ (.tail _ (.head _))))))))))).cell (i := 6) rfl
  dsimp only at c0 c1 c2 c3 c4 c5 c6
  clear hL hK
  go_enter Tryz.func5, Tryz.ntmps5
  go_upto_region 5 with fail
  rw [← hW, ← e9, ← e8, ← e7, ← e6, ← e5, ← e4, ← e3, ← e2, ← e1, ← hC]
  clear hW hC e1 e2 e3 e4 e5 e6 e7 e8 e9
  go_wp2_with fail
  refine HC.out.mono ?_
  rintro e w1 ⟨⟨a, b, rfl⟩, hK⟩
  obtain ⟨W2, hW2⟩ : ∃ W2, W2 = w1.alloc (.cells #[.int .i64 a, .int .i64 b] 29) := ⟨_, rfl⟩
  obtain ⟨D, hD⟩ : ∃ D, D = w1.heap.size := ⟨_, rfl⟩
  have HL2 : Hid (Bls (ExL 800 8 20 (-1) 100 false C b1 b2 b3 b4 b5 b6 b7 b8 b9) W2 ∧ Keeps (fun _ => False) w W2) := by
    rw [hW2]
    exact ⟨(HL.out.1.kept hK).kept ((Keeps.refl _ _).alloc _), (HL.out.2.1.trans hK fun _ _ h => h).trans ((Keeps.refl (fun _ => False) _).alloc _) fun _ _ h => h⟩
  clear hK HC c0 c1 c2 c3 c4 c5 c6
  go_upto_region 6 with fail
  rw [← hW2, ← hD]
  clear hW2 hD
  by_cases hk1 : which = 1
  · subst hk1
    have z0 := (HL2.out.1 _ (.tail _ (.tail _ (.tail _ (.tail _ (.tail _ (.tail _ (.tail _ (.tail _ (.tail _ (.head _))))))))))).cell (i := 3) rfl
    have z1 := (HL2.out.1 _ (.tail _ (.tail _ (.tail _ (.tail _ (.tail _ (.tail _ (.tail _ (.tail _ (.tail _ (.head _))))))))))).frozen 3
    dsimp only at z0 z1
    obtain ⟨W3, hW3⟩ : ∃ W3, W3 = W2.setCell ⟨C, 3, none⟩ (.int .i64 7) := ⟨_, rfl⟩
    have HL3 : Hid (Bls (ExL 800 7 20 (-1) 100 false C b1 b2 b3 b4 b5 b6 b7 b8 b9) W3 ∧ Keeps (fun _ => False) w W3) := by
      have ho := HL.out.2.2
      have k3 : Keeps (fun k => k = C) W2 W3 := by rw [hW3]; exact (Keeps.refl _ _).setCell ⟨C, 3, none⟩ _ fun _ => rfl
      have hb : Blk W3 C [.int .i64 64, .int .i64 800, .int .i64 40, .int .i64 7, .slice (some ⟨b3, 0, none⟩) 2 2, .slice (some ⟨b9, 0, none⟩) 2 2, .slice (some ⟨b4, 0, none⟩) 1 1] 26 := by rw [hW3]; exact (HL2.out.1 _ (.tail _ (.tail _ (.tail _ (.tail _ (.tail _ (.tail _ (.tail _ (.tail _ (.tail _ (.head _))))))))))).setCell 3 _
      have h1 : Bls ((C, [.int .i64 64, .int .i64 800, .int .i64 40, .int .i64 8, .slice (some ⟨b3, 0, none⟩) 2 2, .slice (some ⟨b9, 0, none⟩) 2 2, .slice (some ⟨b4, 0, none⟩) 1 1], 26) :: [(b9, [.string radio, .int .i64 0, .int .i64 2, .int .i64 3, .int .i64 0, .int .i64 1, .slice (some ⟨b5, 0, none⟩) 1 1, .slice (some ⟨b6, 0, none⟩) 1 1, .string lamp, .int .i64 16, .int .i64 0, .int .i64 0, .int .i64 2, .int .i64 0, .slice (some ⟨b7, 0, none⟩) 1 1, .slice (some ⟨b8, 0, none⟩) 1 1], 37), (b8, [.int .i64 0, .bool false], 51), (b7, [.int .i64 1, .int .i64 1, .int .i64 20, .int .i64 5], 39), (b6, [.int .i64 0, .bool true], 51), (b5, [.int .i64 0, .int .i64 2, .int .i64 10, .int .i64 7], 39), (b4, [.int .i64 1, .int .i64 2, .int .i64 0], 49), (b3, [.slice (some ⟨b1, 0, none⟩) 2 2, .slice (some ⟨b2, 0, none⟩) 1 1], 43), (b2, [.int .i64 (-1), .int .i64 700, .int .i64 100], 45), (b1, [.int .i64 0, .int .i64 300, .int .i64 100, .int .i64 1, .int .i64 300, .int .i64 100], 45)]) W2 := HL2.out.1.sub fun b hb => by
        unfold ExL
        simp only [List.mem_cons, List.not_mem_nil, or_false] at hb ⊢
        rcases hb with h | h | h | h | h | h | h | h | h | h <;> simp [h]
      have h2 := h1.put k3 hb (fun b hb => by
        simp only [List.mem_cons, List.not_mem_nil, or_false] at hb
        rcases hb with rfl | rfl | rfl | rfl | rfl | rfl | rfl | rfl | rfl <;> dsimp only <;> omega)
      refine ⟨h2.sub fun b hb => ?_, HL2.out.2.trans k3 fun k hk e => by omega⟩
      unfold ExL at hb
      simp only [List.mem_cons, List.not_mem_nil, or_false] at hb ⊢
      rcases hb with h | h | h | h | h | h | h | h | h | h <;> simp [h]
    go_upto_region 28 with fail
    rw [← hW3]
    clear hW3 z0 z1 
    have HC : Hid (Calls Tryz.prog 6 #[.agg #[.int .i64 64, .int .i64 800, .int .i64 40, .int .i64 7, .slice (some ⟨b3, 0, none⟩) 2 2, .slice (some ⟨b9, 0, none⟩) 2 2, .slice (some ⟨b4, 0, none⟩) 1 1]] W3 (ExP 423 W3)) := check_ex 800 7 20 (-1) 100 false C b1 b2 b3 b4 b5 b6 b7 b8 b9 423 W3 HL3.out.1 (by unfold I64; omega) (chk1 b1 b2 b3 b4 b5 b6 b7 b8 b9)
    have c0 := (HL3.out.1 _ (.tail _ (.tail _ (.tail _ (.tail _ (.tail _ (.tail _ (.tail _ (.tail _ (.tail _ (.head _))))))))))).cell (i := 0) rfl
    have c1 := (HL3.out.1 _ (.tail _ (.tail _ (.tail _ (.tail _ (.tail _ (.tail _ (.tail _ (.tail _ (.tail _ (.head _))))))))))).cell (i := 1) rfl
    have c2 := (HL3.out.1 _ (.tail _ (.tail _ (.tail _ (.tail _ (.tail _ (.tail _ (.tail _ (.tail _ (.tail _ (.head _))))))))))).cell (i := 2) rfl
    have c3 := (HL3.out.1 _ (.tail _ (.tail _ (.tail _ (.tail _ (.tail _ (.tail _ (.tail _ (.tail _ (.tail _ (.head _))))))))))).cell (i := 3) rfl
    have c4 := (HL3.out.1 _ (.tail _ (.tail _ (.tail _ (.tail _ (.tail _ (.tail _ (.tail _ (.tail _ (.tail _ (.head _))))))))))).cell (i := 4) rfl
    have c5 := (HL3.out.1 _ (.tail _ (.tail _ (.tail _ (.tail _ (.tail _ (.tail _ (.tail _ (.tail _ (.tail _ (.head _))))))))))).cell (i := 5) rfl
    have c6 := (HL3.out.1 _ (.tail _ (.tail _ (.tail _ (.tail _ (.tail _ (.tail _ (.tail _ (.tail _ (.tail _ (.head _))))))))))).cell (i := 6) rfl
    dsimp only at c0 c1 c2 c3 c4 c5 c6
    go_wp2_with fail
    refine HC.out.mono ?_
    rintro e w4 ⟨⟨a', b', rfl⟩, hK⟩
    have HK4 : Hid (Keeps (fun _ => False) w w4) := HL3.out.2.trans hK fun _ _ h => h
    clear hK HC c0 c1 c2 c3 c4 c5 c6
    go_wp2
    go_ret
    exact ⟨rfl, HK4.out.trans ((Keeps.refl (fun _ => False) _).alloc _) fun _ _ h => h⟩
  · skip
    by_cases hk2 : which = 2
    · subst hk2
      have z0 := (HL2.out.1 _ (.tail _ (.tail _ (.tail _ (.tail _ (.tail _ (.tail _ (.tail _ (.tail _ (.tail _ (.head _))))))))))).cell (i := 1) rfl
      have z1 := (HL2.out.1 _ (.tail _ (.tail _ (.tail _ (.tail _ (.tail _ (.tail _ (.tail _ (.tail _ (.tail _ (.head _))))))))))).frozen 1
      dsimp only at z0 z1
      obtain ⟨W3, hW3⟩ : ∃ W3, W3 = W2.setCell ⟨C, 1, none⟩ (.int .i64 801) := ⟨_, rfl⟩
      have HL3 : Hid (Bls (ExL 801 8 20 (-1) 100 false C b1 b2 b3 b4 b5 b6 b7 b8 b9) W3 ∧ Keeps (fun _ => False) w W3) := by
        have ho := HL.out.2.2
        have k3 : Keeps (fun k => k = C) W2 W3 := by rw [hW3]; exact (Keeps.refl _ _).setCell ⟨C, 1, none⟩ _ fun _ => rfl
        have hb : Blk W3 C [.int .i64 64, .int .i64 801, .int .i64 40, .int .i64 8, .slice (some ⟨b3, 0, none⟩) 2 2, .slice (some ⟨b9, 0, none⟩) 2 2, .slice (some ⟨b4, 0, none⟩) 1 1] 26 := by rw [hW3]; exact (HL2.out.1 _ (.tail _ (.tail _ (.tail _ (.tail _ (.tail _ (.tail _ (.tail _ (.tail _ (.tail _ (.head _))))))))))).setCell 1 _
        have h1 : Bls ((C, [.int .i64 64, .int .i64 800, .int .i64 40, .int .i64 8, .slice (some ⟨b3, 0, none⟩) 2 2, .slice (some ⟨b9, 0, none⟩) 2 2, .slice (some ⟨b4, 0, none⟩) 1 1], 26) :: [(b9, [.string radio, .int .i64 0, .int .i64 2, .int .i64 3, .int .i64 0, .int .i64 1, .slice (some ⟨b5, 0, none⟩) 1 1, .slice (some ⟨b6, 0, none⟩) 1 1, .string lamp, .int .i64 16, .int .i64 0, .int .i64 0, .int .i64 2, .int .i64 0, .slice (some ⟨b7, 0, none⟩) 1 1, .slice (some ⟨b8, 0, none⟩) 1 1], 37), (b8, [.int .i64 0, .bool false], 51), (b7, [.int .i64 1, .int .i64 1, .int .i64 20, .int .i64 5], 39), (b6, [.int .i64 0, .bool true], 51), (b5, [.int .i64 0, .int .i64 2, .int .i64 10, .int .i64 7], 39), (b4, [.int .i64 1, .int .i64 2, .int .i64 0], 49), (b3, [.slice (some ⟨b1, 0, none⟩) 2 2, .slice (some ⟨b2, 0, none⟩) 1 1], 43), (b2, [.int .i64 (-1), .int .i64 700, .int .i64 100], 45), (b1, [.int .i64 0, .int .i64 300, .int .i64 100, .int .i64 1, .int .i64 300, .int .i64 100], 45)]) W2 := HL2.out.1.sub fun b hb => by
          unfold ExL
          simp only [List.mem_cons, List.not_mem_nil, or_false] at hb ⊢
          rcases hb with h | h | h | h | h | h | h | h | h | h <;> simp [h]
        have h2 := h1.put k3 hb (fun b hb => by
          simp only [List.mem_cons, List.not_mem_nil, or_false] at hb
          rcases hb with rfl | rfl | rfl | rfl | rfl | rfl | rfl | rfl | rfl <;> dsimp only <;> omega)
        refine ⟨h2.sub fun b hb => ?_, HL2.out.2.trans k3 fun k hk e => by omega⟩
        unfold ExL at hb
        simp only [List.mem_cons, List.not_mem_nil, or_false] at hb ⊢
        rcases hb with h | h | h | h | h | h | h | h | h | h <;> simp [h]
      go_upto_region 28 with fail
      rw [← hW3]
      clear hW3 z0 z1 
      have HC : Hid (Calls Tryz.prog 6 #[.agg #[.int .i64 64, .int .i64 801, .int .i64 40, .int .i64 8, .slice (some ⟨b3, 0, none⟩) 2 2, .slice (some ⟨b9, 0, none⟩) 2 2, .slice (some ⟨b4, 0, none⟩) 1 1]] W3 (ExP 421 W3)) := check_ex 801 8 20 (-1) 100 false C b1 b2 b3 b4 b5 b6 b7 b8 b9 421 W3 HL3.out.1 (by unfold I64; omega) (chk2 b1 b2 b3 b4 b5 b6 b7 b8 b9)
      have c0 := (HL3.out.1 _ (.tail _ (.tail _ (.tail _ (.tail _ (.tail _ (.tail _ (.tail _ (.tail _ (.tail _ (.head _))))))))))).cell (i := 0) rfl
      have c1 := (HL3.out.1 _ (.tail _ (.tail _ (.tail _ (.tail _ (.tail _ (.tail _ (.tail _ (.tail _ (.tail _ (.head _))))))))))).cell (i := 1) rfl
      have c2 := (HL3.out.1 _ (.tail _ (.tail _ (.tail _ (.tail _ (.tail _ (.tail _ (.tail _ (.tail _ (.tail _ (.head _))))))))))).cell (i := 2) rfl
      have c3 := (HL3.out.1 _ (.tail _ (.tail _ (.tail _ (.tail _ (.tail _ (.tail _ (.tail _ (.tail _ (.tail _ (.head _))))))))))).cell (i := 3) rfl
      have c4 := (HL3.out.1 _ (.tail _ (.tail _ (.tail _ (.tail _ (.tail _ (.tail _ (.tail _ (.tail _ (.tail _ (.head _))))))))))).cell (i := 4) rfl
      have c5 := (HL3.out.1 _ (.tail _ (.tail _ (.tail _ (.tail _ (.tail _ (.tail _ (.tail _ (.tail _ (.tail _ (.head _))))))))))).cell (i := 5) rfl
      have c6 := (HL3.out.1 _ (.tail _ (.tail _ (.tail _ (.tail _ (.tail _ (.tail _ (.tail _ (.tail _ (.tail _ (.head _))))))))))).cell (i := 6) rfl
      dsimp only at c0 c1 c2 c3 c4 c5 c6
      go_wp2_with fail
      refine HC.out.mono ?_
      rintro e w4 ⟨⟨a', b', rfl⟩, hK⟩
      have HK4 : Hid (Keeps (fun _ => False) w w4) := HL3.out.2.trans hK fun _ _ h => h
      clear hK HC c0 c1 c2 c3 c4 c5 c6
      go_wp2
      go_ret
      exact ⟨rfl, HK4.out.trans ((Keeps.refl (fun _ => False) _).alloc _) fun _ _ h => h⟩
    · skip
      by_cases hk3 : which = 3
      · subst hk3
        have lC_5 := (HL2.out.1 _ (.tail _ (.tail _ (.tail _ (.tail _ (.tail _ (.tail _ (.tail _ (.tail _ (.tail _ (.head _))))))))))).cell (i := 5) rfl
        dsimp only at lC_5
        have lb9_14 := (HL2.out.1 _ (.head _)).cell (i := 14) rfl
        dsimp only at lb9_14
        have z0 := (HL2.out.1 _ (.tail _ (.tail _ (.head _)))).cell (i := 2) rfl
        have z1 := (HL2.out.1 _ (.tail _ (.tail _ (.head _)))).frozen 2
        dsimp only at z0 z1
        obtain ⟨W3, hW3⟩ : ∃ W3, W3 = W2.setCell ⟨b7, 2, none⟩ (.int .i64 11) := ⟨_, rfl⟩
        have HL3 : Hid (Bls (ExL 800 8 11 (-1) 100 false C b1 b2 b3 b4 b5 b6 b7 b8 b9) W3 ∧ Keeps (fun _ => False) w W3) := by
          have ho := HL.out.2.2
          have k3 : Keeps (fun k => k = b7) W2 W3 := by rw [hW3]; exact (Keeps.refl _ _).setCell ⟨b7, 2, none⟩ _ fun _ => rfl
          have hb : Blk W3 b7 [.int .i64 1, .int .i64 1, .int .i64 11, .int .i64 5] 39 := by rw [hW3]; exact (HL2.out.1 _ (.tail _ (.tail _ (.head _)))).setCell 2 _
          have h1 : Bls ((b7, [.int .i64 1, .int .i64 1, .int .i64 20, .int .i64 5], 39) :: [(b9, [.string radio, .int .i64 0, .int .i64 2, .int .i64 3, .int .i64 0, .int .i64 1, .slice (some ⟨b5, 0, none⟩) 1 1, .slice (some ⟨b6, 0, none⟩) 1 1, .string lamp, .int .i64 16, .int .i64 0, .int .i64 0, .int .i64 2, .int .i64 0, .slice (some ⟨b7, 0, none⟩) 1 1, .slice (some ⟨b8, 0, none⟩) 1 1], 37), (b8, [.int .i64 0, .bool false], 51), (b6, [.int .i64 0, .bool true], 51), (b5, [.int .i64 0, .int .i64 2, .int .i64 10, .int .i64 7], 39), (b4, [.int .i64 1, .int .i64 2, .int .i64 0], 49), (b3, [.slice (some ⟨b1, 0, none⟩) 2 2, .slice (some ⟨b2, 0, none⟩) 1 1], 43), (b2, [.int .i64 (-1), .int .i64 700, .int .i64 100], 45), (b1, [.int .i64 0, .int .i64 300, .int .i64 100, .int .i64 1, .int .i64 300, .int .i64 100], 45), (C, [.int .i64 64, .int .i64 800, .int .i64 40, .int .i64 8, .slice (some ⟨b3, 0, none⟩) 2 2, .slice (some ⟨b9, 0, none⟩) 2 2, .slice (some ⟨b4, 0, none⟩) 1 1], 26)]) W2 := HL2.out.1.sub fun b hb => by
            unfold ExL
            simp only [List.mem_cons, List.not_mem_nil, or_false] at hb ⊢
            rcases hb with h | h | h | h | h | h | h | h | h | h <;> simp [h]
          have h2 := h1.put k3 hb (fun b hb => by
            simp only [List.mem_cons, List.not_mem_nil, or_false] at hb
            rcases hb with rfl | rfl | rfl | rfl | rfl | rfl | rfl | rfl | rfl <;> dsimp only <;> omega)
          refine ⟨h2.sub fun b hb => ?_, HL2.out.2.trans k3 fun k hk e => by omega⟩
          unfold ExL at hb
          simp only [List.mem_cons, List.not_mem_nil, or_false] at hb ⊢
          rcases hb with h | h | h | h | h | h | h | h | h | h <;> simp [h]
        go_upto_region 28 with fail
        rw [← hW3]
        clear hW3 z0 z1 lC_5 lb9_14
        have HC : Hid (Calls Tryz.prog 6 #[.agg #[.int .i64 64, .int .i64 800, .int .i64 40, .int .i64 8, .slice (some ⟨b3, 0, none⟩) 2 2, .slice (some ⟨b9, 0, none⟩) 2 2, .slice (some ⟨b4, 0, none⟩) 1 1]] W3 (ExP 411 W3)) := check_ex 800 8 11 (-1) 100 false C b1 b2 b3 b4 b5 b6 b7 b8 b9 411 W3 HL3.out.1 (by unfold I64; omega) (chk3 b1 b2 b3 b4 b5 b6 b7 b8 b9)
        have c0 := (HL3.out.1 _ (.tail _ (.tail _ (.tail _ (.tail _ (.tail _ (.tail _ (.tail _ (.tail _ (.tail _ (.head _))))))))))).cell (i := 0) rfl
        have c1 := (HL3.out.1 _ (.tail _ (.tail _ (.tail _ (.tail _ (.tail _ (.tail _ (.tail _ (.tail _ (.tail _ (.head _))))))))))).cell (i := 1) rfl
        have c2 := (HL3.out.1 _ (.tail _ (.tail _ (.tail _ (.tail _ (.tail _ (.tail _ (.tail _ (.tail _ (.tail _ (.head _))))))))))).cell (i := 2) rfl
        have c3 := (HL3.out.1 _ (.tail _ (.tail _ (.tail _ (.tail _ (.tail _ (.tail _ (.tail _ (.tail _ (.tail _ (.head _))))))))))).cell (i := 3) rfl
        have c4 := (HL3.out.1 _ (.tail _ (.tail _ (.tail _ (.tail _ (.tail _ (.tail _ (.tail _ (.tail _ (.tail _ (.head _))))))))))).cell (i := 4) rfl
        have c5 := (HL3.out.1 _ (.tail _ (.tail _ (.tail _ (.tail _ (.tail _ (.tail _ (.tail _ (.tail _ (.tail _ (.head _))))))))))).cell (i := 5) rfl
        have c6 := (HL3.out.1 _ (.tail _ (.tail _ (.tail _ (.tail _ (.tail _ (.tail _ (.tail _ (.tail _ (.tail _ (.head _))))))))))).cell (i := 6) rfl
        dsimp only at c0 c1 c2 c3 c4 c5 c6
        go_wp2_with fail
        refine HC.out.mono ?_
        rintro e w4 ⟨⟨a', b', rfl⟩, hK⟩
        have HK4 : Hid (Keeps (fun _ => False) w w4) := HL3.out.2.trans hK fun _ _ h => h
        clear hK HC c0 c1 c2 c3 c4 c5 c6
        go_wp2
        go_ret
        exact ⟨rfl, HK4.out.trans ((Keeps.refl (fun _ => False) _).alloc _) fun _ _ h => h⟩
      · skip
        by_cases hk4 : which = 4
        · subst hk4
          have lC_5 := (HL2.out.1 _ (.tail _ (.tail _ (.tail _ (.tail _ (.tail _ (.tail _ (.tail _ (.tail _ (.tail _ (.head _))))))))))).cell (i := 5) rfl
          dsimp only at lC_5
          have lb9_15 := (HL2.out.1 _ (.head _)).cell (i := 15) rfl
          dsimp only at lb9_15
          have z0 := (HL2.out.1 _ (.tail _ (.head _))).cell (i := 1) rfl
          have z1 := (HL2.out.1 _ (.tail _ (.head _))).frozen 1
          dsimp only at z0 z1
          obtain ⟨W3, hW3⟩ : ∃ W3, W3 = W2.setCell ⟨b8, 1, none⟩ (.bool true) := ⟨_, rfl⟩
          have HL3 : Hid (Bls (ExL 800 8 20 (-1) 100 true C b1 b2 b3 b4 b5 b6 b7 b8 b9) W3 ∧ Keeps (fun _ => False) w W3) := by
            have ho := HL.out.2.2
            have k3 : Keeps (fun k => k = b8) W2 W3 := by rw [hW3]; exact (Keeps.refl _ _).setCell ⟨b8, 1, none⟩ _ fun _ => rfl
            have hb : Blk W3 b8 [.int .i64 0, .bool true] 51 := by rw [hW3]; exact (HL2.out.1 _ (.tail _ (.head _))).setCell 1 _
            have h1 : Bls ((b8, [.int .i64 0, .bool false], 51) :: [(b9, [.string radio, .int .i64 0, .int .i64 2, .int .i64 3, .int .i64 0, .int .i64 1, .slice (some ⟨b5, 0, none⟩) 1 1, .slice (some ⟨b6, 0, none⟩) 1 1, .string lamp, .int .i64 16, .int .i64 0, .int .i64 0, .int .i64 2, .int .i64 0, .slice (some ⟨b7, 0, none⟩) 1 1, .slice (some ⟨b8, 0, none⟩) 1 1], 37), (b7, [.int .i64 1, .int .i64 1, .int .i64 20, .int .i64 5], 39), (b6, [.int .i64 0, .bool true], 51), (b5, [.int .i64 0, .int .i64 2, .int .i64 10, .int .i64 7], 39), (b4, [.int .i64 1, .int .i64 2, .int .i64 0], 49), (b3, [.slice (some ⟨b1, 0, none⟩) 2 2, .slice (some ⟨b2, 0, none⟩) 1 1], 43), (b2, [.int .i64 (-1), .int .i64 700, .int .i64 100], 45), (b1, [.int .i64 0, .int .i64 300, .int .i64 100, .int .i64 1, .int .i64 300, .int .i64 100], 45), (C, [.int .i64 64, .int .i64 800, .int .i64 40, .int .i64 8, .slice (some ⟨b3, 0, none⟩) 2 2, .slice (some ⟨b9, 0, none⟩) 2 2, .slice (some ⟨b4, 0, none⟩) 1 1], 26)]) W2 := HL2.out.1.sub fun b hb => by
              unfold ExL
              simp only [List.mem_cons, List.not_mem_nil, or_false] at hb ⊢
              rcases hb with h | h | h | h | h | h | h | h | h | h <;> simp [h]
            have h2 := h1.put k3 hb (fun b hb => by
              simp only [List.mem_cons, List.not_mem_nil, or_false] at hb
              rcases hb with rfl | rfl | rfl | rfl | rfl | rfl | rfl | rfl | rfl <;> dsimp only <;> omega)
            refine ⟨h2.sub fun b hb => ?_, HL2.out.2.trans k3 fun k hk e => by omega⟩
            unfold ExL at hb
            simp only [List.mem_cons, List.not_mem_nil, or_false] at hb ⊢
            rcases hb with h | h | h | h | h | h | h | h | h | h <;> simp [h]
          go_upto_region 28 with fail
          rw [← hW3]
          clear hW3 z0 z1 lC_5 lb9_15
          have HC : Hid (Calls Tryz.prog 6 #[.agg #[.int .i64 64, .int .i64 800, .int .i64 40, .int .i64 8, .slice (some ⟨b3, 0, none⟩) 2 2, .slice (some ⟨b9, 0, none⟩) 2 2, .slice (some ⟨b4, 0, none⟩) 1 1]] W3 (ExP 416 W3)) := check_ex 800 8 20 (-1) 100 true C b1 b2 b3 b4 b5 b6 b7 b8 b9 416 W3 HL3.out.1 (by unfold I64; omega) (chk4 b1 b2 b3 b4 b5 b6 b7 b8 b9)
          have c0 := (HL3.out.1 _ (.tail _ (.tail _ (.tail _ (.tail _ (.tail _ (.tail _ (.tail _ (.tail _ (.tail _ (.head _))))))))))).cell (i := 0) rfl
          have c1 := (HL3.out.1 _ (.tail _ (.tail _ (.tail _ (.tail _ (.tail _ (.tail _ (.tail _ (.tail _ (.tail _ (.head _))))))))))).cell (i := 1) rfl
          have c2 := (HL3.out.1 _ (.tail _ (.tail _ (.tail _ (.tail _ (.tail _ (.tail _ (.tail _ (.tail _ (.tail _ (.head _))))))))))).cell (i := 2) rfl
          have c3 := (HL3.out.1 _ (.tail _ (.tail _ (.tail _ (.tail _ (.tail _ (.tail _ (.tail _ (.tail _ (.tail _ (.head _))))))))))).cell (i := 3) rfl
          have c4 := (HL3.out.1 _ (.tail _ (.tail _ (.tail _ (.tail _ (.tail _ (.tail _ (.tail _ (.tail _ (.tail _ (.head _))))))))))).cell (i := 4) rfl
          have c5 := (HL3.out.1 _ (.tail _ (.tail _ (.tail _ (.tail _ (.tail _ (.tail _ (.tail _ (.tail _ (.tail _ (.head _))))))))))).cell (i := 5) rfl
          have c6 := (HL3.out.1 _ (.tail _ (.tail _ (.tail _ (.tail _ (.tail _ (.tail _ (.tail _ (.tail _ (.tail _ (.head _))))))))))).cell (i := 6) rfl
          dsimp only at c0 c1 c2 c3 c4 c5 c6
          go_wp2_with fail
          refine HC.out.mono ?_
          rintro e w4 ⟨⟨a', b', rfl⟩, hK⟩
          have HK4 : Hid (Keeps (fun _ => False) w w4) := HL3.out.2.trans hK fun _ _ h => h
          clear hK HC c0 c1 c2 c3 c4 c5 c6
          go_wp2
          go_ret
          exact ⟨rfl, HK4.out.trans ((Keeps.refl (fun _ => False) _).alloc _) fun _ _ h => h⟩
        · skip
          by_cases hk5 : which = 5
          · subst hk5
            have lC_4 := (HL2.out.1 _ (.tail _ (.tail _ (.tail _ (.tail _ (.tail _ (.tail _ (.tail _ (.tail _ (.tail _ (.head _))))))))))).cell (i := 4) rfl
            dsimp only at lC_4
            have lb3_1 := (HL2.out.1 _ (.tail _ (.tail _ (.tail _ (.tail _ (.tail _ (.tail _ (.head _)))))))).cell (i := 1) rfl
            dsimp only at lb3_1
            have z0 := (HL2.out.1 _ (.tail _ (.tail _ (.tail _ (.tail _ (.tail _ (.tail _ (.tail _ (.head _))))))))).cell (i := 0) rfl
            have z1 := (HL2.out.1 _ (.tail _ (.tail _ (.tail _ (.tail _ (.tail _ (.tail _ (.tail _ (.head _))))))))).frozen 0
            dsimp only at z0 z1
            obtain ⟨W3, hW3⟩ : ∃ W3, W3 = W2.setCell ⟨b2, 0, none⟩ (.int .i64 1) := ⟨_, rfl⟩
            have HL3 : Hid (Bls (ExL 800 8 20 1 100 false C b1 b2 b3 b4 b5 b6 b7 b8 b9) W3 ∧ Keeps (fun _ => False) w W3) := by
              have ho := HL.out.2.2
              have k3 : Keeps (fun k => k = b2) W2 W3 := by rw [hW3]; exact (Keeps.refl _ _).setCell ⟨b2, 0, none⟩ _ fun _ => rfl
              have hb : Blk W3 b2 [.int .i64 1, .int .i64 700, .int .i64 100] 45 := by rw [hW3]; exact (HL2.out.1 _ (.tail _ (.tail _ (.tail _ (.tail _ (.tail _ (.tail _ (.tail _ (.head _))))))))).setCell 0 _
              have h1 : Bls ((b2, [.int .i64 (-1), .int .i64 700, .int .i64 100], 45) :: [(b9, [.string radio, .int .i64 0, .int .i64 2, .int .i64 3, .int .i64 0, .int .i64 1, .slice (some ⟨b5, 0, none⟩) 1 1, .slice (some ⟨b6, 0, none⟩) 1 1, .string lamp, .int .i64 16, .int .i64 0, .int .i64 0, .int .i64 2, .int .i64 0, .slice (some ⟨b7, 0, none⟩) 1 1, .slice (some ⟨b8, 0, none⟩) 1 1], 37), (b8, [.int .i64 0, .bool false], 51), (b7, [.int .i64 1, .int .i64 1, .int .i64 20, .int .i64 5], 39), (b6, [.int .i64 0, .bool true], 51), (b5, [.int .i64 0, .int .i64 2, .int .i64 10, .int .i64 7], 39), (b4, [.int .i64 1, .int .i64 2, .int .i64 0], 49), (b3, [.slice (some ⟨b1, 0, none⟩) 2 2, .slice (some ⟨b2, 0, none⟩) 1 1], 43), (b1, [.int .i64 0, .int .i64 300, .int .i64 100, .int .i64 1, .int .i64 300, .int .i64 100], 45), (C, [.int .i64 64, .int .i64 800, .int .i64 40, .int .i64 8, .slice (some ⟨b3, 0, none⟩) 2 2, .slice (some ⟨b9, 0, none⟩) 2 2, .slice (some ⟨b4, 0, none⟩) 1 1], 26)]) W2 := HL2.out.1.sub fun b hb => by
                unfold ExL
                simp only [List.mem_cons, List.not_mem_nil, or_false] at hb ⊢
                rcases hb with h | h | h | h | h | h | h | h | h | h <;> simp [h]
              have h2 := h1.put k3 hb (fun b hb => by
                simp only [List.mem_cons, List.not_mem_nil, or_false] at hb
                rcases hb with rfl | rfl | rfl | rfl | rfl | rfl | rfl | rfl | rfl <;> dsimp only <;> omega)
              refine ⟨h2.sub fun b hb => ?_, HL2.out.2.trans k3 fun k hk e => by omega⟩
              unfold ExL at hb
              simp only [List.mem_cons, List.not_mem_nil, or_false] at hb ⊢
              rcases hb with h | h | h | h | h | h | h | h | h | h <;> simp [h]
            go_upto_region 28 with fail
            rw [← hW3]
            clear hW3 z0 z1 lC_4 lb3_1
            have HC : Hid (Calls Tryz.prog 6 #[.agg #[.int .i64 64, .int .i64 800, .int .i64 40, .int .i64 8, .slice (some ⟨b3, 0, none⟩) 2 2, .slice (some ⟨b9, 0, none⟩) 2 2, .slice (some ⟨b4, 0, none⟩) 1 1]] W3 (ExP 422 W3)) := check_ex 800 8 20 1 100 false C b1 b2 b3 b4 b5 b6 b7 b8 b9 422 W3 HL3.out.1 (by unfold I64; omega) (chk5 b1 b2 b3 b4 b5 b6 b7 b8 b9)
            have c0 := (HL3.out.1 _ (.tail _ (.tail _ (.tail _ (.tail _ (.tail _ (.tail _ (.tail _ (.tail _ (.tail _ (.head _))))))))))).cell (i := 0) rfl
            have c1 := (HL3.out.1 _ (.tail _ (.tail _ (.tail _ (.tail _ (.tail _ (.tail _ (.tail _ (.tail _ (.tail _ (.head _))))))))))).cell (i := 1) rfl
            have c2 := (HL3.out.1 _ (.tail _ (.tail _ (.tail _ (.tail _ (.tail _ (.tail _ (.tail _ (.tail _ (.tail _ (.head _))))))))))).cell (i := 2) rfl
            have c3 := (HL3.out.1 _ (.tail _ (.tail _ (.tail _ (.tail _ (.tail _ (.tail _ (.tail _ (.tail _ (.tail _ (.head _))))))))))).cell (i := 3) rfl
            have c4 := (HL3.out.1 _ (.tail _ (.tail _ (.tail _ (.tail _ (.tail _ (.tail _ (.tail _ (.tail _ (.tail _ (.head _))))))))))).cell (i := 4) rfl
            have c5 := (HL3.out.1 _ (.tail _ (.tail _ (.tail _ (.tail _ (.tail _ (.tail _ (.tail _ (.tail _ (.tail _ (.head _))))))))))).cell (i := 5) rfl
            have c6 := (HL3.out.1 _ (.tail _ (.tail _ (.tail _ (.tail _ (.tail _ (.tail _ (.tail _ (.tail _ (.tail _ (.head _))))))))))).cell (i := 6) rfl
            dsimp only at c0 c1 c2 c3 c4 c5 c6
            go_wp2_with fail
            refine HC.out.mono ?_
            rintro e w4 ⟨⟨a', b', rfl⟩, hK⟩
            have HK4 : Hid (Keeps (fun _ => False) w w4) := HL3.out.2.trans hK fun _ _ h => h
            clear hK HC c0 c1 c2 c3 c4 c5 c6
            go_wp2
            go_ret
            exact ⟨rfl, HK4.out.trans ((Keeps.refl (fun _ => False) _).alloc _) fun _ _ h => h⟩
          · skip
            by_cases hk6 : which = 6
            · subst hk6
              have lC_4 := (HL2.out.1 _ (.tail _ (.tail _ (.tail _ (.tail _ (.tail _ (.tail _ (.tail _ (.tail _ (.tail _ (.head _))))))))))).cell (i := 4) rfl
              dsimp only at lC_4
              have lb3_0 := (HL2.out.1 _ (.tail _ (.tail _ (.tail _ (.tail _ (.tail _ (.tail _ (.head _)))))))).cell (i := 0) rfl
              dsimp only at lb3_0
              have z0 := (HL2.out.1 _ (.tail _ (.tail _ (.tail _ (.tail _ (.tail _ (.tail _ (.tail _ (.tail _ (.head _)))))))))).cell (i := 2) rfl
              have z1 := (HL2.out.1 _ (.tail _ (.tail _ (.tail _ (.tail _ (.tail _ (.tail _ (.tail _ (.tail _ (.head _)))))))))).frozen 2
              dsimp only at z0 z1
              obtain ⟨W3, hW3⟩ : ∃ W3, W3 = W2.setCell ⟨b1, 2, none⟩ (.int .i64 81) := ⟨_, rfl⟩
              have HL3 : Hid (Bls (ExL 800 8 20 (-1) 81 false C b1 b2 b3 b4 b5 b6 b7 b8 b9) W3 ∧ Keeps (fun _ => False) w W3) := by
                have ho := HL.out.2.2
                have k3 : Keeps (fun k => k = b1) W2 W3 := by rw [hW3]; exact (Keeps.refl _ _).setCell ⟨b1, 2, none⟩ _ fun _ => rfl
                have hb : Blk W3 b1 [.int .i64 0, .int .i64 300, .int .i64 81, .int .i64 1, .int .i64 300, .int .i64 100] 45 := by rw [hW3]; exact (HL2.out.1 _ (.tail _ (.tail _ (.tail _ (.tail _ (.tail _ (.tail _ (.tail _ (.tail _ (.head _)))))))))).setCell 2 _
                have h1 : Bls ((b1, [.int .i64 0, .int .i64 300, .int .i64 100, .int .i64 1, .int .i64 300, .int .i64 100], 45) :: [(b9, [.string radio, .int .i64 0, .int .i64 2, .int .i64 3, .int .i64 0, .int .i64 1, .slice (some ⟨b5, 0, none⟩) 1 1, .slice (some ⟨b6, 0, none⟩) 1 1, .string lamp, .int .i64 16, .int .i64 0, .int .i64 0, .int .i64 2, .int .i64 0, .slice (some ⟨b7, 0, none⟩) 1 1, .slice (some ⟨b8, 0, none⟩) 1 1], 37), (b8, [.int .i64 0, .bool false], 51), (b7, [.int .i64 1, .int .i64 1, .int .i64 20, .int .i64 5], 39), (b6, [.int .i64 0, .bool true], 51), (b5, [.int .i64 0, .int .i64 2, .int .i64 10, .int .i64 7], 39), (b4, [.int .i64 1, .int .i64 2, .int .i64 0], 49), (b3, [.slice (some ⟨b1, 0, none⟩) 2 2, .slice (some ⟨b2, 0, none⟩) 1 1], 43), (b2, [.int .i64 (-1), .int .i64 700, .int .i64 100], 45), (C, [.int .i64 64, .int .i64 800, .int .i64 40, .int .i64 8, .slice (some ⟨b3, 0, none⟩) 2 2, .slice (some ⟨b9, 0, none⟩) 2 2, .slice (some ⟨b4, 0, none⟩) 1 1], 26)]) W2 := HL2.out.1.sub fun b hb => by
                  unfold ExL
                  simp only [List.mem_cons, List.not_mem_nil, or_false] at hb ⊢
                  rcases hb with h | h | h | h | h | h | h | h | h | h <;> simp [h]
                have h2 := h1.put k3 hb (fun b hb => by
                  simp only [List.mem_cons, List.not_mem_nil, or_false] at hb
                  rcases hb with rfl | rfl | rfl | rfl | rfl | rfl | rfl | rfl | rfl <;> dsimp only <;> omega)
                refine ⟨h2.sub fun b hb => ?_, HL2.out.2.trans k3 fun k hk e => by omega⟩
                unfold ExL at hb
                simp only [List.mem_cons, List.not_mem_nil, or_false] at hb ⊢
                rcases hb with h | h | h | h | h | h | h | h | h | h <;> simp [h]
              go_upto_region 28 with fail
              rw [← hW3]
              clear hW3 z0 z1 lC_4 lb3_0
              have HC : Hid (Calls Tryz.prog 6 #[.agg #[.int .i64 64, .int .i64 800, .int .i64 40, .int .i64 8, .slice (some ⟨b3, 0, none⟩) 2 2, .slice (some ⟨b9, 0, none⟩) 2 2, .slice (some ⟨b4, 0, none⟩) 1 1]] W3 (ExP 420 W3)) := check_ex 800 8 20 (-1) 81 false C b1 b2 b3 b4 b5 b6 b7 b8 b9 420 W3 HL3.out.1 (by unfold I64; omega) (chk6 b1 b2 b3 b4 b5 b6 b7 b8 b9)
              have c0 := (HL3.out.1 _ (.tail _ (.tail _ (.tail _ (.tail _ (.tail _ (.tail _ (.tail _ (.tail _ (.tail _ (.head _))))))))))).cell (i := 0) rfl
              have c1 := (HL3.out.1 _ (.tail _ (.tail _ (.tail _ (.tail _ (.tail _ (.tail _ (.tail _ (.tail _ (.tail _ (.head _))))))))))).cell (i := 1) rfl
              have c2 := (HL3.out.1 _ (.tail _ (.tail _ (.tail _ (.tail _ (.tail _ (.tail _ (.tail _ (.tail _ (.tail _ (.head _))))))))))).cell (i := 2) rfl
              have c3 := (HL3.out.1 _ (.tail _ (.tail _ (.tail _ (.tail _ (.tail _ (.tail _ (.tail _ (.tail _ (.tail _ (.head _))))))))))).cell (i := 3) rfl
              have c4 := (HL3.out.1 _ (.tail _ (.tail _ (.tail _ (.tail _ (.tail _ (.tail _ (.tail _ (.tail _ (.tail _ (.head _))))))))))).cell (i := 4) rfl
              have c5 := (HL3.out.1 _ (.tail _ (.tail _ (.tail _ (.tail _ (.tail _ (.tail _ (.tail _ (.tail _ (.tail _ (.head _))))))))))).cell (i := 5) rfl
              have c6 := (HL3.out.1 _ (.tail _ (.tail _ (.tail _ (.tail _ (.tail _ (.tail _ (.tail _ (.tail _ (.tail _ (.head _))))))))))).cell (i := 6) rfl
              dsimp only at c0 c1 c2 c3 c4 c5 c6
              go_wp2_with fail
              refine HC.out.mono ?_
              rintro e w4 ⟨⟨a', b', rfl⟩, hK⟩
              have HK4 : Hid (Keeps (fun _ => False) w w4) := HL3.out.2.trans hK fun _ _ h => h
              clear hK HC c0 c1 c2 c3 c4 c5 c6
              go_wp2
              go_ret
              exact ⟨rfl, HK4.out.trans ((Keeps.refl (fun _ => False) _).alloc _) fun _ _ h => h⟩
            · skip
              have q1 : (which == 1) = false := by simp; omega
              have q2 : (which == 2) = false := by simp; omega
              have q3 : (which == 3) = false := by simp; omega
              have q4 : (which == 4) = false := by simp; omega
              have q5 : (which == 5) = false := by simp; omega
              have q6 : (which == 6) = false := by simp; omega
              go_upto_region 28 with fail
              have HC : Hid (Calls Tryz.prog 6 #[.agg #[.int .i64 64, .int .i64 800, .int .i64 40, .int .i64 8, .slice (some ⟨b3, 0, none⟩) 2 2, .slice (some ⟨b9, 0, none⟩) 2 2, .slice (some ⟨b4, 0, none⟩) 1 1]] W2 (ExP 0 W2)) := check_ex 800 8 20 (-1) 100 false C b1 b2 b3 b4 b5 b6 b7 b8 b9 0 W2 HL2.out.1 (by unfold I64; omega) (chk0 b1 b2 b3 b4 b5 b6 b7 b8 b9)
              have c0 := (HL2.out.1 _ (.tail _ (.tail _ (.tail _ (.tail _ (.tail _ (.tail _ (.tail _ (.tail _ (.tail _ (.head _))))))))))).cell (i := 0) rfl
              have c1 := (HL2.out.1 _ (.tail _ (.tail _ (.tail _ (.tail _ (.tail _ (.tail _ (.tail _ (.tail _ (.tail _ (.head _))))))))))).cell (i := 1) rfl
              have c2 := (HL2.out.1 _ (.tail _ (.tail _ (.tail _ (.tail _ (.tail _ (.tail _ (.tail _ (.tail _ (.tail _ (.head _))))))))))).cell (i := 2) rfl
              have c3 := (HL2.out.1 _ (.tail _ (.tail _ (.tail _ (.tail _ (.tail _ (.tail _ (.tail _ (.tail _ (.tail _ (.head _))))))))))).cell (i := 3) rfl
              have c4 := (HL2.out.1 _ (.tail _ (.tail _ (.tail _ (.tail _ (.tail _ (.tail _ (.tail _ (.tail _ (.tail _ (.head _))))))))))).cell (i := 4) rfl
              have c5 := (HL2.out.1 _ (.tail _ (.tail _ (.tail _ (.tail _ (.tail _ (.tail _ (.tail _ (.tail _ (.tail _ (.head _))))))))))).cell (i := 5) rfl
              have c6 := (HL2.out.1 _ (.tail _ (.tail _ (.tail _ (.tail _ (.tail _ (.tail _ (.tail _ (.tail _ (.tail _ (.head _))))))))))).cell (i := 6) rfl
              dsimp only at c0 c1 c2 c3 c4 c5 c6
              go_wp2_with fail
              refine HC.out.mono ?_
              rintro e w4 ⟨⟨a', b', rfl⟩, hK⟩
              have HK4 : Hid (Keeps (fun _ => False) w w4) := HL2.out.2.trans hK fun _ _ h => h
              clear hK HC c0 c1 c2 c3 c4 c5 c6
              go_wp2
              go_ret
              exact ⟨rfl, HK4.out.trans ((Keeps.refl (fun _ => False) _).alloc _) fun _ _ h => h⟩
end Go.Proofs.YtgookbkaacidpaaGreat
