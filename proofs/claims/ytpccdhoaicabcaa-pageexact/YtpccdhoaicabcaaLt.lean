import Derived.Test.YtpccdhoaicabcaaFl
import Derived.Deep.RegionHeld3
namespace Go.Proofs.Ytpccdhoaicabcaa
open Go.RowKit
set_option linter.unusedVariables false
set_option linter.unusedSimpArgs false

abbrev opV (kind A B C : Int) (W : Nat) (s2 s : Value) : Value := .agg #[.int .i64 kind, .int .i64 A, .int .i64 B, .int .i64 C, .int .u32 W, s2, s]
def mkR (i : Nat) : Rgn := ⟨-77, 0, 0, i⟩
/-- The marked room behind lists. -/
def marksI (j : Nat) : List Int := List.replicate j (-77) ++ List.replicate (9 - j) 0
def marksR (j : Nat) : List Rgn := (List.range j).map mkR ++ List.replicate (9 - j) rg0
theorem marksI_length (j : Nat) (h : j ≤ 9) : (marksI j).length = 9 := by simp [marksI]; omega
theorem marksR_length (j : Nat) (h : j ≤ 9) : (marksR j).length = 9 := by simp [marksR]; omega
theorem marksI_set (ts : List Int) (j : Nat) (h : j < 9) : (ts ++ marksI j).set (ts.length + j) (-77) = ts ++ marksI (j + 1) := by
  rw [List.set_append_right _ _ (by omega), Nat.add_sub_cancel_left]
  congr 1
  unfold marksI
  rw [List.set_append_right _ _ (by simp), List.length_replicate, Nat.sub_self]
  obtain ⟨d, hd⟩ : ∃ d, 9 - j = d + 1 := ⟨9 - j - 1, by omega⟩
  rw [hd, show 9 - (j + 1) = d by omega, List.replicate_succ, List.set_cons_zero, List.replicate_succ']
  simp
theorem marksR_set (rs : List Rgn) (j : Nat) (h : j < 9) : (rs ++ marksR j).set (rs.length + j) (mkR j) = rs ++ marksR (j + 1) := by
  rw [List.set_append_right _ _ (by omega), Nat.add_sub_cancel_left]
  congr 1
  unfold marksR
  rw [List.set_append_right _ _ (by simp), List.length_map, List.length_range, Nat.sub_self]
  obtain ⟨d, hd⟩ : ∃ d, 9 - j = d + 1 := ⟨9 - j - 1, by omega⟩
  rw [hd, show 9 - (j + 1) = d by omega, List.replicate_succ, List.set_cons_zero, List.range_succ]
  simp

/-- What lent gives. -/
structure Lent (w w' : World) (gt gr : Nat) (ts : List Int) (rs : List Rgn) (j : Nat) : Prop where
  t : Blk w' gt (ivs (ts ++ marksI j)) 3
  r : Blk w' gr (flatR (rs ++ marksR j)) 54
  gt1 : w.heap.size ≤ gt
  gr1 : w.heap.size ≤ gr
  ne : gt ≠ gr
  k : Keeps (fun _ => False) w w'

theorem Keeps.setRow1 {w w' : World} (h : Keeps (fun _ => False) w w') (g : Nat) (cs : Array Value) (hg : w.heap.size ≤ g) : Keeps (fun _ => False) w (w'.setRow g cs) := h.setRow g cs fun e => by omega

set_option maxRecDepth 20000 in
set_option maxHeartbeats 4000000 in
theorem lent_any (kind A B C : Int) (W : Nat) (a2 : Option Addr) (ts : List Int) (c2 : Nat) (a : Option Addr) (rs : List Rgn) (c : Nat) (w : World)
    (hl2 : ts.length ≤ c2 ∧ c2 ≤ maxLen) (hs2 : SegI w a2 ts) (hl : rs.length ≤ c ∧ c ≤ maxLen) (hs : SegR w a rs) (hb : ts.length + rs.length ≤ 2147483647) :
    Calls Try.prog 11 #[opV kind A B C W (.slice a2 ts.length c2) (.slice a rs.length c)] w fun e w' => ∃ gt gr, e = .returned (.tuple #[.slice (some ⟨gt, 0, none⟩) ts.length (ts.length + 9), .slice (some ⟨gr, 0, none⟩) rs.length (rs.length + 9)]) ∧ Lent w w' gt gr ts rs 9 := by
  obtain ⟨w1, hw1⟩ : ∃ w1, w1 = w.alloc (.cells #[.int .i64 kind, .int .i64 A, .int .i64 B, .int .i64 C, .int .u32 W, .slice a2 ts.length c2, .slice a rs.length c] 31) := ⟨_, rfl⟩
  have k1 : Keeps (fun _ => False) w w1 := by rw [hw1]; exact (Keeps.refl _ w).alloc _
  have z1 : w1.heap.size = w.heap.size + 1 := by rw [hw1]; simp
  have b1 : Blk w1 w.heap.size [.int .i64 kind, .int .i64 A, .int .i64 B, .int .i64 C, .int .u32 W, .slice a2 ts.length c2, .slice a rs.length c] 31 := by rw [hw1]; exact Blk.new w _ 31
  -- make and copy of the tables
  have m1 := run_make_intsB (w := w1) (ts.length + 9) (by omega)
  obtain ⟨w2, hw2⟩ : ∃ w2, w2 = w1.alloc (.cells (ivs (List.replicate (ts.length + 9) 0)).toArray 3) := ⟨_, rfl⟩
  rw [← hw2] at m1
  have k2 : Keeps (fun _ => False) w1 w2 := by rw [hw2]; exact (Keeps.refl _ w1).alloc _
  have z2 : w2.heap.size = w1.heap.size + 1 := by rw [hw2]; simp
  have b2 : Blk w2 w1.heap.size (ivs (List.replicate (ts.length + 9) 0)) 3 := by rw [hw2]; exact Blk.new w1 _ 3
  have cp1 := fun ty => run_copy_big (w := w2) 28 ty 3 1 (by omega) w1.heap.size (ts.length + 9) (ts.length + 9) a2 ts.length c2 (ivs (List.replicate (ts.length + 9) 0)) 3 (ivs ts) Try.underlying28 Try.size3 b2 (by rw [ivs_length]; omega) (by omega)
    (segI_cells ((hs2.grown k1).grown k2)) (by rw [ivs_length, ivs_length]; simp) (ivs_one ts)
  have e1 : ivs ts ++ (ivs (List.replicate (ts.length + 9) 0)).drop (ivs ts).length = ivs (ts ++ marksI 0) := by
    rw [ivs_append, ivs_length]
    congr 1
    simp [ivs, marksI]
  rw [e1] at cp1
  obtain ⟨w3, hw3⟩ : ∃ w3, w3 = w2.setRow w1.heap.size (ivs (ts ++ marksI 0)).toArray := ⟨_, rfl⟩
  rw [← hw3] at cp1
  have b3 : Blk w3 w1.heap.size (ivs (ts ++ marksI 0)) 3 := by rw [hw3]; exact b2.setRow _
  have k3 : Keeps (fun _ => False) w1 w3 := by rw [hw3]; exact k2.setRow1 _ _ (Nat.le_refl _)
  have z3 : w3.heap.size = w1.heap.size + 1 := by rw [hw3, ← z2]; simp [World.setRow]
  -- of the regions
  have m2 := run_make_rgns (w := w3) (rs.length + 9) (by omega)
  obtain ⟨w4, hw4⟩ : ∃ w4, w4 = w3.alloc (.cells (flatR (List.replicate (rs.length + 9) rg0)).toArray 54) := ⟨_, rfl⟩
  rw [← hw4] at m2
  have k4 : Keeps (fun _ => False) w3 w4 := by rw [hw4]; exact (Keeps.refl _ w3).alloc _
  have b4 : Blk w4 w3.heap.size (flatR (List.replicate (rs.length + 9) rg0)) 54 := by rw [hw4]; exact Blk.new w3 _ 54
  have k34 := (k1.trans k3 fun _ _ h => h).trans k4 fun _ _ h => h
  have cp2 := fun ty => run_copy_big (w := w4) 29 ty 54 4 (by omega) w3.heap.size (rs.length + 9) (rs.length + 9) a rs.length c (flatR (List.replicate (rs.length + 9) rg0)) 54 (flatR rs) Try.underlying29 Try.size54 b4 (by rw [flatR_length]) (by omega)
    (segR_cells (hs.grown k34)) (by rw [flatR_length, flatR_length]; simp; omega) (flatR_one rs)
  have e2 : flatR rs ++ (flatR (List.replicate (rs.length + 9) rg0)).drop (flatR rs).length = flatR (rs ++ marksR 0) := by
    rw [flatR_append]
    congr 1
    have e : List.replicate (rs.length + 9) rg0 = List.replicate rs.length rg0 ++ List.replicate 9 rg0 := by rw [List.replicate_append_replicate]
    rw [e, flatR_append, List.drop_append, List.drop_of_length_le (by rw [flatR_length, flatR_length]; simp), List.nil_append, flatR_length, flatR_length, List.length_replicate, Nat.sub_self, List.drop_zero]
    simp [marksR]
  rw [e2] at cp2
  obtain ⟨w5, hw5⟩ : ∃ w5, w5 = w4.setRow w3.heap.size (flatR (rs ++ marksR 0)).toArray := ⟨_, rfl⟩
  rw [← hw5] at cp2
  have b5 : Blk w5 w3.heap.size (flatR (rs ++ marksR 0)) 54 := by rw [hw5]; exact b4.setRow _
  have k5 : Keeps (fun _ => False) w3 w5 := by rw [hw5]; exact k4.setRow1 _ _ (Nat.le_refl _)
  have hL0 : Lent w w5 w1.heap.size w3.heap.size ts rs 0 := ⟨b3.kept k5 fun h => h, b5, by omega, by omega, by omega, (k1.trans k3 fun _ _ h => h).trans k5 fun _ _ h => h⟩
  have bo2 : Blk w2 w.heap.size [.int .i64 kind, .int .i64 A, .int .i64 B, .int .i64 C, .int .u32 W, .slice a2 ts.length c2, .slice a rs.length c] 31 := b1.kept k2 fun h => h
  have bo3 := b1.kept k3 fun h => h
  have bo4 := bo3.kept k4 fun h => h
  have bo5 := bo3.kept k5 fun h => h
  obtain ⟨L2, hL2⟩ : ∃ L, L = ts.length := ⟨_, rfl⟩
  obtain ⟨L, hL⟩ : ∃ L, L = rs.length := ⟨_, rfl⟩
  rw [← hL2] at m1 cp1 bo2 bo3 bo4 bo5 hw1 hb hl2 ⊢
  rw [← hL] at m2 cp2 bo2 bo3 bo4 bo5 hw1 hb hl ⊢
  have q2 := bo2.cell (i := 5) rfl
  have q3 := bo3.cell (i := 6) rfl
  have q4 := bo4.cell (i := 6) rfl
  obtain ⟨gt, hgt⟩ : ∃ gt, gt = w1.heap.size := ⟨_, rfl⟩
  obtain ⟨gr, hgr⟩ : ∃ gr, gr = w3.heap.size := ⟨_, rfl⟩
  obtain ⟨H, hH⟩ : ∃ H, H = w.heap.size := ⟨_, rfl⟩
  rw [← hgt] at m1 cp1 hL0
  rw [← hgr] at m2 cp2 hL0
  rw [← hH] at q2 q3 q4 bo5
  have e9 : ((L2 + 9 : Nat) : Int) = (L2 : Int) + 9 := by omega
  have e9' : ((L + 9 : Nat) : Int) = (L : Int) + 9 := by omega
  rw [e9] at m1
  rw [e9'] at m2
  have M1 : Hid (_ = _) := m1
  have M2 : Hid (_ = _) := m2
  have C1 : Hid (∀ ty, _) := cp1
  have C2 : Hid (∀ ty, _) := cp2
  have HH : Hid (H = w.heap.size ∧ gt ≠ H ∧ gr ≠ H ∧ L2 = ts.length ∧ L = rs.length ∧ w1 = w.alloc (.cells #[.int .i64 kind, .int .i64 A, .int .i64 B, .int .i64 C, .int .u32 W, .slice a2 L2 c2, .slice a L c] 31) ∧ Blk w5 H [.int .i64 kind, .int .i64 A, .int .i64 B, .int .i64 C, .int .u32 W, .slice a2 L2 c2, .slice a L c] 31 ∧ Lent w w5 gt gr ts rs 0) :=
    ⟨hH, by omega, by omega, hL2, hL, hw1, bo5, hL0⟩
  have hLb : (L2 : Int) + L ≤ 2147483647 := by omega
  clear m1 m2 cp1 cp2 k1 z1 b1 hw2 k2 z2 b2 hw3 b3 k3 z3 hw4 k4 b4 k34 e1 e2 hw5 b5 k5 hL0 bo2 bo3 bo4 bo5 hgt hgr hL2 hL hH e9 e9' hw1 hs2 hs hl2 hl hb
  go_enter Try.func11, Try.ntmps11
  go_wp2_with (at_make; rw [← HH.out.2.2.2.2.2.1]; refine wpList_make_run rfl (.tmp 10) (.tmp 10) 28 rfl (.int .i64 ((L2 : Int) + 9)) (.int .i64 ((L2 : Int) + 9)) (.slice (some ⟨gt, 0, none⟩) (L2 + 9) (L2 + 9)) w2 rfl rfl M1.out ?_; refine Hid.out ?_)
  unfold Hid
  rw [← HH.out.1]
  go_wp2_with (refine isCopy (.tmp 12) (.tmp 14) 28 28 rfl ?_; go_must (refine wpList_copy_run rfl (.tmp 12) (.tmp 14) 28 28 rfl (.slice (some ⟨gt, 0, none⟩) (L2 + 9) (L2 + 9)) (.slice a2 L2 c2) (goInt L2) w3 rfl rfl C1.out ?_; refine Hid.out ?_))
  unfold Hid
  go_wp2_with (at_make; refine wpList_make_run rfl (.tmp 19) (.tmp 19) 29 rfl (.int .i64 ((L : Int) + 9)) (.int .i64 ((L : Int) + 9)) (.slice (some ⟨gr, 0, none⟩) (L + 9) (L + 9)) w4 rfl rfl M2.out ?_; refine Hid.out ?_)
  unfold Hid
  go_wp2_with (refine isCopy (.tmp 21) (.tmp 23) 29 29 rfl ?_; go_must (refine wpList_copy_run rfl (.tmp 21) (.tmp 23) 29 29 rfl (.slice (some ⟨gr, 0, none⟩) (L + 9) (L + 9)) (.slice a L c) (goInt L) w5 rfl rfl C2.out ?_; refine Hid.out ?_))
  unfold Hid
  clear q2 q3 q4 M1 M2 C1 C2
  go_wp2
  go_loopw [6] (fun i wr => ∃ j : Nat, j ≤ 9 ∧ i = .int .i64 j ∧ Lent w wr gt gr ts rs j ∧ Blk wr H [.int .i64 kind, .int .i64 A, .int .i64 B, .int .i64 C, .int .u32 W, .slice a2 L2 c2, .slice a L c] 31) (fun i _ => 9 - (intOf i).toNat)
  case atStart => exact ⟨0, by omega, rfl, HH.out.2.2.2.2.2.2.2, HH.out.2.2.2.2.2.2.1⟩
  case round =>
    obtain ⟨j, hj, rfl, hL, hB⟩ := hrel
    have q5 := hB.cell (i := 5) rfl
    have q6 := hB.cell (i := 6) rfl
    have HJ : Hid (Lent w wr gt gr ts rs j ∧ Blk wr H [.int .i64 kind, .int .i64 A, .int .i64 B, .int .i64 C, .int .u32 W, .slice a2 L2 c2, .slice a L c] 31) := ⟨hL, hB⟩
    by_cases hlt : j < 9
    · have hlt' : (j : Int) < 9 := by omega
      obtain ⟨x, hx⟩ : ∃ x, (ts ++ marksI j)[L2 + j]? = some x := ⟨_, List.getElem?_eq_getElem (by rw [List.length_append, marksI_length j hj]; have := HH.out.2.2.2.1; omega)⟩
      obtain ⟨y, hy⟩ : ∃ y, (rs ++ marksR j)[L + j]? = some y := ⟨_, List.getElem?_eq_getElem (by rw [List.length_append, marksR_length j hj]; have := HH.out.2.2.2.2.1; omega)⟩
      have ct := hL.t.cell (ivs_at _ _ _ hx)
      have zt := hL.t.frozen (L2 + j)
      obtain ⟨y0, y1, y2, y3⟩ := hL.r.rgAt hy
      have z0 := hL.r.frozen ((L + j) * 4)
      have z1 := hL.r.frozen ((L + j) * 4 + 1)
      have z2 := hL.r.frozen ((L + j) * 4 + 2)
      have z3 := hL.r.frozen ((L + j) * 4 + 3)
      have hne := hL.ne
      have hne2 : gr ≠ gt := fun e => hne e.symm
      have n1 := HH.out.2.1
      have n2 := HH.out.2.2.1
      have n3 : H ≠ gt := fun e => n1 e.symm
      have n4 : H ≠ gr := fun e => n2 e.symm
      clear hL hB hx hy
      go_wp2
      go_roundw
      case rel =>
        obtain ⟨hL, hB⟩ := HJ.out
        have hh := HH.out
        have kA : Keeps (· = gt) wr (wr.setCell ⟨gt, L2 + j, none⟩ (.int .i64 (-77))) := (Keeps.refl (· = gt) wr).setCell _ _ fun _ => rfl
        have kB : Keeps (· = gr) (wr.setCell ⟨gt, L2 + j, none⟩ (.int .i64 (-77))) (setRg (wr.setCell ⟨gt, L2 + j, none⟩ (.int .i64 (-77))) gr (L + j) (mkR j)) := (Keeps.refl (· = gr) _).setRgn gr (L + j) (mkR j) fun _ => rfl
        have t1 := (hL.t.setCell (L2 + j) (.int .i64 (-77))).kept kB hne
        rw [ivs_set, hh.2.2.2.1, marksI_set ts j hlt, ← hh.2.2.2.1] at t1
        have r1 := (hL.r.kept kA hne2).setRgn (i := L + j) (by rw [List.length_append, marksR_length j hj]; omega) (mkR j)
        rw [hh.2.2.2.2.1, marksR_set rs j hlt, ← hh.2.2.2.2.1] at r1
        refine ⟨j + 1, by omega, by go_num, ⟨t1, r1, hL.gt1, hL.gr1, hne, (hL.k.trans kA fun b hb e => by have := hL.gt1; omega).trans kB fun b hb e => by have := hL.gr1; omega⟩, (hB.kept kA n3).kept kB n4⟩
      case measure => simp [intOf]; omega
    · obtain rfl : j = 9 := by omega
      clear hL hB
      go_wp2_with fail
      go_quiet (fail)
      go_wp2
      go_ret2
      obtain ⟨hL, _⟩ := HJ.out
      exact ⟨gt, gr, rfl, ⟨hL.t.drewN _, hL.r.drewN _, hL.gt1, hL.gr1, hL.ne, hL.k.drewN _⟩⟩

end Go.Proofs.Ytpccdhoaicabcaa
