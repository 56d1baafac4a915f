import Derived.Test.YtfcgpjojjehkiaaI
namespace Go.Proofs.Ytfcgpjojjehkiaa
open Go.RowKit
set_option linter.unusedVariables false

theorem wvs_setm (xs : List UInt32) (p : Nat) (x : UInt32) : wvs (xs.set p x) = (wvs xs).set p (.int .u32 (x.toNat : Int)) := by simp [wvs, List.map_set]

/-- Words while a box is filled. -/
def mkd (h n j : Nat) : List UInt32 := List.replicate j 1 ++ List.replicate (h + n - j) 0
theorem mkd_length {h n j : Nat} (hj : j ≤ h) : (mkd h n j).length = h + n := by simp [mkd]; omega
theorem mkd_set {h n j : Nat} (hj : j < h) : (mkd h n j).set j 1 = mkd h n (j + 1) := by
  unfold mkd
  rw [List.set_append_right _ _ (by simp), List.length_replicate, Nat.sub_self, show h + n - j = (h + n - (j + 1)) + 1 by omega, List.replicate_succ, List.set_cons_zero, List.replicate_succ', List.append_assoc]
  rfl
theorem mkd_fill {h n : Nat} (ms : List UInt32) (h1 : 1 ≤ h) (hm : ms.length ≤ n) :
    ((mkd h n (h - 1)).set (h - 1) (UInt32.ofNat ms.length)).take h ++ ms ++ ((mkd h n (h - 1)).set (h - 1) (UInt32.ofNat ms.length)).drop (h + ms.length) = fillW h n ms := by
  have e : (mkd h n (h - 1)).set (h - 1) (UInt32.ofNat ms.length) = (List.replicate (h - 1) 1 ++ [UInt32.ofNat ms.length]) ++ List.replicate n 0 := by
    unfold mkd
    rw [List.set_append_right _ _ (by simp), List.length_replicate, Nat.sub_self, show h + n - (h - 1) = n + 1 by omega, List.replicate_succ, List.set_cons_zero, List.append_assoc]
    rfl
  have hl : (List.replicate (h - 1) (1 : UInt32) ++ [UInt32.ofNat ms.length]).length = h := by simp; omega
  rw [e, List.take_append_of_le_length (by omega), List.take_of_length_le (by omega), List.drop_append, List.drop_of_length_le (by omega), hl, Nat.add_sub_cancel_left]
  simp [fillW]

set_option maxRecDepth 20000 in
set_option maxHeartbeats 1000000 in
theorem filled_any (p : Int) (h n : Nat) (a : Option Addr) (c : Nat) (ms : List UInt32) (w : World) (hs : SegW w a ms) (hh : h = 2 ∨ h = 3) (h1 : 1 ≤ ms.length) (h2 : ms.length ≤ n) (h3 : n ≤ 16) :
    Calls Try.prog 43 #[bxv p h n, .slice a ms.length c] w fun e w' => ∃ G, w.heap.size ≤ G ∧ e = .returned (.slice (some ⟨G, 0, none⟩) (h + n) (h + n)) ∧ Blk w' G (wvs (fillW h n ms)) 34 ∧ Keeps (fun _ => False) w w' := by
  obtain ⟨W, hW, hK, hB⟩ := box_new w p h n
  have HS := size_any p (h : Int) (n : Int) W ⟨by omega, by omega⟩ ⟨by omega, by omega⟩
  obtain ⟨L, hL⟩ : ∃ L, L = h + n := ⟨_, rfl⟩
  have eL : (h : Int) + (n : Int) = (L : Int) := by omega
  rw [eL] at HS
  have HS : Hid (Calls _ _ _ _ _) := HS
  obtain ⟨O, hO⟩ : ∃ O, O = w.heap.size := ⟨_, rfl⟩
  rw [← hO] at hB
  have HW : Hid (W = _ ∧ O = w.heap.size ∧ Keeps (fun _ => False) w W ∧ Blk W O [.int .i64 p, .int .i64 (h : Int), .int .i64 (n : Int)] 69) := ⟨hW, hO, hK, hB⟩
  have HP : Hid (SegW w a ms ∧ (h = 2 ∨ h = 3) ∧ 1 ≤ ms.length ∧ ms.length ≤ n ∧ n ≤ 16 ∧ L = h + n) := ⟨hs, hh, h1, h2, h3, hL⟩
  obtain ⟨k, hk⟩ : ∃ k, k = ms.length := ⟨_, rfl⟩
  have HKk : Hid (k = ms.length) := hk
  rw [← hL, ← hk]
  have b1 : 2 ≤ (h : Int) := by omega
  have b2 : (h : Int) ≤ 3 := by omega
  have b3 : (k : Int) ≤ 16 := by omega
  have b4 : (L : Int) ≤ 19 := by omega
  have b5 : (h : Int) < (L : Int) := by omega
  clear hW hK hB hs hh h1 h2 h3 hL eL hk hO
  go_enter Try.func43, Try.ntmps43
  go_wp2_with fail
  rw [← HW.out.1, ← HW.out.2.1]
  refine HS.out.mono ?_
  rintro e w1 ⟨rfl, hk⟩
  have hmk := run_make_words (w := w1) L (by omega)
  obtain ⟨G, hG⟩ : ∃ G, G = w1.heap.size := ⟨_, rfl⟩
  obtain ⟨W1, hW1⟩ : ∃ W1, W1 = w1.alloc (.cells (wvs (List.replicate L 0)).toArray 34) := ⟨_, rfl⟩
  rw [← hW1, ← hG] at hmk
  have HM : Hid (_ = _) := hmk
  have hKa : Keeps (fun _ => False) W w1 := hk
  have HI : Hid (Keeps (fun _ => False) w W1 ∧ Blk W1 O [.int .i64 p, .int .i64 (h : Int), .int .i64 (n : Int)] 69 ∧ Blk W1 G (wvs (mkd h n 0)) 34 ∧ w.heap.size ≤ G ∧ ¬ O = G) := by
    have q1 := HW.out.2.2.2.kept hk fun e => e
    have q2 := q1.lt
    refine ⟨?_, ?_, ?_, ?_, by omega⟩
    · rw [hW1]; exact (HW.out.2.2.1.trans hk fun _ _ e => e).alloc _
    · rw [hW1]; exact q1.alloc _
    · have e0 : mkd h n 0 = List.replicate L 0 := by unfold mkd; rw [HP.out.2.2.2.2.2]; simp
      rw [hW1, hG, e0]; exact Blk.new w1 (wvs (List.replicate L 0)).toArray 34
    · have := HW.out.2.2.1.size; have := hk.size; omega
  clear hk hmk hG hW1 hKa HS
  go_wp2_with (at_make; refine wpList_make_run rfl _ _ 22 rfl (.int .i64 L) (.int .i64 L) (.slice (some ⟨G, 0, none⟩) L L) W1 rfl rfl HM.out ?_; refine Hid.out ?_)
  unfold Hid
  obtain ⟨d0, hd0⟩ : ∃ d, d = W1.cell? ⟨O, 1, none⟩ := ⟨_, rfl⟩
  have d1 := HI.out.2.1.cell (i := 1) rfl
  clear HM hd0
  go_wp2
  go_loopw [13] (fun i wr => ∃ j : Nat, j ≤ h - 1 ∧ i = .int .i64 j ∧ Keeps (fun _ => False) w wr ∧ Blk wr O [.int .i64 p, .int .i64 (h : Int), .int .i64 (n : Int)] 69 ∧ Blk wr G (wvs (mkd h n j)) 34) (fun i _ => h - 1 - (intOf i).toNat)
  case atStart => exact ⟨0, by omega, rfl, HI.out.1, HI.out.2.1, HI.out.2.2.1⟩
  case round =>
    obtain ⟨j, hj, rfl, hK, hO, hB⟩ := hrel
    by_cases hlt : j < h - 1
    · have hlt' : (j : Int) < (h : Int) - 1 := by omega
      have hjl : j < (mkd h n j).length := by rw [mkd_length (by omega)]; omega
      have cj := hB.cell (wvs_get (mkd h n j) j hjl)
      have fj := hB.frozen j
      obtain ⟨x, hx⟩ : ∃ x : Nat, x = ((mkd h n j)[j]'hjl).toNat := ⟨_, rfl⟩
      rw [← hx] at cj
      have HR : Hid (Keeps (fun _ => False) w (wr.setCell ⟨G, j, none⟩ (.int .u32 1)) ∧ Blk (wr.setCell ⟨G, j, none⟩ (.int .u32 1)) O [.int .i64 p, .int .i64 (h : Int), .int .i64 (n : Int)] 69 ∧ Blk (wr.setCell ⟨G, j, none⟩ (.int .u32 1)) G (wvs (mkd h n (j + 1))) 34) := by
        refine ⟨hK.setCell _ _ fun hh => by have := HI.out.2.2.2.1; have : G < w.heap.size := hh; omega, hO.setCell_ne HI.out.2.2.2.2 _, ?_⟩
        rw [← mkd_set (by omega), wvs_setm]
        exact hB.setCell j _
      clear hK hO hB hx hjl d1
      go_wp2
      go_roundw
      case rel => exact ⟨j + 1, by omega, by go_num, HR.out⟩
      case measure => simp [intOf]; omega
    · obtain rfl : j = h - 1 := by omega
      have e1 : ((h - 1 : Nat) : Int) = (h : Int) - 1 := by omega
      have ex : ((h : Int) - 1).toNat = h - 1 := by omega
      have d1 := hO.cell (i := 1) rfl
      have hjl : h - 1 < (mkd h n (h - 1)).length := by rw [mkd_length (by omega)]; omega
      have cj := hB.cell (wvs_get (mkd h n (h - 1)) (h - 1) hjl)
      have fj := hB.frozen (h - 1)
      obtain ⟨x, hx⟩ : ∃ x : Nat, x = ((mkd h n (h - 1))[h - 1]'hjl).toNat := ⟨_, rfl⟩
      rw [← hx] at cj
      obtain ⟨W2, hW2⟩ : ∃ W2, W2 = wr.setCell ⟨G, h - 1, none⟩ (.int .u32 (k : Int)) := ⟨_, rfl⟩
      have hk32 : (k : Int) = ((UInt32.ofNat ms.length).toNat : Int) := by rw [HKk.out, UInt32.toNat_ofNat']; have := HKk.out; omega
      have hK2 : Keeps (fun _ => False) w W2 := by rw [hW2]; exact hK.setCell _ _ fun hh => by have := HI.out.2.2.2.1; have : G < w.heap.size := hh; omega
      have hB2 : Blk W2 G (wvs ((mkd h n (h - 1)).set (h - 1) (UInt32.ofNat ms.length))) 34 := by
        rw [wvs_setm, hW2, ← hk32]
        exact hB.setCell _ _
      have d2 : W2.cell? ⟨O, 1, none⟩ = some (.int .i64 (h : Int)) := by rw [hW2]; exact (hO.setCell_ne HI.out.2.2.2.2 _).cell rfl
      have hml : ms.length ≤ n := HP.out.2.2.2.1
      have hlen2 : ((mkd h n (h - 1)).set (h - 1) (UInt32.ofNat ms.length)).length = h + n := by rw [List.length_set, mkd_length (by omega)]
      rcases HP.out.1.kept hK2 (fun _ _ e => e) with h0 | ⟨gm, om, rfl, hcm⟩
      · have := HP.out.2.2.1; rw [h0] at this; simp at this
      have hcp := fun ty => run_copy_ws (w := W2) ty G h (L - h) (L - h) _ 34 hB2 gm om k c ms (.inr ⟨gm, om, rfl, hcm⟩) (by rw [HKk.out]; exact (Nat.min_eq_left (by have := HP.out.2.2.2.2.2; omega)).symm) (by rw [wvs_length, hlen2]; omega)
      have hfin : ∀ W3, W3 = W2.setRow G ((wvs ((mkd h n (h - 1)).set (h - 1) (UInt32.ofNat ms.length))).take h ++ wvs ms ++ (wvs ((mkd h n (h - 1)).set (h - 1) (UInt32.ofNat ms.length))).drop (h + ms.length)).toArray → Blk W3 G (wvs (fillW h n ms)) 34 ∧ Keeps (fun _ => False) w W3 := by
        intro W3 hW3
        rw [hW3]
        refine ⟨?_, hK2.setRow _ _ fun hh => by have := HI.out.2.2.2.1; omega⟩
        rw [← mkd_fill ms (by omega) hml, wvs_append, wvs_append, wvs_take, wvs_drop]
        exact hB2.setRow _
      obtain ⟨W3, hW3⟩ : ∃ W3, W3 = W2.setRow G ((wvs ((mkd h n (h - 1)).set (h - 1) (UInt32.ofNat ms.length))).take h ++ wvs ms ++ (wvs ((mkd h n (h - 1)).set (h - 1) (UInt32.ofNat ms.length))).drop (h + ms.length)).toArray := ⟨_, rfl⟩
      have HF : Hid (Blk W3 G (wvs (fillW h n ms)) 34 ∧ Keeps (fun _ => False) w W3 ∧ w.heap.size ≤ G) := ⟨(hfin W3 hW3).1, (hfin W3 hW3).2, HI.out.2.2.2.1⟩
      rw [← hW3, ← HKk.out] at hcp
      have HC : Hid (∀ ty, (Builtin.copy_ #[22, 22] ty #[.slice (some ⟨G, h, none⟩) (L - h) (L - h), .slice (some ⟨gm, om, none⟩) k c]).run Try.prog W2 = .ok (goInt k) W3) := hcp
      have HW2 : Hid (W2 = _) := hW2
      have q2 : (h : Int) ≤ (L : Int) := by omega
      have q3 : ¬ L = h := by omega
      have d2' : (wr.setCell ⟨G, h - 1, none⟩ (.int .u32 (k : Int))).cell? ⟨O, 1, none⟩ = some (.int .i64 (h : Int)) := by rw [← hW2]; exact d2
      clear hK hO hB hx hjl hW2 hk32 hK2 hB2 d2 hml hlen2 hcm hcp hfin hW3 hlt hj
      go_wp2_with (refine isCopy (.tmp 31) (.tmp 32) 22 22 rfl ?_; go_must (rw [← HW2.out]; refine wpList_copy_run rfl (.tmp 31) (.tmp 32) 22 22 rfl (.slice (some ⟨G, h, none⟩) (L - h) (L - h)) (.slice (some ⟨gm, om, none⟩) k c) (goInt k) W3 rfl rfl HC.out ?_))
      go_ret
      exact ⟨G, HF.out.2.2, rfl, HF.out.1, HF.out.2.1⟩

end Go.Proofs.Ytfcgpjojjehkiaa
