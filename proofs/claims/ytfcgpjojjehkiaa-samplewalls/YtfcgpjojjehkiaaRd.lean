import Derived.Test.YtfcgpjojjehkiaaRb
namespace Go.Proofs.Ytfcgpjojjehkiaa
open Go.RowKit
set_option linter.unusedVariables false

abbrev hldv (T F : Bool) (v : Value) : Value := .agg #[.bool T, .bool F, v]
/-- The words ahead of the length. -/
def hdP (h : Nat) (F : Bool) : List UInt32 := if h = 3 then [1, if F then 1 else 0] else [1]
/-- What stands in so many words for what is held. -/
def hdW (h n : Nat) (T F : Bool) (ms : List UInt32) : List UInt32 := if T then hdP h F ++ UInt32.ofNat ms.length :: (ms ++ List.replicate (n - ms.length) 0) else List.replicate (h + n) 0
theorem hdW_length {h n : Nat} {T F : Bool} {ms : List UInt32} (hh : h = 2 ∨ h = 3) (hl : ms.length ≤ n) : (hdW h n T F ms).length = h + n := by
  unfold hdW
  cases T
  · simp
  · rcases hh with rfl | rfl
    · simp [hdP]; omega
    · simp [hdP]; omega

theorem held_new (w : World) (T F : Bool) (v : Value) : ∃ W, W = w.alloc (.cells #[.bool T, .bool F, v] 83) ∧ Keeps (fun _ => False) w W ∧ Blk W w.heap.size [.bool T, .bool F, v] 83 :=
  ⟨_, rfl, (Keeps.refl _ w).alloc _, Blk.new w _ 83⟩
/-- Behind words. -/
def WdP (w : World) (l : List UInt32) (e : Ending) (w' : World) : Prop :=
  ∃ G, w.heap.size ≤ G ∧ e = .returned (.slice (some ⟨G, 0, none⟩) l.length l.length) ∧ Blk w' G (wvs l) 34 ∧ Keeps (fun _ => False) w w'

set_option maxRecDepth 20000 in
set_option maxHeartbeats 1000000 in
theorem words_none (h n : Nat) (F : Bool) (v : Value) (w : World) (hh : h = 2 ∨ h = 3) (hn : n ≤ 16) :
    Calls Try.prog 51 #[hldv false F v, .int .i64 h, .int .i64 n] w (WdP w (List.replicate (h + n) 0)) := by
  obtain ⟨W, hW, hK, hB⟩ := held_new w false F v
  have hmk := run_make_words (w := W) (h + n) (by omega)
  obtain ⟨W1, hW1⟩ : ∃ W1, W1 = W.alloc (.cells (wvs (List.replicate (h + n) 0)).toArray 34) := ⟨_, rfl⟩
  obtain ⟨G, hG⟩ : ∃ G, G = W.heap.size := ⟨_, rfl⟩
  have hK1 : Keeps (fun _ => False) W W1 := by rw [hW1]; exact (Keeps.refl _ W).alloc _
  have hB1 : Blk W1 G (wvs (List.replicate (h + n) 0)) 34 := by rw [hW1, hG]; exact Blk.new W _ 34
  have d0 := (hB.kept hK1 fun e => e).cell (i := 0) rfl
  obtain ⟨O, hO⟩ : ∃ O, O = w.heap.size := ⟨_, rfl⟩
  rw [← hO] at d0
  rw [← hW1, ← hG] at hmk
  unfold WdP
  rw [List.length_replicate]
  have HF : Hid (w.heap.size ≤ G ∧ Blk W1 G (wvs (List.replicate (h + n) 0)) 34 ∧ Keeps (fun _ => False) w W1) := ⟨by rw [hG]; exact hK.size, hB1, hK.trans hK1 fun _ _ e => e⟩
  obtain ⟨M, hM⟩ : ∃ M, M = h + n := ⟨_, rfl⟩
  rw [← hM] at hmk HF ⊢
  have e1 : (h : Int) + (n : Int) = (M : Int) := by omega
  have e2 : (M : Int) ≤ 100 := by omega
  have HM : Hid (_ = _) := hmk
  have HW : Hid (W = _ ∧ O = w.heap.size) := ⟨hW, hO⟩
  clear hW hK hB hmk hW1 hG hK1 hB1 hO hM hh hn
  go_enter Try.func51, Try.ntmps51
  go_wp2_with (at_make; rw [← HW.out.1]; refine wpList_make_run rfl _ _ 22 rfl (.int .i64 M) (.int .i64 M) (.slice (some ⟨G, 0, none⟩) M M) W1 rfl rfl HM.out ?_; rw [← HW.out.2]; refine Hid.out ?_)
  unfold Hid
  go_wp2
  go_ret
  exact ⟨G, HF.out.1, rfl, HF.out.2⟩

set_option maxRecDepth 20000 in
set_option maxHeartbeats 2000000 in
theorem words_some2 (n : Nat) (F : Bool) (a : Option Addr) (c : Nat) (ms : List UInt32) (w : World) (hs : SegW w a ms) (h1 : 1 ≤ ms.length) (h2 : ms.length ≤ n) (hn : n ≤ 16) :
    Calls Try.prog 51 #[hldv true F (.slice a ms.length c), .int .i64 2, .int .i64 n] w (WdP w (hdW 2 n true F ms)) := by
  obtain ⟨W, hW, hK, hB⟩ := held_new w true F (.slice a ms.length c)
  have hmk := run_make_words (w := W) (2 + n) (by omega)
  obtain ⟨W1, hW1⟩ : ∃ W1, W1 = W.alloc (.cells (wvs (List.replicate (2 + n) 0)).toArray 34) := ⟨_, rfl⟩
  obtain ⟨G, hG⟩ : ∃ G, G = W.heap.size := ⟨_, rfl⟩
  have hK1 : Keeps (fun _ => False) W W1 := by rw [hW1]; exact (Keeps.refl _ W).alloc _
  have hB1 : Blk W1 G (wvs (List.replicate (2 + n) 0)) 34 := by rw [hW1, hG]; exact Blk.new W _ 34
  have e0 : List.replicate (2 + n) (0 : UInt32) = 0 :: 0 :: List.replicate n 0 := by rw [Nat.add_comm 2 n]; rfl
  rw [e0] at hB1
  obtain ⟨O, hO⟩ : ∃ O, O = w.heap.size := ⟨_, rfl⟩
  have hBo := hB.kept hK1 fun e => e
  rw [← hO] at hBo
  have hOG : ¬ O = G := by have := hB.lt; omega
  obtain ⟨k, hk⟩ : ∃ k, k = ms.length := ⟨_, rfl⟩
  have hk32 : (k : Int) = ((UInt32.ofNat ms.length).toNat : Int) := by rw [hk, UInt32.toNat_ofNat']; omega
  have x1 := hB1.setCell 0 (.int .u32 1)
  have o1 := hBo.setCell_ne (a := ⟨G, 0, none⟩) hOG (.int .u32 1)
  have x2 := x1
  have o2 := o1
  have x3 := x2.setCell 1 (.int .u32 (k : Int))
  have o3 := o2.setCell_ne (a := ⟨G, 1, none⟩) hOG (.int .u32 (k : Int))
  have e3 : ((wvs (0 :: 0 :: List.replicate n 0)).set 0 (.int .u32 1)).set 1 (.int .u32 (k : Int)) = wvs (hdP 2 F ++ UInt32.ofNat ms.length :: (ms.take 0 ++ List.replicate (n - 0) 0)) := by rw [hk32]; rfl
  rw [e3] at x3
  have c0 := hB1.cell (i := 0) rfl
  have f0 := hB1.frozen 0
  have d0 := hBo.cell (i := 0) rfl
  have d1 := o1.cell (i := 1) rfl

  have c2 := x2.cell (i := 1) rfl
  have f2 := x2.frozen 1
  have d2 := o2.cell (i := 2) rfl
  have d3 := o3.cell (i := 2) rfl
  have k1 : Keeps (fun _ => False) w W1 := hK.trans hK1 fun _ _ e => e
  have hGw : w.heap.size ≤ G := by rw [hG]; exact hK.size
  have k3 : Keeps (fun _ => False) w ((W1.setCell ⟨G, 0, none⟩ (.int .u32 1)).setCell ⟨G, 1, none⟩ (.int .u32 (k : Int))) := (k1.setCell ⟨G, 0, none⟩ (.int .u32 1) fun hh => by have : G < w.heap.size := hh; omega).setCell _ _ fun hh => by have : G < w.heap.size := hh; omega
  obtain ⟨W3, hW3⟩ : ∃ W3, W3 = (W1.setCell ⟨G, 0, none⟩ (.int .u32 1)).setCell ⟨G, 1, none⟩ (.int .u32 (k : Int)) := ⟨_, rfl⟩
  rw [← hk] at o3
  rw [← hW3] at x3 k3 o3
  have HI : Hid (Blk W3 G (wvs (hdP 2 F ++ UInt32.ofNat ms.length :: (ms.take 0 ++ List.replicate (n - 0) 0))) 34 ∧ Blk W3 O [.bool true, .bool F, .slice a k c] 83 ∧ Keeps (fun _ => False) w W3) := ⟨x3, o3, k3⟩
  have HW3 : Hid (W3 = _) := hW3
  have HP : Hid (SegW w a ms ∧ w.heap.size ≤ G ∧ ¬ O = G ∧ k = ms.length ∧ ms.length ≤ n) := ⟨hs, hGw, hOG, hk, h2⟩
  rw [← hW1, ← hG] at hmk
  have hlen : (hdW 2 n true F ms).length = 2 + n := hdW_length (by omega) h2
  unfold WdP
  rw [hlen]
  rw [← hk] at d2 d3 hW ⊢
  have b1 : (n : Int) ≤ 16 := by omega
  have b2 : (k : Int) ≤ n := by omega
  have b3 : 1 ≤ (k : Int) := by omega
  obtain ⟨M, hM⟩ : ∃ M, M = 2 + n := ⟨_, rfl⟩
  rw [← hM] at hmk ⊢
  have e1 : (2 : Int) + (n : Int) = (M : Int) := by omega
  have e2 : (M : Int) ≤ 100 := by omega
  have HM : Hid (_ = _) := hmk
  have HW : Hid (W = _ ∧ O = w.heap.size) := ⟨hW, hO⟩
  have HMM : Hid (M = 2 + n) := hM
  clear hW hK hB hmk hW1 hG hK1 hB1 hO hM hn hBo x1 o1 x2 o2 x3 o3 k1 k3 hW3 hs h1 h2 hk hk32 hGw hOG e0 e3 hlen
  go_enter Try.func51, Try.ntmps51
  go_wp2_with (at_make; rw [← HW.out.1]; refine wpList_make_run rfl _ _ 22 rfl (.int .i64 M) (.int .i64 M) (.slice (some ⟨G, 0, none⟩) M M) W1 rfl rfl HM.out ?_; rw [← HW.out.2]; refine Hid.out ?_)
  unfold Hid
  have bM : (2 : Int) < (M : Int) := by omega
  clear HM e1
  go_wp2
  rw [← HW3.out]
  clear c0 f0 d0 d1 c2 f2 d2 d3
  go_loopw [38] (fun i wr => ∃ j : Nat, j ≤ k ∧ i = .int .i64 j ∧ Blk wr G (wvs (hdP 2 F ++ UInt32.ofNat ms.length :: (ms.take j ++ List.replicate (n - j) 0))) 34 ∧ Blk wr O [.bool true, .bool F, .slice a k c] 83 ∧ Keeps (fun _ => False) w wr) (fun i _ => k - (intOf i).toNat)
  case atStart => exact ⟨0, by omega, rfl, HI.out⟩
  case round =>
    obtain ⟨j, hj, rfl, hB, hO, hK⟩ := hrel
    by_cases hlt : j < k
    · have hlt' : (j : Int) < k := by omega
      have hjm : j < ms.length := by have := HP.out.2.2.2.1; omega
      have hmn := HP.out.2.2.2.2
      rcases HP.out.1.kept hK (fun _ _ e => e) with h0 | ⟨gm, om, rfl, hcm⟩
      · rw [h0] at hjm; simp at hjm
      have cy := hcm j hjm
      have d2 := hO.cell (i := 2) rfl
      have el : (hdP 2 F ++ UInt32.ofNat ms.length :: (ms.take j ++ List.replicate (n - j) 0)).length = 2 + n := by simp [hdP]; omega
      have cu := hB.cell (wvs_get _ (2 + j) (by rw [el]; omega))
      have fu := hB.frozen (2 + j)
      obtain ⟨u, hu⟩ : ∃ u : Nat, u = ((hdP 2 F ++ UInt32.ofNat ms.length :: (ms.take j ++ List.replicate (n - j) (0 : UInt32)))[2 + j]'(by rw [el]; omega)).toNat := ⟨_, rfl⟩
      rw [← hu] at cu
      have HR : Hid (Blk (wr.setCell ⟨G, 2 + j, none⟩ (.int .u32 ((ms[j]'hjm).toNat : Int))) G (wvs (hdP 2 F ++ UInt32.ofNat ms.length :: (ms.take (j + 1) ++ List.replicate (n - (j + 1)) 0))) 34 ∧ Blk (wr.setCell ⟨G, 2 + j, none⟩ (.int .u32 ((ms[j]'hjm).toNat : Int))) O [.bool true, .bool F, .slice (some ⟨gm, om, none⟩) k c] 83 ∧ Keeps (fun _ => False) w (wr.setCell ⟨G, 2 + j, none⟩ (.int .u32 ((ms[j]'hjm).toNat : Int)))) := by
        refine ⟨?_, hO.setCell_ne HP.out.2.2.1 _, hK.setCell _ _ fun hh => by have := HP.out.2.1; have : G < w.heap.size := hh; omega⟩
        have e : hdP 2 F ++ UInt32.ofNat ms.length :: (ms.take (j + 1) ++ List.replicate (n - (j + 1)) 0) = (hdP 2 F ++ UInt32.ofNat ms.length :: (ms.take j ++ List.replicate (n - j) 0)).set (2 + j) (ms[j]'hjm) := by
          have ht : (ms.take j).length = j := by simp; omega
          have hp : (hdP 2 F).length = 1 := rfl
          rw [List.set_append_right _ _ (by omega), hp, show 2 + j - 1 = j + 1 by omega, List.set_cons_succ, List.set_append_right _ _ (by omega), ht, Nat.sub_self, show n - j = (n - (j + 1)) + 1 by omega, List.replicate_succ, List.set_cons_zero, List.take_add_one, List.getElem?_eq_getElem hjm, List.append_assoc]
          rfl
        rw [e, wvs_setm]
        exact hB.setCell _ _
      obtain ⟨x, hx⟩ : ∃ x : Nat, x = (ms[j]'hjm).toNat := ⟨_, rfl⟩
      rw [← hx] at cy HR
      have q1 : (2 : Int) + (j : Int) < M := by have := HMM.out; omega
      clear hj hB hO hK hjm hmn hcm el hu hx
      go_wp2
      go_roundw
      case rel => exact ⟨j + 1, by omega, by go_num, HR.out⟩
      case measure => simp [intOf]; omega
    · obtain rfl : j = k := by omega
      have HF : Hid (Blk wr G (wvs (hdW 2 n true F ms)) 34 ∧ Keeps (fun _ => False) w wr) := by
        have hk := HP.out.2.2.2.1
        rw [List.take_of_length_le (by omega), hk] at hB
        exact ⟨hB, hK⟩
      clear hB hO hK hj hlt
      go_wp2
      go_ret
      exact ⟨G, HP.out.2.1, rfl, HF.out⟩

set_option maxRecDepth 20000 in
set_option maxHeartbeats 2000000 in
theorem words_some3t (n : Nat) (a : Option Addr) (c : Nat) (ms : List UInt32) (w : World) (hs : SegW w a ms) (h1 : 1 ≤ ms.length) (h2 : ms.length ≤ n) (hn : n ≤ 16) :
    Calls Try.prog 51 #[hldv true true (.slice a ms.length c), .int .i64 3, .int .i64 n] w (WdP w (hdW 3 n true true ms)) := by
  obtain ⟨W, hW, hK, hB⟩ := held_new w true true (.slice a ms.length c)
  have hmk := run_make_words (w := W) (3 + n) (by omega)
  obtain ⟨W1, hW1⟩ : ∃ W1, W1 = W.alloc (.cells (wvs (List.replicate (3 + n) 0)).toArray 34) := ⟨_, rfl⟩
  obtain ⟨G, hG⟩ : ∃ G, G = W.heap.size := ⟨_, rfl⟩
  have hK1 : Keeps (fun _ => False) W W1 := by rw [hW1]; exact (Keeps.refl _ W).alloc _
  have hB1 : Blk W1 G (wvs (List.replicate (3 + n) 0)) 34 := by rw [hW1, hG]; exact Blk.new W _ 34
  have e0 : List.replicate (3 + n) (0 : UInt32) = 0 :: 0 :: 0 :: List.replicate n 0 := by rw [Nat.add_comm 3 n]; rfl
  rw [e0] at hB1
  obtain ⟨O, hO⟩ : ∃ O, O = w.heap.size := ⟨_, rfl⟩
  have hBo := hB.kept hK1 fun e => e
  rw [← hO] at hBo
  have hOG : ¬ O = G := by have := hB.lt; omega
  obtain ⟨k, hk⟩ : ∃ k, k = ms.length := ⟨_, rfl⟩
  have hk32 : (k : Int) = ((UInt32.ofNat ms.length).toNat : Int) := by rw [hk, UInt32.toNat_ofNat']; omega
  have x1 := hB1.setCell 0 (.int .u32 1)
  have o1 := hBo.setCell_ne (a := ⟨G, 0, none⟩) hOG (.int .u32 1)
  have x2 := x1.setCell 1 (.int .u32 1)
  have o2 := o1.setCell_ne (a := ⟨G, 1, none⟩) hOG (.int .u32 1)
  have x3 := x2.setCell 2 (.int .u32 (k : Int))
  have o3 := o2.setCell_ne (a := ⟨G, 2, none⟩) hOG (.int .u32 (k : Int))
  have e3 : (((wvs (0 :: 0 :: 0 :: List.replicate n 0)).set 0 (.int .u32 1)).set 1 (.int .u32 1)).set 2 (.int .u32 (k : Int)) = wvs (hdP 3 true ++ UInt32.ofNat ms.length :: (ms.take 0 ++ List.replicate (n - 0) 0)) := by rw [hk32]; rfl
  rw [e3] at x3
  have c0 := hB1.cell (i := 0) rfl
  have f0 := hB1.frozen 0
  have d0 := hBo.cell (i := 0) rfl
  have d1 := o1.cell (i := 1) rfl
  have cx := x1.cell (i := 1) rfl
  have fx := x1.frozen 1
  have c2 := x2.cell (i := 2) rfl
  have f2 := x2.frozen 2
  have d2 := o2.cell (i := 2) rfl
  have d3 := o3.cell (i := 2) rfl
  have k1 : Keeps (fun _ => False) w W1 := hK.trans hK1 fun _ _ e => e
  have hGw : w.heap.size ≤ G := by rw [hG]; exact hK.size
  have k3 : Keeps (fun _ => False) w (((W1.setCell ⟨G, 0, none⟩ (.int .u32 1)).setCell ⟨G, 1, none⟩ (.int .u32 1)).setCell ⟨G, 2, none⟩ (.int .u32 (k : Int))) := ((k1.setCell ⟨G, 0, none⟩ (.int .u32 1) fun hh => by have : G < w.heap.size := hh; omega).setCell ⟨G, 1, none⟩ (.int .u32 1) fun hh => by have : G < w.heap.size := hh; omega).setCell _ _ fun hh => by have : G < w.heap.size := hh; omega
  obtain ⟨W3, hW3⟩ : ∃ W3, W3 = ((W1.setCell ⟨G, 0, none⟩ (.int .u32 1)).setCell ⟨G, 1, none⟩ (.int .u32 1)).setCell ⟨G, 2, none⟩ (.int .u32 (k : Int)) := ⟨_, rfl⟩
  rw [← hk] at o3
  rw [← hW3] at x3 k3 o3
  have HI : Hid (Blk W3 G (wvs (hdP 3 true ++ UInt32.ofNat ms.length :: (ms.take 0 ++ List.replicate (n - 0) 0))) 34 ∧ Blk W3 O [.bool true, .bool true, .slice a k c] 83 ∧ Keeps (fun _ => False) w W3) := ⟨x3, o3, k3⟩
  have HW3 : Hid (W3 = _) := hW3
  have HP : Hid (SegW w a ms ∧ w.heap.size ≤ G ∧ ¬ O = G ∧ k = ms.length ∧ ms.length ≤ n) := ⟨hs, hGw, hOG, hk, h2⟩
  rw [← hW1, ← hG] at hmk
  have hlen : (hdW 3 n true true ms).length = 3 + n := hdW_length (by omega) h2
  unfold WdP
  rw [hlen]
  rw [← hk] at d2 d3 hW ⊢
  have b1 : (n : Int) ≤ 16 := by omega
  have b2 : (k : Int) ≤ n := by omega
  have b3 : 1 ≤ (k : Int) := by omega
  obtain ⟨M, hM⟩ : ∃ M, M = 3 + n := ⟨_, rfl⟩
  rw [← hM] at hmk ⊢
  have e1 : (3 : Int) + (n : Int) = (M : Int) := by omega
  have e2 : (M : Int) ≤ 100 := by omega
  have HM : Hid (_ = _) := hmk
  have HW : Hid (W = _ ∧ O = w.heap.size) := ⟨hW, hO⟩
  have HMM : Hid (M = 3 + n) := hM
  clear hW hK hB hmk hW1 hG hK1 hB1 hO hM hn hBo x1 o1 x2 o2 x3 o3 k1 k3 hW3 hs h1 h2 hk hk32 hGw hOG e0 e3 hlen
  go_enter Try.func51, Try.ntmps51
  go_wp2_with (at_make; rw [← HW.out.1]; refine wpList_make_run rfl _ _ 22 rfl (.int .i64 M) (.int .i64 M) (.slice (some ⟨G, 0, none⟩) M M) W1 rfl rfl HM.out ?_; rw [← HW.out.2]; refine Hid.out ?_)
  unfold Hid
  have bM : (3 : Int) < (M : Int) := by omega
  clear HM e1
  go_wp2
  rw [← HW3.out]
  clear c0 f0 d0 d1 c2 f2 d2 d3 cx fx
  go_loopw [38] (fun i wr => ∃ j : Nat, j ≤ k ∧ i = .int .i64 j ∧ Blk wr G (wvs (hdP 3 true ++ UInt32.ofNat ms.length :: (ms.take j ++ List.replicate (n - j) 0))) 34 ∧ Blk wr O [.bool true, .bool true, .slice a k c] 83 ∧ Keeps (fun _ => False) w wr) (fun i _ => k - (intOf i).toNat)
  case atStart => exact ⟨0, by omega, rfl, HI.out⟩
  case round =>
    obtain ⟨j, hj, rfl, hB, hO, hK⟩ := hrel
    by_cases hlt : j < k
    · have hlt' : (j : Int) < k := by omega
      have hjm : j < ms.length := by have := HP.out.2.2.2.1; omega
      have hmn := HP.out.2.2.2.2
      rcases HP.out.1.kept hK (fun _ _ e => e) with h0 | ⟨gm, om, rfl, hcm⟩
      · rw [h0] at hjm; simp at hjm
      have cy := hcm j hjm
      have d2 := hO.cell (i := 2) rfl
      have el : (hdP 3 true ++ UInt32.ofNat ms.length :: (ms.take j ++ List.replicate (n - j) 0)).length = 3 + n := by simp [hdP]; omega
      have cu := hB.cell (wvs_get _ (3 + j) (by rw [el]; omega))
      have fu := hB.frozen (3 + j)
      obtain ⟨u, hu⟩ : ∃ u : Nat, u = ((hdP 3 true ++ UInt32.ofNat ms.length :: (ms.take j ++ List.replicate (n - j) (0 : UInt32)))[3 + j]'(by rw [el]; omega)).toNat := ⟨_, rfl⟩
      rw [← hu] at cu
      have HR : Hid (Blk (wr.setCell ⟨G, 3 + j, none⟩ (.int .u32 ((ms[j]'hjm).toNat : Int))) G (wvs (hdP 3 true ++ UInt32.ofNat ms.length :: (ms.take (j + 1) ++ List.replicate (n - (j + 1)) 0))) 34 ∧ Blk (wr.setCell ⟨G, 3 + j, none⟩ (.int .u32 ((ms[j]'hjm).toNat : Int))) O [.bool true, .bool true, .slice (some ⟨gm, om, none⟩) k c] 83 ∧ Keeps (fun _ => False) w (wr.setCell ⟨G, 3 + j, none⟩ (.int .u32 ((ms[j]'hjm).toNat : Int)))) := by
        refine ⟨?_, hO.setCell_ne HP.out.2.2.1 _, hK.setCell _ _ fun hh => by have := HP.out.2.1; have : G < w.heap.size := hh; omega⟩
        have e : hdP 3 true ++ UInt32.ofNat ms.length :: (ms.take (j + 1) ++ List.replicate (n - (j + 1)) 0) = (hdP 3 true ++ UInt32.ofNat ms.length :: (ms.take j ++ List.replicate (n - j) 0)).set (3 + j) (ms[j]'hjm) := by
          have ht : (ms.take j).length = j := by simp; omega
          have hp : (hdP 3 true).length = 2 := rfl
          rw [List.set_append_right _ _ (by omega), hp, show 3 + j - 2 = j + 1 by omega, List.set_cons_succ, List.set_append_right _ _ (by omega), ht, Nat.sub_self, show n - j = (n - (j + 1)) + 1 by omega, List.replicate_succ, List.set_cons_zero, List.take_add_one, List.getElem?_eq_getElem hjm, List.append_assoc]
          rfl
        rw [e, wvs_setm]
        exact hB.setCell _ _
      obtain ⟨x, hx⟩ : ∃ x : Nat, x = (ms[j]'hjm).toNat := ⟨_, rfl⟩
      rw [← hx] at cy HR
      have q1 : (3 : Int) + (j : Int) < M := by have := HMM.out; omega
      clear hj hB hO hK hjm hmn hcm el hu hx
      go_wp2
      go_roundw
      case rel => exact ⟨j + 1, by omega, by go_num, HR.out⟩
      case measure => simp [intOf]; omega
    · obtain rfl : j = k := by omega
      have HF : Hid (Blk wr G (wvs (hdW 3 n true true ms)) 34 ∧ Keeps (fun _ => False) w wr) := by
        have hk := HP.out.2.2.2.1
        rw [List.take_of_length_le (by omega), hk] at hB
        exact ⟨hB, hK⟩
      clear hB hO hK hj hlt
      go_wp2
      go_ret
      exact ⟨G, HP.out.2.1, rfl, HF.out⟩

set_option maxRecDepth 20000 in
set_option maxHeartbeats 2000000 in
theorem words_some3f (n : Nat) (a : Option Addr) (c : Nat) (ms : List UInt32) (w : World) (hs : SegW w a ms) (h1 : 1 ≤ ms.length) (h2 : ms.length ≤ n) (hn : n ≤ 16) :
    Calls Try.prog 51 #[hldv true false (.slice a ms.length c), .int .i64 3, .int .i64 n] w (WdP w (hdW 3 n true false ms)) := by
  obtain ⟨W, hW, hK, hB⟩ := held_new w true false (.slice a ms.length c)
  have hmk := run_make_words (w := W) (3 + n) (by omega)
  obtain ⟨W1, hW1⟩ : ∃ W1, W1 = W.alloc (.cells (wvs (List.replicate (3 + n) 0)).toArray 34) := ⟨_, rfl⟩
  obtain ⟨G, hG⟩ : ∃ G, G = W.heap.size := ⟨_, rfl⟩
  have hK1 : Keeps (fun _ => False) W W1 := by rw [hW1]; exact (Keeps.refl _ W).alloc _
  have hB1 : Blk W1 G (wvs (List.replicate (3 + n) 0)) 34 := by rw [hW1, hG]; exact Blk.new W _ 34
  have e0 : List.replicate (3 + n) (0 : UInt32) = 0 :: 0 :: 0 :: List.replicate n 0 := by rw [Nat.add_comm 3 n]; rfl
  rw [e0] at hB1
  obtain ⟨O, hO⟩ : ∃ O, O = w.heap.size := ⟨_, rfl⟩
  have hBo := hB.kept hK1 fun e => e
  rw [← hO] at hBo
  have hOG : ¬ O = G := by have := hB.lt; omega
  obtain ⟨k, hk⟩ : ∃ k, k = ms.length := ⟨_, rfl⟩
  have hk32 : (k : Int) = ((UInt32.ofNat ms.length).toNat : Int) := by rw [hk, UInt32.toNat_ofNat']; omega
  have x1 := hB1.setCell 0 (.int .u32 1)
  have o1 := hBo.setCell_ne (a := ⟨G, 0, none⟩) hOG (.int .u32 1)
  have x2 := x1
  have o2 := o1
  have x3 := x2.setCell 2 (.int .u32 (k : Int))
  have o3 := o2.setCell_ne (a := ⟨G, 2, none⟩) hOG (.int .u32 (k : Int))
  have e3 : ((wvs (0 :: 0 :: 0 :: List.replicate n 0)).set 0 (.int .u32 1)).set 2 (.int .u32 (k : Int)) = wvs (hdP 3 false ++ UInt32.ofNat ms.length :: (ms.take 0 ++ List.replicate (n - 0) 0)) := by rw [hk32]; rfl
  rw [e3] at x3
  have c0 := hB1.cell (i := 0) rfl
  have f0 := hB1.frozen 0
  have d0 := hBo.cell (i := 0) rfl
  have d1 := o1.cell (i := 1) rfl

  have c2 := x2.cell (i := 2) rfl
  have f2 := x2.frozen 2
  have d2 := o2.cell (i := 2) rfl
  have d3 := o3.cell (i := 2) rfl
  have k1 : Keeps (fun _ => False) w W1 := hK.trans hK1 fun _ _ e => e
  have hGw : w.heap.size ≤ G := by rw [hG]; exact hK.size
  have k3 : Keeps (fun _ => False) w ((W1.setCell ⟨G, 0, none⟩ (.int .u32 1)).setCell ⟨G, 2, none⟩ (.int .u32 (k : Int))) := (k1.setCell ⟨G, 0, none⟩ (.int .u32 1) fun hh => by have : G < w.heap.size := hh; omega).setCell _ _ fun hh => by have : G < w.heap.size := hh; omega
  obtain ⟨W3, hW3⟩ : ∃ W3, W3 = (W1.setCell ⟨G, 0, none⟩ (.int .u32 1)).setCell ⟨G, 2, none⟩ (.int .u32 (k : Int)) := ⟨_, rfl⟩
  rw [← hk] at o3
  rw [← hW3] at x3 k3 o3
  have HI : Hid (Blk W3 G (wvs (hdP 3 false ++ UInt32.ofNat ms.length :: (ms.take 0 ++ List.replicate (n - 0) 0))) 34 ∧ Blk W3 O [.bool true, .bool false, .slice a k c] 83 ∧ Keeps (fun _ => False) w W3) := ⟨x3, o3, k3⟩
  have HW3 : Hid (W3 = _) := hW3
  have HP : Hid (SegW w a ms ∧ w.heap.size ≤ G ∧ ¬ O = G ∧ k = ms.length ∧ ms.length ≤ n) := ⟨hs, hGw, hOG, hk, h2⟩
  rw [← hW1, ← hG] at hmk
  have hlen : (hdW 3 n true false ms).length = 3 + n := hdW_length (by omega) h2
  unfold WdP
  rw [hlen]
  rw [← hk] at d2 d3 hW ⊢
  have b1 : (n : Int) ≤ 16 := by omega
  have b2 : (k : Int) ≤ n := by omega
  have b3 : 1 ≤ (k : Int) := by omega
  obtain ⟨M, hM⟩ : ∃ M, M = 3 + n := ⟨_, rfl⟩
  rw [← hM] at hmk ⊢
  have e1 : (3 : Int) + (n : Int) = (M : Int) := by omega
  have e2 : (M : Int) ≤ 100 := by omega
  have HM : Hid (_ = _) := hmk
  have HW : Hid (W = _ ∧ O = w.heap.size) := ⟨hW, hO⟩
  have HMM : Hid (M = 3 + n) := hM
  clear hW hK hB hmk hW1 hG hK1 hB1 hO hM hn hBo x1 o1 x2 o2 x3 o3 k1 k3 hW3 hs h1 h2 hk hk32 hGw hOG e0 e3 hlen
  go_enter Try.func51, Try.ntmps51
  go_wp2_with (at_make; rw [← HW.out.1]; refine wpList_make_run rfl _ _ 22 rfl (.int .i64 M) (.int .i64 M) (.slice (some ⟨G, 0, none⟩) M M) W1 rfl rfl HM.out ?_; rw [← HW.out.2]; refine Hid.out ?_)
  unfold Hid
  have bM : (3 : Int) < (M : Int) := by omega
  clear HM e1
  go_wp2
  rw [← HW3.out]
  clear c0 f0 d0 d1 c2 f2 d2 d3
  go_loopw [38] (fun i wr => ∃ j : Nat, j ≤ k ∧ i = .int .i64 j ∧ Blk wr G (wvs (hdP 3 false ++ UInt32.ofNat ms.length :: (ms.take j ++ List.replicate (n - j) 0))) 34 ∧ Blk wr O [.bool true, .bool false, .slice a k c] 83 ∧ Keeps (fun _ => False) w wr) (fun i _ => k - (intOf i).toNat)
  case atStart => exact ⟨0, by omega, rfl, HI.out⟩
  case round =>
    obtain ⟨j, hj, rfl, hB, hO, hK⟩ := hrel
    by_cases hlt : j < k
    · have hlt' : (j : Int) < k := by omega
      have hjm : j < ms.length := by have := HP.out.2.2.2.1; omega
      have hmn := HP.out.2.2.2.2
      rcases HP.out.1.kept hK (fun _ _ e => e) with h0 | ⟨gm, om, rfl, hcm⟩
      · rw [h0] at hjm; simp at hjm
      have cy := hcm j hjm
      have d2 := hO.cell (i := 2) rfl
      have el : (hdP 3 false ++ UInt32.ofNat ms.length :: (ms.take j ++ List.replicate (n - j) 0)).length = 3 + n := by simp [hdP]; omega
      have cu := hB.cell (wvs_get _ (3 + j) (by rw [el]; omega))
      have fu := hB.frozen (3 + j)
      obtain ⟨u, hu⟩ : ∃ u : Nat, u = ((hdP 3 false ++ UInt32.ofNat ms.length :: (ms.take j ++ List.replicate (n - j) (0 : UInt32)))[3 + j]'(by rw [el]; omega)).toNat := ⟨_, rfl⟩
      rw [← hu] at cu
      have HR : Hid (Blk (wr.setCell ⟨G, 3 + j, none⟩ (.int .u32 ((ms[j]'hjm).toNat : Int))) G (wvs (hdP 3 false ++ UInt32.ofNat ms.length :: (ms.take (j + 1) ++ List.replicate (n - (j + 1)) 0))) 34 ∧ Blk (wr.setCell ⟨G, 3 + j, none⟩ (.int .u32 ((ms[j]'hjm).toNat : Int))) O [.bool true, .bool false, .slice (some ⟨gm, om, none⟩) k c] 83 ∧ Keeps (fun _ => False) w (wr.setCell ⟨G, 3 + j, none⟩ (.int .u32 ((ms[j]'hjm).toNat : Int)))) := by
        refine ⟨?_, hO.setCell_ne HP.out.2.2.1 _, hK.setCell _ _ fun hh => by have := HP.out.2.1; have : G < w.heap.size := hh; omega⟩
        have e : hdP 3 false ++ UInt32.ofNat ms.length :: (ms.take (j + 1) ++ List.replicate (n - (j + 1)) 0) = (hdP 3 false ++ UInt32.ofNat ms.length :: (ms.take j ++ List.replicate (n - j) 0)).set (3 + j) (ms[j]'hjm) := by
          have ht : (ms.take j).length = j := by simp; omega
          have hp : (hdP 3 false).length = 2 := rfl
          rw [List.set_append_right _ _ (by omega), hp, show 3 + j - 2 = j + 1 by omega, List.set_cons_succ, List.set_append_right _ _ (by omega), ht, Nat.sub_self, show n - j = (n - (j + 1)) + 1 by omega, List.replicate_succ, List.set_cons_zero, List.take_add_one, List.getElem?_eq_getElem hjm, List.append_assoc]
          rfl
        rw [e, wvs_setm]
        exact hB.setCell _ _
      obtain ⟨x, hx⟩ : ∃ x : Nat, x = (ms[j]'hjm).toNat := ⟨_, rfl⟩
      rw [← hx] at cy HR
      have q1 : (3 : Int) + (j : Int) < M := by have := HMM.out; omega
      clear hj hB hO hK hjm hmn hcm el hu hx
      go_wp2
      go_roundw
      case rel => exact ⟨j + 1, by omega, by go_num, HR.out⟩
      case measure => simp [intOf]; omega
    · obtain rfl : j = k := by omega
      have HF : Hid (Blk wr G (wvs (hdW 3 n true false ms)) 34 ∧ Keeps (fun _ => False) w wr) := by
        have hk := HP.out.2.2.2.1
        rw [List.take_of_length_le (by omega), hk] at hB
        exact ⟨hB, hK⟩
      clear hB hO hK hj hlt
      go_wp2
      go_ret
      exact ⟨G, HP.out.2.1, rfl, HF.out⟩

theorem hwords_any (h n : Nat) (T F : Bool) (a : Option Addr) (c : Nat) (ms : List UInt32) (w : World) (hs : SegW w a ms) (hh : h = 2 ∨ h = 3) (h1 : T = true → 1 ≤ ms.length) (h2 : ms.length ≤ n) (hn : n ≤ 16) :
    Calls Try.prog 51 #[hldv T F (.slice a ms.length c), .int .i64 h, .int .i64 n] w (WdP w (hdW h n T F ms)) := by
  cases T
  · have : hdW h n false F ms = List.replicate (h + n) 0 := rfl
    rw [this]
    exact words_none h n F _ w hh hn
  · rcases hh with rfl | rfl
    · exact words_some2 n F a c ms w hs (h1 rfl) h2 hn
    · cases F
      · exact words_some3f n a c ms w hs (h1 rfl) h2 hn
      · exact words_some3t n a c ms w hs (h1 rfl) h2 hn

end Go.Proofs.Ytfcgpjojjehkiaa
