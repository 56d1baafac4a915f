import Derived.Test.YtohojpacijnnaaaDoorYb
namespace Go.Proofs.YtohojpacijnnaaaDoor
open Go.RowKit
set_option linter.unusedVariables false
set_option linter.unusedSimpArgs false

/-- bulkheadkeep.CopyWords. -/
theorem copyLong_any (a : Option Addr) (c : Nat) (ms : List UInt32) (w : World) (hs : SegW w a ms) (hl : ms.length ≤ 35184372087808) :
    Calls Tryd.prog 8 #[.slice a ms.length c] w fun e w' => e = .returned (.slice (some ⟨w.heap.size, 0, none⟩) ms.length ms.length) ∧ Blk w' w.heap.size (wvs ms) 26 ∧ Keeps (fun _ => False) w w' := by
  have hmk := run_make_words (w := w) ms.length (by omega)
  obtain ⟨W1, hW⟩ : ∃ W1, W1 = w.alloc (.cells (wvs (List.replicate ms.length 0)).toArray 26) := ⟨_, rfl⟩
  rw [← hW] at hmk
  obtain ⟨G, hG⟩ : ∃ G, G = w.heap.size := ⟨_, rfl⟩
  have hK1 : Keeps (fun _ => False) w W1 := by rw [hW]; exact (Keeps.refl _ w).alloc _
  have hB1 : Blk W1 G (wvs (List.replicate ms.length 0)) 26 := by rw [hW, hG]; exact Blk.new w _ 26
  have HB : Hid (Keeps (fun _ => False) w W1 ∧ Blk W1 G (wvs (ms.take 0 ++ List.replicate (ms.length - 0) 0)) 26 ∧ SegW w a ms ∧ G = w.heap.size) := ⟨hK1, by simpa using hB1, hs, hG⟩
  obtain ⟨n, hn⟩ : ∃ n, n = ms.length := ⟨_, rfl⟩
  have HN : Hid (n = ms.length) := hn
  rw [← hn, ← hG] at hmk
  rw [← hn, ← hG]
  have HM : Hid (_ = _) := hmk
  have hl2 : (n : Int) ≤ 35184372087808 := by omega
  clear hmk hW hK1 hB1 hs hl hG hn
  go_enter Tryd.func8, Tryd.ntmps8
  go_wp2_with (at_make; refine wpList_make_run rfl _ _ 22 rfl (.int .i64 n) (.int .i64 n) (.slice (some ⟨G, 0, none⟩) n n) W1 rfl rfl HM.out ?_; refine Hid.out ?_)
  unfold Hid
  clear HM
  go_wp2
  go_loopw [4] (fun i wr => ∃ j : Nat, j ≤ n ∧ i = .int .i64 j ∧ Keeps (fun _ => False) w wr ∧ Blk wr G (wvs (ms.take j ++ List.replicate (ms.length - j) 0)) 26) (fun i _ => n - (intOf i).toNat)
  case atStart => exact ⟨0, by omega, rfl, HB.out.1, HB.out.2.1⟩
  case round =>
    obtain ⟨j, hj, rfl, hK, hB⟩ := hrel
    by_cases hlt : j < n
    · have hlt' : (j : Int) < n := by omega
      have hjx : j < ms.length := by rw [← HN.out]; exact hlt
      rcases HB.out.2.2.1.kept hK (fun _ _ e => e) with h0 | ⟨g1, o1, rfl, hc1⟩
      · rw [h0] at hjx; simp at hjx
      have d1 := hc1 j hjx
      have hlen : (ms.take j ++ List.replicate (ms.length - j) (0 : UInt32)).length = ms.length := by simp; omega
      have cu := hB.cell (wvs_get _ j (by rw [hlen]; exact hjx))
      have fu := hB.frozen j
      obtain ⟨u, hu⟩ : ∃ u : Nat, u = ((ms.take j ++ List.replicate (ms.length - j) (0 : UInt32))[j]'(by rw [hlen]; exact hjx)).toNat := ⟨_, rfl⟩
      rw [← hu] at cu
      have HR : Hid (Keeps (fun _ => False) w (wr.setCell ⟨G, j, none⟩ (.int .u32 ((ms[j]'hjx).toNat : Int))) ∧ Blk (wr.setCell ⟨G, j, none⟩ (.int .u32 ((ms[j]'hjx).toNat : Int))) G (wvs (ms.take (j + 1) ++ List.replicate (ms.length - (j + 1)) 0)) 26) := by
        refine ⟨hK.setCell _ _ fun h => by have := HB.out.2.2.2; have : G < w.heap.size := h; omega, ?_⟩
        have e : ms.take (j + 1) ++ List.replicate (ms.length - (j + 1)) (0 : UInt32) = (ms.take j ++ List.replicate (ms.length - j) 0).set j (ms[j]'hjx) := by
          have hlt2 : (ms.take j).length = j := by simp; omega
          rw [List.set_append_right _ _ (by omega), hlt2, Nat.sub_self, show ms.length - j = (ms.length - (j + 1)) + 1 by omega, List.replicate_succ, List.set_cons_zero, List.take_add_one, List.getElem?_eq_getElem hjx, List.append_assoc]
          rfl
        rw [e, wvs_setm]
        exact hB.setCell j _
      obtain ⟨v, hv⟩ : ∃ v : Nat, v = (ms[j]'hjx).toNat := ⟨_, rfl⟩
      rw [← hv] at d1 HR
      clear hK hB hjx hc1 hlen hu hv hj
      go_wp2
      go_roundw
      case rel => exact ⟨j + 1, by omega, by go_num, HR.out⟩
      case measure => simp [intOf]; omega
    · obtain rfl : j = n := by omega
      have HF : Hid (Blk wr G (wvs ms) 26 ∧ Keeps (fun _ => False) w wr) := by
        rw [List.take_of_length_le (by have := HN.out; omega), show ms.length - j = 0 by have := HN.out; omega] at hB
        exact ⟨by simpa using hB, hK⟩
      clear hB hK
      go_wp2
      go_ret
      exact ⟨rfl, HF.out⟩
end Go.Proofs.YtohojpacijnnaaaDoor
