import Derived.Test.YtekijhhpldnmnaaU
import Derived.Test.YtekijhhpldnmnaaIn
namespace Go.Proofs.Ytekijhhpldnmnaa
open Go.RowKit
set_option linter.unusedVariables false
set_option linter.unusedSimpArgs false

/-- bulkheadkeep.CopyWords. -/
theorem copyLong_any (a : Option Addr) (c : Nat) (ms : List UInt32) (w : World) (hs : SegW w a ms) (hl : ms.length ≤ 35184372087808) :
    Calls Try.prog 10 #[.slice a ms.length c] w fun e w' => e = .returned (.slice (some ⟨w.heap.size, 0, none⟩) ms.length ms.length) ∧ Blk w' w.heap.size (wvs ms) 52 ∧ Keeps (fun _ => False) w w' := by
  have hmk := run_make_words (w := w) ms.length (by omega)
  obtain ⟨W1, hW⟩ : ∃ W1, W1 = w.alloc (.cells (wvs (List.replicate ms.length 0)).toArray 52) := ⟨_, rfl⟩
  rw [← hW] at hmk
  obtain ⟨G, hG⟩ : ∃ G, G = w.heap.size := ⟨_, rfl⟩
  have hK1 : Keeps (fun _ => False) w W1 := by rw [hW]; exact (Keeps.refl _ w).alloc _
  have hB1 : Blk W1 G (wvs (List.replicate ms.length 0)) 52 := by rw [hW, hG]; exact Blk.new w _ 52
  have HB : Hid (Keeps (fun _ => False) w W1 ∧ Blk W1 G (wvs (ms.take 0 ++ List.replicate (ms.length - 0) 0)) 52 ∧ SegW w a ms ∧ G = w.heap.size) := ⟨hK1, by simpa using hB1, hs, hG⟩
  obtain ⟨n, hn⟩ : ∃ n, n = ms.length := ⟨_, rfl⟩
  have HN : Hid (n = ms.length) := hn
  rw [← hn, ← hG] at hmk
  rw [← hn, ← hG]
  have HM : Hid (_ = _) := hmk
  have hl2 : (n : Int) ≤ 35184372087808 := by omega
  clear hmk hW hK1 hB1 hs hl hG hn
  go_enter Try.func10, Try.ntmps10
  go_wp2_with (at_make; refine wpList_make_run rfl _ _ 22 rfl (.int .i64 n) (.int .i64 n) (.slice (some ⟨G, 0, none⟩) n n) W1 rfl rfl HM.out ?_; refine Hid.out ?_)
  unfold Hid
  clear HM
  go_wp2
  go_loopw [4] (fun i wr => ∃ j : Nat, j ≤ n ∧ i = .int .i64 j ∧ Keeps (fun _ => False) w wr ∧ Blk wr G (wvs (ms.take j ++ List.replicate (ms.length - j) 0)) 52) (fun i _ => n - (intOf i).toNat)
  case atStart => exact ⟨0, by omega, rfl, HB.out.1, HB.out.2.1⟩
  case round =>
    obtain ⟨j, hj, rfl, hK, hB⟩ := hrel
    by_cases hlt : j < n
    · have hlt' : (j : Int) < n := by omega
      have hjx : j < ms.length := by rw [← HN.out]; exact hlt
      rcases HB.out.2.2.1.kept hK (fun _ _ e => e) with h0 | ⟨g1, o1, rfl, hc1⟩
      · rw [h0] at hjx; simp at hjx
      have d1 := hc1 j hjx
      have hlen : (ms.take j ++ List.replicate (ms.length - j) (0 : UInt32)).length = ms.length := by simp; omega
      have cu := hB.cell (wvs_get _ j (by rw [hlen]; exact hjx))
      have fu := hB.frozen j
      obtain ⟨u, hu⟩ : ∃ u : Nat, u = ((ms.take j ++ List.replicate (ms.length - j) (0 : UInt32))[j]'(by rw [hlen]; exact hjx)).toNat := ⟨_, rfl⟩
      rw [← hu] at cu
      have HR : Hid (Keeps (fun _ => False) w (wr.setCell ⟨G, j, none⟩ (.int .u32 ((ms[j]'hjx).toNat : Int))) ∧ Blk (wr.setCell ⟨G, j, none⟩ (.int .u32 ((ms[j]'hjx).toNat : Int))) G (wvs (ms.take (j + 1) ++ List.replicate (ms.length - (j + 1)) 0)) 52) := by
        refine ⟨hK.setCell _ _ fun h => by have := HB.out.2.2.2; have : G < w.heap.size := h; omega, ?_⟩
        have e : ms.take (j + 1) ++ List.replicate (ms.length - (j + 1)) (0 : UInt32) = (ms.take j ++ List.replicate (ms.length - j) 0).set j (ms[j]'hjx) := by
          have hlt2 : (ms.take j).length = j := by simp; omega
          rw [List.set_append_right _ _ (by omega), hlt2, Nat.sub_self, show ms.length - j = (ms.length - (j + 1)) + 1 by omega, List.replicate_succ, List.set_cons_zero, List.take_add_one, List.getElem?_eq_getElem hjx, List.append_assoc]
          rfl
        rw [e, wvs_setm]
        exact hB.setCell j _
      obtain ⟨v, hv⟩ : ∃ v : Nat, v = (ms[j]'hjx).toNat := ⟨_, rfl⟩
      rw [← hv] at d1 HR
      clear hK hB hjx hc1 hlen hu hv hj
      go_wp2
      go_roundw
      case rel => exact ⟨j + 1, by omega, by go_num, HR.out⟩
      case measure => simp [intOf]; omega
    · obtain rfl : j = n := by omega
      have HF : Hid (Blk wr G (wvs ms) 52 ∧ Keeps (fun _ => False) w wr) := by
        rw [List.take_of_length_le (by have := HN.out; omega), show ms.length - j = 0 by have := HN.out; omega] at hB
        exact ⟨by simpa using hB, hK⟩
      clear hB hK
      go_wp2
      go_ret
      exact ⟨rfl, HF.out⟩


def fitB (c : Cas) : Bool := decide (1 ≤ c.fr ∧ c.fr ≤ 16 ∧ c.os.length ≤ 200)

set_option maxHeartbeats 1000000 in
theorem fit_any (c : Cas) (w : World) : Calls Try.prog 7 #[c.v] w fun e w' => e = .returned (.bool (fitB c)) ∧ Keeps (fun _ => False) w w' := by
  obtain ⟨fr, fm, wa, wc, ws, oa, oc, os⟩ := c
  have HK : Hid (Keeps (fun _ => False) w (w.alloc (.cells #[.int .i64 fr, .int .i64 fm, .slice wa ws.length wc, .slice oa os.length oc] 25))) := (Keeps.refl _ w).alloc _
  unfold fitB Cas.v
  simp only
  obtain ⟨W, hW⟩ : ∃ W, W = ws.length := ⟨_, rfl⟩
  obtain ⟨O, hO⟩ : ∃ O, O = os.length := ⟨_, rfl⟩
  rw [← hW, ← hO] at HK ⊢
  clear hW hO
  by_cases h1 : 1 ≤ fr
  · by_cases h2 : fr ≤ 16
    · by_cases h3 : (O : Int) ≤ 200
      · rw [decide_eq_true (show 1 ≤ fr ∧ fr ≤ 16 ∧ O ≤ 200 by omega)]
        go_enter Try.func7, Try.ntmps7
        go_wp2
        go_ret
        exact ⟨rfl, HK.out⟩
      · rw [decide_eq_false (show ¬ (1 ≤ fr ∧ fr ≤ 16 ∧ O ≤ 200) by omega)]
        go_enter Try.func7, Try.ntmps7
        go_wp2
        go_ret
        exact ⟨rfl, HK.out⟩
    · rw [decide_eq_false (show ¬ (1 ≤ fr ∧ fr ≤ 16 ∧ O ≤ 200) by omega)]
      go_enter Try.func7, Try.ntmps7
      go_wp2
      go_ret
      exact ⟨rfl, HK.out⟩
  · rw [decide_eq_false (show ¬ (1 ≤ fr ∧ fr ≤ 16 ∧ O ≤ 200) by omega)]
    go_enter Try.func7, Try.ntmps7
    go_wp2
    go_ret
    exact ⟨rfl, HK.out⟩

set_option maxRecDepth 20000 in
set_option maxHeartbeats 2000000 in
theorem laid_any (fr : Nat) (fm : Int) (wa : Option Addr) (wc : Nat) (ws : List UInt32) (ov : Value) (hov : ov.oneCell' = true) (ao : Option Addr) (lo co : Nat) (hoe : ov = .slice ao lo co) (w : World) (h1 : 1 ≤ fr) (h2 : fr ≤ 16) (hs : SegW w wa ws) (hl : ws.length ≤ maxLen) :
    Calls Try.prog 8 #[.agg #[.int .i64 fr, .int .i64 fm, .slice wa ws.length wc, ov]] w fun e w' => ∃ B xs, w.heap.size ≤ B ∧ e = .returned (.slice (some ⟨B, 0, none⟩) (16 * fr) (16 * fr)) ∧ List.length (α := UInt32) xs = 16 * fr ∧ Blk w' B (wvs xs) 52 ∧ Keeps (fun _ => False) w w' := by
  subst hoe
  obtain ⟨L, hL⟩ : ∃ L, L = ws.length := ⟨_, rfl⟩
  obtain ⟨W, hW⟩ : ∃ W, W = w.alloc (.cells #[.int .i64 fr, .int .i64 fm, .slice wa L wc, .slice ao lo co] 25) := ⟨_, rfl⟩
  have hK : Keeps (fun _ => False) w W := by rw [hW]; exact (Keeps.refl _ w).alloc _
  have hB : Blk W w.heap.size [.int .i64 fr, .int .i64 fm, .slice wa L wc, .slice ao lo co] 25 := by rw [hW]; exact Blk.new w _ 25
  have hsz : W.heap.size = w.heap.size + 1 := by rw [hW]; simp
  have hmk := run_make_words (w := W) (16 * fr) (by omega)
  obtain ⟨M, hM⟩ : ∃ M, M = 16 * fr := ⟨_, rfl⟩
  have eM : ((M : Nat) : Int) = 16 * (fr : Int) := by omega
  rw [← hM] at hmk ⊢
  obtain ⟨W1, hW1⟩ : ∃ W1, W1 = W.alloc (.cells (wvs (List.replicate M 0)).toArray 52) := ⟨_, rfl⟩
  have hK1 : Keeps (fun _ => False) W W1 := by rw [hW1]; exact (Keeps.refl _ W).alloc _
  have hB1 : Blk W1 W.heap.size (wvs (List.replicate M 0)) 52 := by rw [hW1]; exact Blk.new W _ 52
  rw [← hW1] at hmk
  obtain ⟨O, hO⟩ : ∃ O, O = w.heap.size := ⟨_, rfl⟩
  obtain ⟨G, hG⟩ : ∃ G, G = W.heap.size := ⟨_, rfl⟩
  rw [← hG, eM] at hmk
  rw [← hG] at hB1
  rw [← hO] at hB
  have HM : Hid (_ = _) := hmk
  have HW : Hid (W = _ ∧ O = w.heap.size ∧ G = w.heap.size + 1 ∧ L = ws.length) := ⟨hW, hO, by omega, hL⟩
  have HI : Hid (Blk W1 O [.int .i64 fr, .int .i64 fm, .slice wa L wc, .slice ao lo co] 25 ∧ Blk W1 G (wvs (List.replicate M 0)) 52 ∧ Keeps (fun _ => False) w W1 ∧ SegW w wa ws) := ⟨hB.kept hK1 fun e => e, hB1, hK.trans hK1 fun _ _ e => e, hs⟩
  rw [← hL] at hl ⊢
  have hl2 : (L : Int) ≤ 9223372036854775807 := by unfold maxLen at hl; omega
  have hM2 : (M : Int) ≤ 256 := by omega
  have hM1 : 16 ≤ (M : Int) := by omega
  clear hmk hW hO hG hL hK hB hsz hM hW1 hK1 hB1 hs hl hov
  have x1 : IntKind.i64.wrap (16 * (fr : Int)) = 16 * (fr : Int) := by rw [IntKind.wrap_i64]; omega
  have hfr : (fr : Int) ≤ 16 := by omega
  clear h1 h2
  go_enter Try.func8, Try.ntmps8
  go_wp2_with (at_make; rw [← HW.out.1]; refine wpList_make_run rfl _ _ 22 rfl (.int .i64 (16 * (fr : Int))) (.int .i64 (16 * (fr : Int))) (.slice (some ⟨G, 0, none⟩) M M) W1 rfl rfl HM.out ?_; rw [← HW.out.2.1]; refine Hid.out ?_)
  unfold Hid
  clear HM x1 eM
  go_wp2
  go_loopw [4] (fun i wr => ∃ (j : Nat) (xs : List UInt32), j ≤ L ∧ i = .int .i64 j ∧ xs.length = M ∧ Blk wr O [.int .i64 fr, .int .i64 fm, .slice wa L wc, .slice ao lo co] 25 ∧ Blk wr G (wvs xs) 52 ∧ Keeps (fun _ => False) w wr) (fun i _ => L - (intOf i).toNat)
  case atStart => exact ⟨0, _, by omega, rfl, by simp, HI.out.1, HI.out.2.1, HI.out.2.2.1⟩
  case round =>
    obtain ⟨j, xs, hj, rfl, hx, hbO, hbG, hk⟩ := hrel
    have c0 := hbO.cell (i := 0) rfl
    have c1 := hbO.cell (i := 1) rfl
    have c2 := hbO.cell (i := 2) rfl
    have c3 := hbO.cell (i := 3) rfl
    by_cases hlt : j < L
    · have hlt' : (j : Int) < L := by omega
      by_cases hf : 0 ≤ fm ∧ fm < (M : Int) - (j : Int)
      · obtain ⟨q, hq⟩ : ∃ q : Nat, q = fm.toNat + j := ⟨_, rfl⟩
        have hqM : q < M := by omega
        have hjx : j < ws.length := by rw [← HW.out.2.2.2]; exact hlt
        rcases HI.out.2.2.2.kept hk (fun _ _ e => e) with h0 | ⟨g1, o1, rfl, hc1⟩
        · rw [h0] at hjx; simp at hjx
        have d1 := hc1 j hjx
        have cu := hbG.cell (wvs_get xs q (by omega))
        have fu := hbG.frozen q
        have f1 : 0 ≤ fm := hf.1
        have f2 : fm < (M : Int) - (j : Int) := hf.2
        have f3 : IntKind.i64.wrap ((M : Int) - (j : Int)) = (M : Int) - (j : Int) := by rw [IntKind.wrap_i64]; omega
        have f4 : IntKind.i64.wrap (fm + (j : Int)) = (q : Int) := by rw [IntKind.wrap_i64]; omega
        have f5 : fm + (j : Int) = (q : Int) := by omega
        have f6 : (q : Int) < (M : Int) := by omega
        have f7 : IntKind.i64.wrap (q : Int) = (q : Int) := by rw [IntKind.wrap_i64]; omega
        have HR : Hid (Keeps (fun _ => False) w (wr.setCell ⟨G, q, none⟩ (.int .u32 ((ws[j]'hjx).toNat : Int))) ∧ Blk (wr.setCell ⟨G, q, none⟩ (.int .u32 ((ws[j]'hjx).toNat : Int))) G (wvs (xs.set q (ws[j]'hjx))) 52 ∧ (xs.set q (ws[j]'hjx)).length = M ∧ Blk (wr.setCell ⟨G, q, none⟩ (.int .u32 ((ws[j]'hjx).toNat : Int))) O [.int .i64 fr, .int .i64 fm, .slice (some ⟨g1, o1, none⟩) L wc, .slice ao lo co] 25) := by
          refine ⟨hk.setCell _ _ fun h => by have := HW.out; have : G < w.heap.size := h; omega, ?_, by simpa using hx, hbO.setCell_ne (by have := HW.out; show O ≠ G; omega) _⟩
          rw [wvs_setm]
          exact hbG.setCell q _
        obtain ⟨v, hv⟩ : ∃ v : Nat, v = (ws[j]'hjx).toNat := ⟨_, rfl⟩
        obtain ⟨u, hu⟩ : ∃ v : Nat, v = (xs[q]'(by omega)).toNat := ⟨_, rfl⟩
        rw [← hv] at d1 HR
        rw [← hu] at cu
        have HS2 : Hid ((wr.setCell ⟨G, q, none⟩ (.int .u32 (v : Int))).cell? ⟨O, 1, none⟩ = some (.int .i64 fm) ∧ (wr.setCell ⟨G, q, none⟩ (.int .u32 (v : Int))).cell? ⟨O, 2, none⟩ = some (.slice (some ⟨g1, o1, none⟩) L wc) ∧ (wr.setCell ⟨G, q, none⟩ (.int .u32 (v : Int))).cell? ⟨g1, o1 + j, none⟩ = some (.int .u32 v)) := by
          have hb := HR.out.2.2.2
          have hgg : g1 < w.heap.size := by
            rcases HI.out.2.2.2 with h0 | ⟨g', o', e, hc⟩
            · rw [h0] at hjx; simp at hjx
            · cases e; exact World.block_lt_of_cell? w _ (hc j hjx)
          exact ⟨hb.cell rfl, hb.cell rfl, cell_kept d1 ((Keeps.refl (· = G) wr).setCell ⟨G, q, none⟩ _ fun _ => rfl) (by have := HW.out; omega)⟩
        clear hbO hbG hk hf hx hv hu hc1 hq hqM hj
        go_wp2
        refine wp_region_held_drew (S := (fun w' => w'.cell? ⟨O, 1, none⟩ = some (.int .i64 fm) ∧ w'.cell? ⟨O, 2, none⟩ = some (.slice (some ⟨g1, o1, none⟩) L wc) ∧ w'.cell? ⟨g1, o1 + j, none⟩ = some (.int .u32 v))) Try.mixd ⟨c1, c2, d1⟩ (fun hHeld => ?_)
        simp only [List.size_toArray, List.length_cons, List.length_nil, Nat.reduceAdd, Array.replicate_succ, Array.replicate_zero, List.push_toArray, List.append_toArray, List.nil_append, List.cons_append]
        refine wpAnyH_take (i := 0) (oi := { dst := some 28, op := Op.move (Operand.tmp 3), type := 22, pos := "law.go:31", after := #[], guard := none }) (v := .slice (some ⟨G, 0, none⟩) M M) rfl (by kernel_rfl) (by kernel_rfl) (by kernel_rfl) (fun _ _ _ h => h) (Or.inl ⟨by kernel_rfl, by (intro w hSw; (try dsimp only at hSw); go_simp; try omega)⟩) hHeld ?_
        simp only [Act.put, List.setIfInBounds_toArray, List.set_cons_zero, List.set_cons_succ]
        refine wpAnyH_take (i := 1) (oi := { dst := some 29, op := Op.fieldAddr 25 (Operand.tmp 1) 1, type := 0, pos := "law.go:31", after := #[], guard := none }) (v := .pointer (some ⟨O, 1, none⟩)) rfl (by kernel_rfl) (by kernel_rfl) (by kernel_rfl) (fun _ _ _ h => h) (Or.inl ⟨by kernel_rfl, by (intro w hSw; (try dsimp only at hSw); go_simp; try omega)⟩) hHeld ?_
        simp only [Act.put, List.setIfInBounds_toArray, List.set_cons_zero, List.set_cons_succ]
        refine wpAnyH_take (i := 2) (oi := { dst := some 30, op := Op.load 3 (Operand.tmp 29), type := 3, pos := "law.go:31", after := #[{ on := 1, ground := Ground.data }], guard := none }) (v := .int .i64 fm) rfl (by kernel_rfl) (by kernel_rfl) (by kernel_rfl) (fun _ _ _ h => h) (Or.inl ⟨by kernel_rfl, by (intro w hSw; (try dsimp only at hSw); go_simp; try omega)⟩) hHeld ?_
        simp only [Act.put, List.setIfInBounds_toArray, List.set_cons_zero, List.set_cons_succ]
        refine wpAnyH_take (i := 3) (oi := { dst := some 31, op := Op.move (Operand.tmp 4), type := 3, pos := "law.go:31", after := #[], guard := none }) (v := .int .i64 j) rfl (by kernel_rfl) (by kernel_rfl) (by kernel_rfl) (fun _ _ _ h => h) (Or.inl ⟨by kernel_rfl, by (intro w hSw; (try dsimp only at hSw); go_simp; try omega)⟩) hHeld ?_
        simp only [Act.put, List.setIfInBounds_toArray, List.set_cons_zero, List.set_cons_succ]
        refine wpAnyH_take (i := 4) (oi := { dst := some 32, op := Op.binOp BinOp.add 3 (Operand.tmp 30) (Operand.tmp 31) 3, type := 3, pos := "law.go:31", after := #[{ on := 2, ground := Ground.data }, { on := 3, ground := Ground.data }], guard := none }) (v := .int .i64 q) rfl (by kernel_rfl) (by kernel_rfl) (by kernel_rfl) (fun _ _ _ h => h) (Or.inl ⟨by kernel_rfl, by (intro w hSw; (try dsimp only at hSw); go_simp; try omega)⟩) hHeld ?_
        simp only [Act.put, List.setIfInBounds_toArray, List.set_cons_zero, List.set_cons_succ]
        refine wpAnyH_take (i := 5) (oi := { dst := some 33, op := Op.fieldAddr 25 (Operand.tmp 1) 2, type := 0, pos := "law.go:31", after := #[], guard := none }) (v := .pointer (some ⟨O, 2, none⟩)) rfl (by kernel_rfl) (by kernel_rfl) (by kernel_rfl) (fun _ _ _ h => h) (Or.inl ⟨by kernel_rfl, by (intro w hSw; (try dsimp only at hSw); go_simp; try omega)⟩) hHeld ?_
        simp only [Act.put, List.setIfInBounds_toArray, List.set_cons_zero, List.set_cons_succ]
        refine wpAnyH_take (i := 6) (oi := { dst := some 34, op := Op.load 22 (Operand.tmp 33), type := 22, pos := "law.go:31", after := #[{ on := 5, ground := Ground.data }], guard := none }) (v := .slice (some ⟨g1, o1, none⟩) L wc) rfl (by kernel_rfl) (by kernel_rfl) (by kernel_rfl) (fun _ _ _ h => h) (Or.inl ⟨by kernel_rfl, by (intro w hSw; (try dsimp only at hSw); go_simp; try omega)⟩) hHeld ?_
        simp only [Act.put, List.setIfInBounds_toArray, List.set_cons_zero, List.set_cons_succ]
        refine wpAnyH_take (i := 7) (oi := { dst := some 35, op := Op.move (Operand.tmp 4), type := 3, pos := "law.go:31", after := #[], guard := none }) (v := .int .i64 j) rfl (by kernel_rfl) (by kernel_rfl) (by kernel_rfl) (fun _ _ _ h => h) (Or.inl ⟨by kernel_rfl, by (intro w hSw; (try dsimp only at hSw); go_simp; try omega)⟩) hHeld ?_
        simp only [Act.put, List.setIfInBounds_toArray, List.set_cons_zero, List.set_cons_succ]
        refine wpAnyH_take (i := 8) (oi := { dst := some 36, op := Op.indexAddr 22 (Operand.tmp 34) (Operand.tmp 35), type := 0, pos := "law.go:31", after := #[{ on := 6, ground := Ground.data }, { on := 7, ground := Ground.data }], guard := none }) (v := .pointer (some ⟨g1, o1 + j, none⟩)) rfl (by kernel_rfl) (by kernel_rfl) (by kernel_rfl) (fun _ _ _ h => h) (Or.inl ⟨by kernel_rfl, by (intro w hSw; (try dsimp only at hSw); go_simp; try omega)⟩) hHeld ?_
        simp only [Act.put, List.setIfInBounds_toArray, List.set_cons_zero, List.set_cons_succ]
        refine wpAnyH_take (i := 9) (oi := { dst := some 37, op := Op.load 52 (Operand.tmp 36), type := 52, pos := "law.go:31", after := #[{ on := 8, ground := Ground.data }], guard := none }) (v := .int .u32 v) rfl (by kernel_rfl) (by kernel_rfl) (by kernel_rfl) (fun _ _ _ h => h) (Or.inl ⟨by kernel_rfl, by (intro w hSw; (try dsimp only at hSw); go_simp; try omega)⟩) hHeld ?_
        simp only [Act.put, List.setIfInBounds_toArray, List.set_cons_zero, List.set_cons_succ]
        refine wpAnyH_take (i := 10) (oi := { dst := some 38, op := Op.indexAddr 22 (Operand.tmp 28) (Operand.tmp 32), type := 0, pos := "law.go:31", after := #[{ on := 0, ground := Ground.data }, { on := 4, ground := Ground.data }, { on := 0, ground := Ground.phase }, { on := 1, ground := Ground.phase }, { on := 2, ground := Ground.phase }, { on := 3, ground := Ground.phase }, { on := 4, ground := Ground.phase }, { on := 5, ground := Ground.phase }, { on := 6, ground := Ground.phase }, { on := 7, ground := Ground.phase }, { on := 8, ground := Ground.phase }, { on := 9, ground := Ground.phase }], guard := none }) (v := .pointer (some ⟨G, q, none⟩)) rfl (by kernel_rfl) (by kernel_rfl) (by kernel_rfl) (fun _ _ _ h => h) (Or.inl ⟨by kernel_rfl, by (intro w hSw; (try dsimp only at hSw); go_simp; try omega)⟩) hHeld ?_
        simp only [Act.put, List.setIfInBounds_toArray, List.set_cons_zero, List.set_cons_succ]
        refine wpAnyH_ready (rs := [11]) (by kernel_rfl) (by simp) ?_
        refine AllReadyH.cons (o := { dst := none, op := Op.store 52 (Operand.tmp 38) (Operand.tmp 37), type := 0, pos := "law.go:31", after := #[{ on := 10, ground := Ground.data }, { on := 9, ground := Ground.data }, { on := 0, ground := Ground.phase }, { on := 1, ground := Ground.phase }, { on := 2, ground := Ground.phase }, { on := 3, ground := Ground.phase }, { on := 4, ground := Ground.phase }, { on := 5, ground := Ground.phase }, { on := 6, ground := Ground.phase }, { on := 7, ground := Ground.phase }, { on := 8, ground := Ground.phase }, { on := 9, ground := Ground.phase }], guard := none }) rfl (fun Kq hK => ?_) AllReadyH.nil
        go_simp
        refine hK.out _ _ HS2.out (fun hHeld => ?_)
        simp only [Act.put, List.setIfInBounds_toArray, List.set_cons_zero, List.set_cons_succ]
        refine wpAnyH_done (by kernel_rfl) ?_ _
        clear hHeld
        go_wp2
        go_roundw
        case rel => exact ⟨j + 1, _, by omega, by go_num, HR.out.2.2.1, HR.out.2.2.2, HR.out.2.1, HR.out.1.drew⟩
        case measure => simp [intOf]; omega
      · have HR : Hid (xs.length = M ∧ Blk wr O [.int .i64 fr, .int .i64 fm, .slice wa L wc, .slice ao lo co] 25 ∧ Blk wr G (wvs xs) 52 ∧ Keeps (fun _ => False) w wr) := ⟨hx, hbO, hbG, hk⟩
        have f3 : IntKind.i64.wrap ((M : Int) - (j : Int)) = (M : Int) - (j : Int) := by rw [IntKind.wrap_i64]; omega
        by_cases f1 : 0 ≤ fm
        · have f2 : ¬ fm < (M : Int) - (j : Int) := by omega
          clear hbO hbG hk hf hx hj
          go_wp2
          go_roundw
          case rel => exact ⟨j + 1, xs, by omega, by go_num, HR.out⟩
          case measure => simp [intOf]; omega
        · clear hbO hbG hk hf hx hj
          go_wp2
          go_roundw
          case rel => exact ⟨j + 1, xs, by omega, by go_num, HR.out⟩
          case measure => simp [intOf]; omega
    · obtain rfl : j = L := by omega
      have HR : Hid (xs.length = M ∧ Blk wr G (wvs xs) 52 ∧ Keeps (fun _ => False) w wr) := ⟨hx, hbG, hk⟩
      clear hbO hbG hk hx hj
      go_wp2
      go_ret
      exact ⟨G, xs, by have := HW.out; omega, rfl, HR.out⟩

end Go.Proofs.Ytekijhhpldnmnaa
namespace Go.Proofs.Ytekijhhpldnmnaa
open Go.RowKit
set_option linter.unusedVariables false
set_option linter.unusedSimpArgs false

def A0 : List UInt32 := List.replicate 16 0
def A1 : List UInt32 := ptX false A0 0 1 1 [7]
def A2 : List UInt32 := dlF false A1 0 1 1 [5]
theorem a_put : ptB false A0 0 1 1 1 = true ∧ ptE false A0 0 1 1 1 = 0 := ⟨by kernel_rfl, by kernel_rfl⟩
theorem a_dlv : dlE false A1 0 1 1 [5] = 0 := by kernel_rfl
theorem a_look : hdB false A2 5 1 1 = true ∧ lkE false A2 5 3 1 1 = 0 ∧ hdM false A2 5 1 1 = [7] := ⟨by kernel_rfl, by kernel_rfl, by kernel_rfl⟩

theorem Keeps.none {S : Nat → Prop} {w w' : World} (h : Keeps (fun _ => False) w w') : Keeps S w w' := h.mono fun _ _ e => e.elim

theorem SegW.low {w w' : World} {a : Option Addr} {ws : List UInt32} (h : SegW w a ws) (k : Keeps (fun k => w.heap.size ≤ k) w w') : SegW w' a ws := by
  rcases h with h | ⟨g, o, ha, hc⟩
  · exact .inl h
  · refine .inr ⟨g, o, ha, fun j hj => ?_⟩
    have h1 := hc j hj
    have hlt : g < w.heap.size := World.block_lt_of_cell? w _ h1
    exact cell_kept h1 k (by omega)
theorem SegI.low {w w' : World} {a : Option Addr} {ws : List Int} (h : SegI w a ws) (k : Keeps (fun k => w.heap.size ≤ k) w w') : SegI w' a ws := by
  rcases h with h | ⟨g, o, ha, hc⟩
  · exact .inl h
  · refine .inr ⟨g, o, ha, fun j hj => ?_⟩
    have h1 := hc j hj
    have hlt : g < w.heap.size := World.block_lt_of_cell? w _ h1
    exact cell_kept h1 k (by omega)

set_option maxRecDepth 20000 in
set_option maxHeartbeats 2000000 in
theorem awake_any (w : World) : Calls Try.prog 22 #[] w fun e w' => e = .returned (.bool true) ∧ Keeps (fun _ => False) w w' := by
  have HN : Hid (Calls Try.prog 15 #[.int .i64 1] w fun e w' => e = .returned (.tuple #[.pointer (some ⟨w.heap.size + 1, 0, none⟩), .int .i64 0]) ∧ Mm w' (w.heap.size + 1) w.heap.size A0 ∧ Keeps (fun _ => False) w w') := new_in 1 w (by omega) (by omega)
  obtain ⟨g, hg⟩ : ∃ g, g = w.heap.size := ⟨_, rfl⟩
  rw [← hg] at HN
  have HG : Hid (g = w.heap.size) := hg
  clear hg
  go_enter Try.func22, Try.ntmps22
  go_wp2_with fail
  refine HN.out.mono ?_
  rintro e w1 ⟨rfl, hm1, hk1⟩
  obtain ⟨W2, hW2⟩ : ∃ W2, W2 = w1.alloc (.cells #[.int .u32 7] 52) := ⟨_, rfl⟩
  have hk2 : Keeps (fun _ => False) w1 W2 := by rw [hW2]; exact (Keeps.refl _ w1).alloc _
  have hb2 : Blk W2 w1.heap.size (wvs [7]) 52 := by rw [hW2]; exact Blk.new w1 _ 52
  have hP := put_any false (g + 1) g A0 0 1 1 W2 (hm1.kept hk2 (fun e => e) (fun e => e)) (by omega) (some ⟨w1.heap.size, 0, none⟩) 1 [7] (segW_of_blk hb2)
  have HP : Hid (Calls Try.prog 16 #[.pointer (some ⟨g + 1, 0, none⟩), .int .i64 0, .int .i64 1, .int .i64 1, .slice (some ⟨w1.heap.size, 0, none⟩) 1 1] W2 fun e w' => e = .returned (.tuple #[.bool true, .int .i64 0]) ∧ Mm w' (g + 1) g A1 ∧ Keeps (· = g) W2 w') := by
    have := hP
    show Calls _ _ _ _ _
    rw [show ptB false A0 0 1 1 ([7] : List UInt32).length = true from a_put.1, show ptE false A0 0 1 1 ([7] : List UInt32).length = 0 from a_put.2] at this
    exact this
  have HK2 : Hid (Keeps (fun k => w.heap.size ≤ k) w W2 ∧ W2 = w1.alloc (.cells #[.int .u32 7] 52)) := ⟨(hk1.trans hk2 fun _ _ e => e).none, hW2⟩
  clear hP hb2 hk2 hW2 hm1 hk1 HN
  go_wp2_with fail
  rw [← HK2.out.2]
  refine HP.out.mono ?_
  rintro e w3 ⟨rfl, hm3, hk3⟩
  obtain ⟨W4, hW4⟩ : ∃ W4, W4 = w3.alloc (.cells #[.int .i64 5] 3) := ⟨_, rfl⟩
  have hk4 : Keeps (fun _ => False) w3 W4 := by rw [hW4]; exact (Keeps.refl _ w3).alloc _
  have hb4 : Blk W4 w3.heap.size [.int .i64 5] 3 := by rw [hW4]; exact Blk.new w3 _ 3
  have hs4 : SegI W4 (some ⟨w3.heap.size, 0, none⟩) [5] := .inr ⟨_, 0, rfl, fun j hj => by
    obtain rfl : j = 0 := by simp at hj; omega
    exact hb4.cell rfl⟩
  have hD := deliver_any false (g + 1) g A1 0 1 1 W4 (hm3.kept hk4 (fun e => e) (fun e => e)) (by omega) (some ⟨w3.heap.size, 0, none⟩) 1 [5] hs4 (by simp)
  rw [a_dlv] at hD
  have HD : Hid (Calls Try.prog 17 #[.pointer (some ⟨g + 1, 0, none⟩), .int .i64 0, .int .i64 1, .int .i64 1, .slice (some ⟨w3.heap.size, 0, none⟩) 1 1] W4 fun e w' => e = .returned (.int .i64 0) ∧ Mm w' (g + 1) g A2 ∧ Keeps (· = g) W4 w') := hD
  have HK4 : Hid (Keeps (fun k => w.heap.size ≤ k) w W4 ∧ W4 = w3.alloc (.cells #[.int .i64 5] 3)) := ⟨(HK2.out.1.trans hk3 fun b hb e => by have := HG.out; omega).trans hk4 fun _ _ e => e.elim, hW4⟩
  clear hD hs4 hb4 hk4 hW4 hm3 hk3 HP HK2
  go_wp2_with fail
  rw [← HK4.out.2]
  refine HD.out.mono ?_
  rintro e w5 ⟨rfl, hm5, hk5⟩
  have hL := look3_any false (g + 1) g A2 5 1 1 w5 hm5 (by omega)
  rw [a_look.1, a_look.2.1, a_look.2.2] at hL
  have HL : Hid (Calls Try.prog 18 #[.pointer (some ⟨g + 1, 0, none⟩), .int .i64 5, .int .i64 1, .int .i64 1] w5 fun e w' => LookP w5 [7] true 0 e w') := hL
  have HK5 : Hid (Keeps (fun k => w.heap.size ≤ k) w w5 ∧ Mm w5 (g + 1) g A2) := ⟨HK4.out.1.trans hk5 fun b hb e => by have := HG.out; omega, hm5⟩
  clear hL hm5 hk5 HD HK4
  go_wp2_with fail
  refine HL.out.mono ?_
  rintro e w6 ⟨a, rfl, ha, hk6⟩
  obtain ⟨G, hGs, rfl, hbG⟩ : ∃ G, w5.heap.size ≤ G ∧ a = some ⟨G, 0, none⟩ ∧ Blk w6 G (wvs [7]) 52 := by
    rcases ha with ⟨_, h⟩ | h
    · cases h
    · exact h
  have hT := tak_any false (g + 1) g A2 5 1 1 w6 (HK5.out.2.kept hk6 (fun e => e) (fun e => e)) (by omega)
  rw [a_look.1, a_look.2.1] at hT
  have HT : Hid (Calls Try.prog 19 #[.pointer (some ⟨g + 1, 0, none⟩), .int .i64 5, .int .i64 1, .int .i64 1] w6 fun e w' => e = .returned (.tuple #[.bool true, .int .i64 0]) ∧ Mm w' (g + 1) g (tkX false A2 5 1 1) ∧ Keeps (· = g) w6 w') := hT
  have HK6 : Hid (Keeps (fun k => w.heap.size ≤ k) w w6 ∧ Blk w6 G (wvs [7]) 52 ∧ G ≠ g) := ⟨HK5.out.1.trans hk6 fun _ _ e => e.elim, hbG, by have := HK5.out.2.row.lt; omega⟩
  clear hT hbG hGs hk6 ha HL HK5
  go_wp2_with fail
  refine HT.out.mono ?_
  rintro e w7 ⟨rfl, hm7, hk7⟩
  have c7 : w7.cell? ⟨G, 0, none⟩ = some (.int .u32 7) := (HK6.out.2.1.kept hk7 HK6.out.2.2).cell rfl
  have HK7 : Hid (Keeps (fun k => w.heap.size ≤ k) w w7) := HK6.out.1.trans hk7 fun b hb e => by have := HG.out; omega
  clear hm7 hk7 HT HK6
  go_wp2
  go_ret
  exact ⟨rfl, HK7.out.mono fun b hb e => by omega⟩

/-! ### Which words a call changes -/
structure OwnP (xs ys : List UInt32) (D : Bool) (p T : Int) : Prop where
  len : ys.length = xs.length
  no : D = false → ys = xs
  yes : D = true → ∃ k, k < xs.length ∧ wd xs k ≠ wd ys k
  inn : D = true → ∀ k : Nat, k < xs.length → wd xs k ≠ wd ys k → p ≤ (k : Int) ∧ (k : Int) < T

theorem lay_own (xs : List UInt32) (p : Nat) (l : List UInt32) (i : Nat) (hi : i < l.length) (hf : p + l.length ≤ xs.length) (hd : wd xs (p + i) ≠ wd l i) : OwnP xs (lay xs p l) true p (p + l.length : Nat) where
  len := lay_length _ _ _ hf
  no := fun h => by cases h
  yes := fun _ => ⟨p + i, by omega, by
    have : wd (lay xs p l) (p + i) = wd l i := by
      unfold wd
      rw [List.getD_eq_getElem?_getD, List.getD_eq_getElem?_getD, lay_get? _ _ _ hf, if_pos ⟨by omega, by omega⟩, Nat.add_sub_cancel_left]
    rw [this]; exact hd⟩
  inn := fun _ k hk hne => by
    by_cases hin : p ≤ k ∧ k < p + l.length
    · omega
    · exact absurd (by unfold wd; rw [List.getD_eq_getElem?_getD, List.getD_eq_getElem?_getD, lay_get? _ _ _ hf, if_neg hin]) hne
theorem same_own (xs : List UInt32) (p T : Int) : OwnP xs xs false p T := ⟨rfl, fun _ => rfl, fun h => (by cases h), fun h => (by cases h)⟩

theorem wd_win {xs : List UInt32} {p m i : Nat} (hi : i < m) : wd (win xs p m) i = wd xs (p + i) := by
  unfold wd
  rw [List.getD_eq_getElem?_getD, List.getD_eq_getElem?_getD, win_get?, if_pos hi]

theorem ofNat_ne {a b : Nat} (ha : a ≤ 100) (hb : b ≤ 100) (h : a ≠ b) : UInt32.ofNat a ≠ UInt32.ofNat b := fun e => h (by
  have := congrArg UInt32.toNat e
  rw [ofNat_small ha, ofNat_small hb] at this
  exact this)

theorem put_own (xs : List UInt32) (p n d : Int) (m : List UInt32) (T : Int) (hT : 0 ≤ p → p + (rsz 1 n d : Int) ≤ xs.length → T = p + (rsz 1 n d : Int)) : OwnP xs (ptX false xs p n d m) (ptB false xs p n d m.length) p T := by
  cases hB : ptB false xs p n d m.length with
  | false =>
    have : ptX false xs p n d m = xs := by unfold ptX; rw [hB]; rfl
    rw [this]; exact same_own _ _ _
  | true =>
    have hX : ptX false xs p n d m = lay xs p.toNat (enc 1 n.toNat d.toNat ((rdA xs p 1 n d).push m)) := by unfold ptX; rw [hB]; rfl
    rw [hX]
    unfold ptB at hB
    simp only [Bool.and_eq_true, decide_eq_true_iff, Bool.not_eq_true', decide_eq_false_iff_not] at hB
    obtain ⟨hE, hfull⟩ := hB
    unfold ptE at hE
    by_cases hf : fitE false n d ≠ 0
    · rw [if_pos hf] at hE; exact absurd hE hf
    · rw [if_neg hf] at hE
      by_cases hk : m.length < 1 ∨ n < (m.length : Int)
      · rw [if_pos hk] at hE; omega
      · rw [if_neg hk] at hE
        obtain ⟨_, p', n', d', rfl, rfl, rfl, L⟩ := lkE_ok (.inl rfl) hE
        have hrl : (rdA xs p' 1 n' d').ms.length < d' := by have := L.ok.m; have : ¬ (rdA xs p' 1 n' d').ms.length = d' := hfull; omega
        have hok := L.ok.push hrl (m := m) ⟨by omega, by omega⟩
        have hlen := enc_length (.inl rfl) hok
        have hfit := L.fit
        have hrz := rsz_nat 1 n' d'
        have ho := lay_own xs p' (enc 1 n' d' ((rdA xs p' 1 n' d').push m)) 0 (by rw [hlen]; omega) (by rw [hlen]; omega) (by
          rw [← wd_win (m := rsz 1 n' d') (by omega), L.enc, enc_head (.inl rfl) 0 (by omega), enc_head (.inl rfl) 0 (by omega)]
          show UInt32.ofNat _ ≠ UInt32.ofNat ((rdA xs p' 1 n' d').ms ++ [m]).length
          rw [List.length_append]
          have := L.d2
          exact ofNat_ne (by omega) (by simp; omega) (by simp))
        rw [hT (by omega) (by omega)]
        rw [hlen, ← hrz] at ho
        exact ho

theorem tak_own (xs : List UInt32) (p n d : Int) (T : Int) (hT : 0 ≤ p → p + (rsz 3 n d : Int) ≤ xs.length → T = p + (rsz 3 n d : Int)) : OwnP xs (tkX false xs p n d) (hdB false xs p n d) p T := by
  cases hB : hdB false xs p n d with
  | false =>
    have : tkX false xs p n d = xs := by unfold tkX; rw [hB]; rfl
    rw [this]; exact same_own _ _ _
  | true =>
    have hX : tkX false xs p n d = lay xs p.toNat (enc 3 n.toNat d.toNat ((rdA xs p 3 n d).pop d.toNat)) := by unfold tkX; rw [hB]; rfl
    rw [hX]
    unfold hdB at hB
    simp only [Bool.and_eq_true, decide_eq_true_iff, Bool.not_eq_true', List.isEmpty_eq_false_iff] at hB
    obtain ⟨hE, hne⟩ := hB
    obtain ⟨_, p', n', d', rfl, rfl, rfl, L⟩ := lkE_ok (.inr rfl) hE
    have hok := L.ok.pop
    have hlen := enc_length (.inr rfl) hok
    have hfit := L.fit
    have hrz := rsz_nat 3 n' d'
    have hl0 : (rdA xs p' 3 n' d').ms.length ≠ 0 := fun e => hne (List.eq_nil_of_length_eq_zero e)
    have ho := lay_own xs p' (enc 3 n' d' ((rdA xs p' 3 n' d').pop d')) 1 (by rw [hlen]; omega) (by rw [hlen]; omega) (by
      rw [← wd_win (m := rsz 3 n' d') (by omega), L.enc, enc_head (.inr rfl) 1 (by omega), enc_head (.inr rfl) 1 (by omega)]
      show UInt32.ofNat _ ≠ UInt32.ofNat (rdA xs p' 3 n' d').ms.tail.length
      rw [List.length_tail]
      have := L.d2
      have := L.ok.m
      exact ofNat_ne (by omega) (by omega) (by omega))
    rw [hT (by omega) (by omega)]
    rw [hlen, ← hrz] at ho
    exact ho

end Go.Proofs.Ytekijhhpldnmnaa
