import Derived.Test.YtfcgpjojjehkiaaSa
namespace Go.Proofs.Ytfcgpjojjehkiaa
open Go.RowKit
set_option linter.unusedVariables false
set_option linter.unusedSimpArgs false

/-- What a call makes of the words. -/
def oneX (o : Opn) (xs : List UInt32) : List UInt32 :=
  if 2147483647 < o.ms.length ∨ 2147483647 < o.ps.length then xs
  else if o.k = 0 then putX o.nil xs o.p o.n o.ms
  else if o.k = 2 then dlX o.nil xs o.p o.n o.ps
  else if o.k = 4 then wrX o.nil xs o.p o.x
  else xs

set_option maxRecDepth 20000 in
set_option maxHeartbeats 1000000 in
theorem one_long (w0 : World) (b g rb rg : Nat) (xs : List UInt32) (o : Opn) (w : World) (hD : Duo w b g rb rg xs) (hk : Keeps (fun _ => False) w0 w) (hl : 2147483647 < o.ms.length ∨ 2147483647 < o.ps.length) (pv rv : Value) :
    Calls Try.prog 11 #[pv, rv, o.v] w (OneP w0 w b g rb rg xs) := by
  obtain ⟨k, p, n, ma, mc, ms, pa, pc, ps, x, nl⟩ := o
  simp only at hl
  unfold Opn.v
  simp only
  obtain ⟨Lm, hLm⟩ : ∃ L, L = ms.length := ⟨_, rfl⟩
  obtain ⟨Lp, hLp⟩ : ∃ L, L = ps.length := ⟨_, rfl⟩
  obtain ⟨X, hX⟩ : ∃ X : Nat, X = x.toNat := ⟨_, rfl⟩
  rw [← hLm, ← hLp] at hl
  rw [← hLm, ← hLp, ← hX]
  have hk0 : Keeps (fun _ => False) w (w.alloc (.cells #[.int .i64 k, .int .i64 p, .int .i64 n, .slice ma Lm mc, .slice pa Lp pc, .int .u32 (X : Int), .bool nl] 36)) := (Keeps.refl _ w).alloc _
  have HX : Hid (OneP w0 w b g rb rg xs (.returned (.bool true)) (w.alloc (.cells #[.int .i64 k, .int .i64 p, .int .i64 n, .slice ma Lm mc, .slice pa Lp pc, .int .u32 (X : Int), .bool nl] 36))) := ⟨rfl, hD.grown hk0, hk.trans hk0 (fun _ _ e => e), hk0.mono fun _ _ e => e.elim⟩
  have hll : (2147483647 : Int) < (Lm : Int) ∨ (¬ (2147483647 : Int) < (Lm : Int) ∧ (2147483647 : Int) < (Lp : Int)) := by omega
  clear hD hk hl hLm hLp hX hk0
  rcases hll with g1 | ⟨g1, g2⟩
  all_goals
    go_enter Try.func11, Try.ntmps11
    go_wp2
    go_ret
    exact HX.out

theorem one_any (w0 : World) (b g rb rg : Nat) (xs : List UInt32) (o : Opn) (w : World) (hD : Duo w b g rb rg xs) (hk : Keeps (fun _ => False) w0 w) (hok : o.Ok w0) (hg : w0.heap.size ≤ g) (hrg : w0.heap.size ≤ rg) :
    Calls Try.prog 11 #[.pointer (some ⟨b, 0, none⟩), .pointer (some ⟨rb, 0, none⟩), o.v] w (OneP w0 w b g rb rg (oneX o xs)) := by
  unfold oneX
  by_cases hl : 2147483647 < o.ms.length ∨ 2147483647 < o.ps.length
  · rw [if_pos hl]
    exact one_long w0 b g rb rg xs o w hD hk hl _ _
  · rw [if_neg hl]
    have hl2 : o.ms.length ≤ 2147483647 ∧ o.ps.length ≤ 2147483647 := by omega
    cases hN : o.nil
    · by_cases h0 : o.k = 0
      · rw [if_pos h0]; exact one_0f w0 b g rb rg xs o w hD hk hok hg hrg hl2 h0 hN
      · rw [if_neg h0]
        by_cases h2 : o.k = 2
        · rw [if_pos h2]; exact one_2f w0 b g rb rg xs o w hD hk hok hg hrg hl2 h2 hN
        · rw [if_neg h2]
          by_cases h4 : o.k = 4
          · rw [if_pos h4]; exact one_4f w0 b g rb rg xs o w hD hk hok hg hrg hl2 h4 hN
          · rw [if_neg h4]
            by_cases h1 : o.k = 1
            · exact one_1f w0 b g rb rg xs o w hD hk hok hg hrg hl2 h1 hN
            · exact one_rf w0 b g rb rg xs o w hD hk hok hg hrg hl2 h0 h1 h2 h4 hN
    · by_cases h0 : o.k = 0
      · rw [if_pos h0]; exact one_0t w0 b g rb rg xs o w hD hk hok hg hrg hl2 h0 hN
      · rw [if_neg h0]
        by_cases h2 : o.k = 2
        · rw [if_pos h2]; exact one_2t w0 b g rb rg xs o w hD hk hok hg hrg hl2 h2 hN
        · rw [if_neg h2]
          by_cases h4 : o.k = 4
          · rw [if_pos h4]; exact one_4t w0 b g rb rg xs o w hD hk hok hg hrg hl2 h4 hN
          · rw [if_neg h4]
            by_cases h1 : o.k = 1
            · exact one_1t w0 b g rb rg xs o w hD hk hok hg hrg hl2 h1 hN
            · exact one_rt w0 b g rb rg xs o w hD hk hok hg hrg hl2 h0 h1 h2 h4 hN

/-- The memory of a script. -/
def bgL (ws : List UInt32) : List UInt32 := (List.range 80).map fun i => wd ws i
theorem bgL_length (ws : List UInt32) : (bgL ws).length = 80 := by simp [bgL]
theorem bgL_fW (ws : List UInt32) : wvs (bgL ws) = fW 80 (fun i => wd ws i) := by simp [wvs, bgL, fW]

set_option maxHeartbeats 1000000 in
theorem begun_any (a : Option Addr) (c : Nat) (ws : List UInt32) (w : World) (hs : SegW w a ws) (hl : ws.length ≤ c ∧ c ≤ maxLen) :
    Calls Try.prog 9 #[.slice a ws.length c] w fun e w' => ∃ G, w.heap.size ≤ G ∧ e = .returned (.slice (some ⟨G, 0, none⟩) 80 80) ∧ Blk w' G (wvs (bgL ws)) 34 ∧ Keeps (fun _ => False) w w' := by
  obtain ⟨L, hL⟩ : ∃ L, L = ws.length := ⟨_, rfl⟩
  obtain ⟨W1, hW1⟩ : ∃ W1, W1 = w.alloc (.cells (fW 80 (fun _ => 0)).toArray 34) := ⟨_, rfl⟩
  have HM : Hid ((Instr.makeSlice 22 (.int .i64 80) (.int .i64 80)).run Try.prog w = .ok (.slice (some ⟨w.heap.size, 0, none⟩) 80 80) W1) := by
    have := makeW w 80 (by omega)
    rw [hW1]; exact this
  have hB : Blk W1 w.heap.size (fW 80 (fun _ => 0)) 34 := by rw [hW1]; exact Blk.new w _ 34
  have hK : Keeps (fun _ => False) w W1 := by rw [hW1]; exact (Keeps.refl _ w).alloc _
  obtain ⟨B, hBB⟩ : ∃ B, B = w.heap.size := ⟨_, rfl⟩
  rw [← hBB] at hB HM
  have HB : Hid (Blk W1 B (fW 80 (fun _ => 0)) 34 ∧ Keeps (fun _ => False) w W1 ∧ SegW w a ws ∧ L = ws.length ∧ B = w.heap.size) := ⟨hB, hK, hs, hL, hBB⟩
  rw [← hL]
  have b1 : (L : Int) ≤ 9223372036854775807 := by have := hl.1; have := hl.2; unfold maxLen at this; omega
  clear hB hK hs hL hBB hW1 hl
  go_enter Try.func9, Try.ntmps9
  go_wp2_with (at_make; refine wpList_make_run rfl _ _ 22 rfl (.int .i64 80) (.int .i64 80) (.slice (some ⟨B, 0, none⟩) 80 80) W1 rfl rfl HM.out ?_; refine Hid.out ?_)
  unfold Hid
  clear HM
  go_wp2
  go_loopw [8] (fun i wr => ∃ m : Nat, m ≤ L ∧ i = .int .i64 m ∧ Keeps (fun _ => False) w wr ∧ Blk wr B (fW 80 (fun i => if i < m then wd ws i else 0)) 34) (fun i _ => L - (intOf i).toNat)
  case atStart => exact ⟨0, by omega, rfl, HB.out.2.1, by simpa using HB.out.1⟩
  case round =>
    obtain ⟨m, hm, rfl, hK, hB⟩ := hrel
    by_cases hlt : m < L
    · have hmz : (m : Int) < L := by omega
      have hmw : m < ws.length := by have := HB.out.2.2.2.1; omega
      rcases HB.out.2.2.1.kept hK (fun _ _ e => e) with h0 | ⟨gm, om, rfl, hcm⟩
      · rw [h0] at hmw; simp at hmw
      by_cases h80 : m < 80
      · have h80' : (m : Int) < 80 := by omega
        have cx := hcm m hmw
        have cu := hB.cell (fW_get _ h80)
        have fu := hB.frozen m
        obtain ⟨u, hu⟩ : ∃ u : Nat, u = ((fun i => if i < m then wd ws i else 0) m : UInt32).toNat := ⟨_, rfl⟩
        rw [← hu] at cu
        have HR : Hid (Keeps (fun _ => False) w (wr.setCell ⟨B, m, none⟩ (.int .u32 ((ws[m]'hmw).toNat : Int))) ∧ Blk (wr.setCell ⟨B, m, none⟩ (.int .u32 ((ws[m]'hmw).toNat : Int))) B (fW 80 (fun i => if i < m + 1 then wd ws i else 0)) 34) := by
          refine ⟨hK.setCell _ _ fun h => by have := HB.out.2.2.2.2; have : B < w.heap.size := h; omega, ?_⟩
          have h1 := hB.setCell m (.int .u32 ((ws[m]'hmw).toNat : Int))
          rw [fW_set] at h1
          rw [fW_congr (f := fun i => if i < m + 1 then wd ws i else 0) fun i hi => ?_]
          · exact h1
          · by_cases e : i = m
            · subst e; simp [wd_get hmw]
            · by_cases e2 : i < m
              · have : i < m + 1 := by omega
                simp [e, e2, this]
              · have : ¬ i < m + 1 := by omega
                simp [e, e2, this]
        obtain ⟨y, hy⟩ : ∃ y : Nat, y = (ws[m]'hmw).toNat := ⟨_, rfl⟩
        rw [← hy] at cx HR
        clear hB hK hm hmw hcm hu hy
        go_wp2
        go_roundw
        case rel => exact ⟨m + 1, by omega, by go_num, HR.out⟩
        case measure => simp [intOf]; omega
      · have h80' : ¬ (m : Int) < 80 := by omega
        have HR : Hid (Keeps (fun _ => False) w wr ∧ Blk wr B (fW 80 (fun i => if i < m + 1 then wd ws i else 0)) 34) := by
          refine ⟨hK, ?_⟩
          rw [fW_congr (f := fun i => if i < m + 1 then wd ws i else 0) (g := fun i => if i < m then wd ws i else 0) fun i hi => ?_]
          · exact hB
          · have e1 : i < m := by omega
            have e2 : i < m + 1 := by omega
            simp [e1, e2]
        clear hB hK hm hmw hcm
        go_wp2
        go_roundw
        case rel => exact ⟨m + 1, by omega, by go_num, HR.out⟩
        case measure => simp [intOf]; omega
    · obtain rfl : m = L := by omega
      have HF : Hid (Blk wr B (wvs (bgL ws)) 34 ∧ Keeps (fun _ => False) w wr ∧ w.heap.size ≤ B) := by
        refine ⟨?_, hK, by rw [HB.out.2.2.2.2]; exact Nat.le_refl _⟩
        rw [bgL_fW, fW_congr (f := fun i => wd ws i) (g := fun i => if i < m then wd ws i else 0) fun i hi => ?_]
        · exact hB
        · by_cases e : i < m
          · simp [e]
          · have h1 : ws.length ≤ i := by have := HB.out.2.2.2.1; omega
            simp [e, wd, List.getD_eq_getElem?_getD, List.getElem?_eq_none h1]
      clear hB hK hm hlt
      go_wp2
      go_ret
      exact ⟨B, HF.out.2.2, rfl, HF.out.1, HF.out.2.1⟩

end Go.Proofs.Ytfcgpjojjehkiaa
