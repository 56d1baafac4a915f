import Derived.Test.YtpccdhoaicabcaaRa
import Derived.Test.YtpccdhoaicabcaaRm
import Derived.Test.YtpccdhoaicabcaaR
namespace Go.Proofs.Ytpccdhoaicabcaa
open Go.RowKit
set_option linter.unusedVariables false

theorem Try.info3 : (Try.prog.info? 3).map (fun i => (i.zero, i.size, i.bytes)) = some (some (.int .i64 0), 1, 8) := by kernel_rfl
theorem madeCells_ints (n : Nat) : madeCells (Value.int .i64 0).cells n = (List.replicate n (Value.int .i64 0)).toArray := by
  apply Array.ext'
  apply List.ext_getElem?
  intro i
  have hm : i % 1 = 0 := by omega
  simp [madeCells, List.getElem?_replicate]
  by_cases hi : i < n
  · simp [hi, Value.cells, hm]
  · simp [hi]
theorem run_make_ints {w : World} (n : Nat) (hn : n ≤ 1048576) :
    (Instr.makeSlice 28 (.int .i64 n) (.int .i64 n)).run Try.prog w = .ok (.slice (some ⟨w.heap.size, 0, none⟩) n n) (w.alloc (.cells (List.replicate n (.int .i64 0)).toArray 3)) := by
  obtain ⟨i0, hi, hz0, hz1, hz2⟩ := info_parts Try.info3
  have h := run_make (P := Try.prog) w 28 3 i0 (.int .i64 0) Try.underlying28 hi hz0 .i64 .i64 n n (by omega) (by omega) (by rw [hz2]; omega) (by omega)
  rw [hz1, Nat.mul_one, Int.toNat_natCast, madeCells_ints] at h
  exact h

theorem tab_rep : List.replicate 256 (Value.int .i64 0) = tab (fun _ => 0) := by
  unfold tab
  rw [List.map_const', List.length_range]

/-- While the numbers are set to -1. -/
def preF (j : Nat) (p : Nat) : Int := if p < j then -1 else 0

set_option maxRecDepth 20000 in
set_option maxHeartbeats 4000000 in
theorem of_any (a : Option Addr) (rs : List Rgn) (c : Nat) (w : World) (hl : rs.length ≤ c ∧ c ≤ maxLen) (hs : SegR w a rs) (hf : ∀ r, r ∈ rs → r.Fine) :
    Calls Try.prog 48 #[.slice a rs.length c] w fun e w' => ((¬ MayB rs ∧ e = .returned (.tuple #[.slice none 0 0, .bool false])) ∨
      (MayB rs ∧ e = .returned (.tuple #[.slice (some ⟨w.heap.size, 0, none⟩) 256 256, .bool true]) ∧ Blk w' w.heap.size (tab (idx rs)) 3)) ∧ Keeps (fun _ => False) w w' := by
  have hmk := run_make_ints (w := w) 256 (by omega)
  obtain ⟨W1, hW⟩ : ∃ W1, W1 = w.alloc (.cells (List.replicate 256 (Value.int .i64 0)).toArray 3) := ⟨_, rfl⟩
  rw [← hW] at hmk
  have hK1 : Keeps (fun _ => False) w W1 := by rw [hW]; exact (Keeps.refl _ w).alloc _
  have hB1 : Blk W1 w.heap.size (tab (preF 0)) 3 := by
    rw [hW, show tab (preF 0) = List.replicate 256 (Value.int .i64 0) by rw [tab_rep]; rfl]; exact Blk.new w _ 3
  obtain ⟨L, hL⟩ : ∃ L, L = rs.length := ⟨_, rfl⟩
  have hc2 : (L : Int) ≤ c := by omega
  have hc3 : (c : Int) ≤ 9223372036854775807 := by unfold maxLen at hl; omega
  have HM : Hid (_ = _) := hmk
  have H1 : Hid (Keeps (fun _ => False) w W1 ∧ Blk W1 w.heap.size (tab (preF 0)) 3 ∧ SegR w a rs ∧ L = rs.length ∧ ∀ r, r ∈ rs → r.Fine) := ⟨hK1, hB1, hs, hL, hf⟩
  rw [← hL]
  clear hmk hW hK1 hB1 hs hf hL hl
  go_enter Try.func48, Try.ntmps48
  go_wp2_with (at_make; refine wpList_make_run rfl (.const (.int .i64 256)) (.const (.int .i64 256)) 28 rfl (.int .i64 ((256 : Nat) : Int)) (.int .i64 ((256 : Nat) : Int)) (.slice (some ⟨w.heap.size, 0, none⟩) 256 256) W1 rfl rfl HM.out ?_; refine Hid.out ?_)
  unfold Hid
  go_wp2
  go_loopw [5] (fun i wr => ∃ j : Nat, j ≤ 256 ∧ i = .int .i64 j ∧ Blk wr w.heap.size (tab (preF j)) 3 ∧ Keeps (fun _ => False) w wr) (fun i _ => 256 - (intOf i).toNat)
  case atStart => exact ⟨0, by omega, rfl, H1.out.2.1, H1.out.1⟩
  case round =>
    obtain ⟨j, hj, rfl, hB, hK⟩ := hrel
    have HJ : Hid (Blk wr w.heap.size (tab (preF j)) 3 ∧ Keeps (fun _ => False) w wr) := ⟨hB, hK⟩
    by_cases hlt : j < 256
    · have cj := hB.cell (tab_get (preF j) j hlt)
      have zj := hB.frozen j
      have hlt' : (j : Int) < 256 := by omega
      obtain ⟨v0, hv0⟩ : ∃ v, v = preF j j := ⟨_, rfl⟩
      rw [← hv0] at cj
      clear hB hK hv0
      go_wp2
      go_roundw
      case rel =>
        refine ⟨j + 1, by omega, by go_num, ?_, HJ.out.2.setCell _ _ fun e => absurd e (Nat.lt_irrefl _)⟩
        have := HJ.out.1.setCell j (.int .i64 (-1))
        rw [tab_set, tab_congr (g := preF (j + 1)) (fun p hp => ?_)] at this
        · exact this
        · unfold preF; split <;> split <;> omega
      case measure => simp [intOf]; omega
    · obtain rfl : j = 256 := by omega
      clear hB hK
      have HJ2 : Hid (Blk wr w.heap.size (tab (idx (rs.take 0))) 3 ∧ Keeps (fun _ => False) w wr) := by
        have := HJ.out.1
        rw [tab_congr (g := idx (rs.take 0)) (fun p hp => ?_)] at this
        · exact ⟨this, HJ.out.2⟩
        · unfold preF; rw [if_pos hp]; rfl
      clear HJ
      go_wp2
      go_loopw [6] (fun i wr => ∃ j : Nat, j ≤ L ∧ i = .int .i64 j ∧ MayB (rs.take j) ∧ Blk wr w.heap.size (tab (idx (rs.take j))) 3 ∧ Keeps (fun _ => False) w wr) (fun i _ => L - (intOf i).toNat)
      case atStart => exact ⟨0, by omega, rfl, by intro i r h; simp at h, HJ2.out.1, HJ2.out.2⟩
      case round =>
        obtain ⟨j, hj, rfl, hm, hB, hK⟩ := hrel
        have HJ : Hid (MayB (rs.take j) ∧ Blk wr w.heap.size (tab (idx (rs.take j))) 3 ∧ Keeps (fun _ => False) w wr) := ⟨hm, hB, hK⟩
        by_cases hlt : j < L
        · obtain ⟨y, hy⟩ : ∃ y, rs[j]? = some y := ⟨_, List.getElem?_eq_getElem (by have := H1.out.2.2.2.1; omega)⟩
          obtain ⟨g, o, rfl, hg⟩ := H1.out.2.2.1.at hy
          obtain ⟨y0, y1, y2, y3⟩ := hg.kept hK fun h => h
          have HC := rmaybe_any y wr (H1.out.2.2.2.2 y (List.mem_of_getElem? hy))
          have HY : Hid (rs[j]? = some y ∧ RgAt w g (o + j * 4) y) := ⟨hy, hg⟩
          have hlt' : (j : Int) < L := by omega
          clear hm hB hK hg hy
          by_cases ho : y.ok
          · rw [decide_eq_true ho] at HC
            have HC : Hid (Calls _ _ _ _ _) := HC
            have HO : Hid y.ok := ho
            clear ho
            go_wp2_with fail
            refine HC.out.mono ?_
            rintro e w1 ⟨rfl, hK1⟩
            have HJ1 : Hid (Blk w1 w.heap.size (tab (ofK (rs.take j) y j 0)) 3 ∧ Keeps (fun _ => False) w w1) := by
              refine ⟨?_, HJ.out.2.2.trans hK1 fun _ _ h => h⟩
              rw [tab_congr (g := idx (rs.take j)) (fun p _ => ofK_zero _ _ _ p)]
              exact HJ.out.2.1.kept hK1 fun h => h
            clear hK1 HC y0 y1 y2 y3
            go_wp2
            go_loopw [7] (fun i wr => ∃ k : Nat, (k : Int) ≤ y.pages ∧ i = .int .i64 k ∧ (∀ q : Nat, q < k → ¬ 0 ≤ idx (rs.take j) (y.page.toNat + q)) ∧ Blk wr w.heap.size (tab (ofK (rs.take j) y j k)) 3 ∧ Keeps (fun _ => False) w wr) (fun i _ => y.pages.toNat - (intOf i).toNat)
            case atStart => exact ⟨0, by have := HO.out; unfold Rgn.ok at this; omega, rfl, fun q h => by omega, HJ1.out.1, HJ1.out.2⟩
            case round =>
              obtain ⟨k, hk, rfl, hn, hB, hK⟩ := hrel
              have HJ2 : Hid ((∀ q : Nat, q < k → ¬ 0 ≤ idx (rs.take j) (y.page.toNat + q)) ∧ Blk wr w.heap.size (tab (ofK (rs.take j) y j k)) 3 ∧ Keeps (fun _ => False) w wr) := ⟨hn, hB, hK⟩
              obtain ⟨y0, y1, y2, y3⟩ := HY.out.2.kept hK fun h => h
              obtain ⟨o1, o2, o3, _⟩ := HO.out
              by_cases hkl : (k : Int) < y.pages
              · obtain ⟨P, hP⟩ : ∃ P : Nat, y.page = P := ⟨y.page.toNat, by omega⟩
                have hq : P + k < 256 := by omega
                have hqi : ((P + k : Nat) : Int) = y.page + k := by omega
                have cj := hB.cell (tab_get (ofK (rs.take j) y j k) (P + k) hq)
                have zj := hB.frozen (P + k)
                have hPt : y.page.toNat = P := by omega
                have hat := ofK_at (rs.take j) y j k (P + k) hqi
                obtain ⟨v0, hv0⟩ : ∃ v, v = ofK (rs.take j) y j k (P + k) := ⟨_, rfl⟩
                rw [← hv0] at cj hat
                rw [hP] at y0 o1 o3
                have hq' : (P : Int) + k < 256 := by omega
                have HP : Hid (y.page = P ∧ y.page.toNat = P ∧ ((P + k : Nat) : Int) = y.page + k ∧ (k : Int) < y.pages) := ⟨hP, hPt, hqi, hkl⟩
                clear hn hB hK hq hqi hPt hv0 hP
                by_cases hv : 0 ≤ v0
                · have HB : Hid (¬ MayB rs) := may_twice (k := k) HY.out.1 HO.out HP.out.2.2.2 (by rw [HP.out.2.1]; exact hat.1 hv)
                  clear hat
                  go_wp2
                  go_ret2
                  exact ⟨.inl ⟨HB.out, rfl⟩, HJ2.out.2.2⟩
                · have HN : Hid (¬ 0 ≤ idx (rs.take j) (P + k)) := fun h => hv (hat.2 h)
                  clear hat
                  go_wp2
                  go_roundw
                  case rel =>
                    refine ⟨k + 1, by omega, by go_num, fun q hq => ?_, ?_, HJ2.out.2.2.setCell _ _ fun e => absurd e (Nat.lt_irrefl _)⟩
                    · by_cases hqk : q < k
                      · exact HJ2.out.1 q hqk
                      · obtain rfl : q = k := by omega
                        rw [HP.out.2.1]; exact HN.out
                    · have := HJ2.out.2.1.setCell (P + k) (.int .i64 (j : Int))
                      rw [tab_set, tab_congr (g := ofK (rs.take j) y j (k + 1)) (fun p _ => ofK_step (rs.take j) y j k (P + k) HP.out.2.2.1 HN.out p)] at this
                      exact this
                  case measure => simp [intOf]; omega
              · have hkk : y.pages = k := by omega
                clear hB hK hn
                have HM2 : Hid (MayB (rs.take (j + 1)) ∧ Blk wr w.heap.size (tab (idx (rs.take (j + 1)))) 3 ∧ Keeps (fun _ => False) w wr) := by
                  refine ⟨may_next HJ.out.1 HY.out.1 HO.out fun q hq => HJ2.out.1 q (by omega), ?_, HJ2.out.2.2⟩
                  have := HJ2.out.2.1
                  have hlen : (rs.take j).length = j := by have := H1.out.2.2.2.1; simp; omega
                  have e : rs.take (j + 1) = rs.take j ++ [y] := by rw [List.take_add_one, HY.out.1]; rfl
                  rw [e, ← tab_congr (f := ofK (rs.take j) y j k) (fun p _ => ?_)]
                  · exact this
                  · have := ofK_full (rs.take j) y k p hkk
                    rw [hlen] at this; exact this
                clear HJ2
                go_wp2
                go_roundw
                case rel => exact ⟨_, _, _, ⟨j + 1, by omega, rfl, HM2.out.1, HM2.out.2.1, HM2.out.2.2⟩, rfl, rfl, by go_num⟩
                case measure => simp [intOf]; omega
          · rw [decide_eq_false ho] at HC
            have HC : Hid (Calls _ _ _ _ _) := HC
            have HB : Hid (¬ MayB rs) := may_not_ok HY.out.1 ho
            clear ho
            go_wp2_with fail
            refine HC.out.mono ?_
            rintro e w1 ⟨rfl, hK1⟩
            have HJ1 : Hid (Keeps (fun _ => False) w w1) := HJ.out.2.2.trans hK1 fun _ _ h => h
            clear hK1 HC y0 y1 y2 y3
            go_wp2
            go_ret2
            exact ⟨.inl ⟨HB.out, rfl⟩, HJ1.out⟩
        · obtain rfl : j = L := by omega
          clear hm hB hK
          have HE : Hid (MayB rs ∧ Blk wr w.heap.size (tab (idx rs)) 3) := by
            have h1 := HJ.out.1
            have h2 := HJ.out.2.1
            rw [List.take_of_length_le (by have := H1.out.2.2.2.1; omega)] at h1 h2
            exact ⟨h1, h2⟩
          go_wp2
          go_ret2
          exact ⟨.inr ⟨HE.out.1, rfl, HE.out.2⟩, HJ.out.2.2⟩

end Go.Proofs.Ytpccdhoaicabcaa
