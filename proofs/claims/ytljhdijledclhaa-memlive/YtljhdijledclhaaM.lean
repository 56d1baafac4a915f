import Derived.Test.YtljhdijledclhaaL
namespace Go.Proofs.Ytljhdijledclhaa
open Go.RowKit Go.Shelf
set_option linter.unusedVariables false

/-- What a list begins with, over zeros. -/
def over (n : Nat) (us : List UInt32) (j : Nat) : List UInt32 := us.take j ++ List.replicate (n - j) 0
theorem over_length (n : Nat) (us : List UInt32) (j : Nat) (h1 : j ≤ us.length) (h2 : j ≤ n) : (over n us j).length = n := by simp [over]; omega
theorem over_step (n : Nat) (us : List UInt32) (j : Nat) (h1 : j < us.length) (h2 : j < n) : (wvs (over n us j)).set j (.int .u32 ((us[j]'h1).toNat : Int)) = wvs (over n us (j + 1)) := by
  have hl : (wvs (us.take j)).length = j := by rw [wvs_length, List.length_take]; omega
  unfold over
  rw [wvs_append, List.set_append_right _ _ (by omega), hl, Nat.sub_self, List.take_succ_eq_append_getElem h1, wvs_append, wvs_append]
  obtain ⟨d, hd⟩ : ∃ d, n - j = d + 1 := ⟨n - j - 1, by omega⟩
  rw [hd, show n - (j + 1) = d by omega, List.replicate_succ]
  simp [wvs]

set_option maxRecDepth 20000 in
set_option maxHeartbeats 2000000 in
theorem made_any (a : Option Addr) (c : Nat) (us : List UInt32) (w : World) (hx : SegW w a us) (hl : us.length ≤ maxLen) :
    Calls Try.prog 25 #[.slice a us.length c] w fun e w' => ∃ b g xs, w.heap.size < g ∧ g < b ∧ e = .returned (.tuple #[.pointer (some ⟨b, 0, none⟩), .slice (some ⟨w.heap.size, 0, none⟩) xs.length xs.length]) ∧
      xs.length ≤ 48 ∧ Mm w' b g xs ∧ Blk w' w.heap.size (wvs xs) 26 ∧ Keeps (fun _ => False) w w' := by
  obtain ⟨n1, hn1⟩ : ∃ n, n = us.length := ⟨_, rfl⟩
  have HN : Hid (n1 = us.length) := hn1
  have HX : Hid (SegW w a us) := hx
  rw [← hn1] at hl ⊢
  obtain ⟨r, hr⟩ : ∃ r : Nat, r = 1 + n1 % 3 := ⟨_, rfl⟩
  have hr3 : (1 : Int) + (n1 : Int) % 3 = (r : Int) := by omega
  have hmk := run_make_words (w := w) (r * 16) (by omega)
  obtain ⟨W1, hW⟩ : ∃ W1, W1 = w.alloc (.cells (wvs (List.replicate (r * 16) 0)).toArray 26) := ⟨_, rfl⟩
  rw [← hW] at hmk
  have hK1 : Keeps (fun _ => False) w W1 := by rw [hW]; exact (Keeps.refl _ w).alloc _
  have hB1 : Blk W1 w.heap.size (wvs (List.replicate (r * 16) 0)) 26 := by rw [hW]; exact Blk.new w _ 26
  have HR : Hid (1 ≤ r ∧ r ≤ 3) := ⟨by omega, by omega⟩
  have HR3 : Hid ((1 : Int) + (n1 : Int) % 3 = (r : Int)) := hr3
  obtain ⟨n, hn⟩ : ∃ n : Nat, n = r * 16 := ⟨_, rfl⟩
  have HNr : Hid (n = r * 16) := hn
  rw [← hn] at hmk hB1
  have e1 : (16 : Int) * (1 + (n1 : Int) % 3) = (n : Int) := by omega
  have HE : Hid ((16 : Int) * (1 + (n1 : Int) % 3) = (n : Int)) := e1
  have hm1 : (n1 : Int) ≤ 9223372036854775807 := by unfold maxLen at hl; omega
  have hn48 : (n : Int) ≤ 48 := by omega
  rw [← e1] at hmk
  have HM : Hid (_ = _) := hmk
  have HK : Hid (Keeps _ _ _) := hK1
  have HB : Hid (Blk _ _ _ _) := hB1
  clear hmk hW hK1 hB1 e1 hn hr hr3 hl hx hn1
  go_enter Try.func25, Try.ntmps25
  go_wp2_with (at_make; refine wpList_make_run rfl (.tmp 12) (.tmp 12) 27 rfl (.int .i64 ((16 : Int) * (1 + (n1 : Int) % 3))) (.int .i64 ((16 : Int) * (1 + (n1 : Int) % 3))) (.slice (some ⟨w.heap.size, 0, none⟩) n n) W1 rfl rfl HM.out ?_; refine Hid.out ?_)
  unfold Hid
  go_upto_block 0 with fail
  go_cut [5] from 14 to 32 (fun i wc => ∃ xs, xs.length = n ∧ Blk wc w.heap.size (wvs xs) 26 ∧ Keeps (fun _ => False) w wc)
  case first =>
    go_wp2
    go_loopw [5] (fun i wr => ∃ j : Nat, j ≤ n ∧ j ≤ n1 ∧ i = .int .i64 j ∧ Blk wr w.heap.size (wvs (over n us j)) 26 ∧ Keeps (fun _ => False) w wr)
      (fun i _ => n - (intOf i).toNat)
    case atStart => exact ⟨0, by omega, by omega, rfl, by simpa [over] using HB.out, HK.out⟩
    case round =>
      obtain ⟨j, hj, hj1, rfl, hBr, hKr⟩ := hrel
      have HBr : Hid (Blk wr _ _ _) := hBr
      have HKr : Hid (Keeps (fun _ => False) w wr) := hKr
      clear hBr hKr
      by_cases hlt : j < n1 ∧ j < n
      · obtain ⟨hl1, hl2⟩ := hlt
        have hju : j < us.length := by have := HN.out; omega
        rcases HX.out with h0 | ⟨B, o, rfl, hcell⟩
        · exact absurd hju (by rw [h0]; simp)
        · have cu := cell_kept' (hcell j hju) HKr.out fun e => e
          have hol : j < (over n us j).length := by rw [over_length n us j (by omega) (by omega)]; exact hl2
          have cw := HBr.out.cell (wvs_get _ j hol)
          have zw := HBr.out.frozen j
          have hst : Hid (_ = _) := over_step n us j hju hl2
          obtain ⟨y, hy⟩ : ∃ y : Nat, y = (us[j]'hju).toNat := ⟨_, rfl⟩
          obtain ⟨v, hv⟩ : ∃ v : Nat, v = ((over n us j)[j]'hol).toNat := ⟨_, rfl⟩
          rw [← hv] at cw
          rw [← hy] at cu
          have HY : Hid (y = (us[j]'hju).toNat) := hy
          clear hcell hy hv
          go_wp2
          go_roundw
          case rel => exact ⟨j + 1, by omega, by omega, by go_num, by rw [← hst.out, ← HY.out]; exact HBr.out.setCell _ _, HKr.out.setCell _ _ fun h => by
            have : w.heap.size < w.heap.size := h
            omega⟩
          case measure => simp [intOf]; omega
      · have hol : (over n us j).length = n := over_length n us j (by have := HN.out; omega) hj
        by_cases hl1 : j < n1
        · have hl2 : n ≤ j := by omega
          clear hlt
          go_wp2
          go_meet
          case rel => exact ⟨_, hol, HBr.out, HKr.out⟩
        · clear hlt
          go_wp2
          go_meet
          case rel => exact ⟨_, hol, HBr.out, HKr.out⟩
  case rest =>
    obtain ⟨xs, hxl, hBx, hKx⟩ := hcut
    have HBx : Hid (Blk _ _ _ _) := hBx
    have HKx : Hid (Keeps _ _ _) := hKx
    have HXL : Hid (xs.length = n) := hxl
    have HO : Hid (Calls _ _ _ wc _) := of_in (some ⟨w.heap.size, 0, none⟩) n r xs wc (segW_of_blk hBx) (by rw [hxl]; exact HNr.out) HR.out.1 (by have := HR.out; omega)
    rw [hxl] at HO
    have hlt := hBx.lt
    have HLT : Hid (w.heap.size < wc.heap.size) := hlt
    clear hxl hBx hKx hlt
    go_wp2_with fail
    refine HO.out.mono ?_
    rintro e w2 ⟨b, hb, rfl, hM, hK⟩
    have HF : Hid (wc.heap.size < b ∧ Mm w2 b wc.heap.size xs ∧ Blk w2 w.heap.size (wvs xs) 26 ∧ Keeps (fun _ => False) w w2) := ⟨hb, hM, HBx.out.kept hK (fun e => e), HKx.out.trans hK fun _ _ e => e⟩
    clear hb hM hK HO
    go_wp2
    go_ret2
    exact ⟨b, wc.heap.size, xs, HLT.out, HF.out.1, by rw [HXL.out]; rfl, by have := HXL.out; omega, HF.out.2.1, HF.out.2.2.1, HF.out.2.2.2⟩

end Go.Proofs.Ytljhdijledclhaa
