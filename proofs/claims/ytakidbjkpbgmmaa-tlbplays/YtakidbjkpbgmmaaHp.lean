import Derived.Test.YtakidbjkpbgmmaaRc
namespace Go.Proofs.Ytakidbjkpbgmmaa
open Go.RowKit Go.Shelf
set_option linter.unusedVariables false
set_option linter.unusedSimpArgs false

theorem page_any (l : Lf) (pb : Nat) (p : Int) (w : World) (hp : w.cell? ⟨pb, 0, none⟩ = some (.int .i64 p)) :
    Calls Try.prog 50 #[l.v, .pointer (some ⟨pb, 0, none⟩)] w fun r w' => r = .returned (.bool (l.p == p)) ∧ Keeps (fun _ => False) w w' := by
  have hlt := World.block_lt_of_cell? w _ hp
  go_enter Try.func50, Try.ntmps50
  go_wp2
  go_ret
  exact ⟨rfl, (Keeps.refl _ w).alloc _⟩

set_option maxHeartbeats 1000000 in
theorem index_any (a : Option Addr) (ls : List Lf) (c pb : Nat) (p : Int) (w : World) (hl : ls.length ≤ c ∧ c ≤ maxLen) (hs : SegL w a ls) (hp : w.cell? ⟨pb, 0, none⟩ = some (.int .i64 p)) :
    Calls Try.prog 51 #[.slice a ls.length c, .func (.func 50) #[] #[.pointer (some ⟨pb, 0, none⟩)]] w fun r w' => (∃ q : Int, r = .returned (.int .i64 q) ∧ ((q = -1 ∧ findT p ls = none) ∨ ∃ (i : Nat) (x : Lf), q = i ∧ findT p ls = some x)) ∧ Keeps (fun _ => False) w w' := by
  obtain ⟨L, hL⟩ : ∃ L, L = ls.length := ⟨_, rfl⟩
  have HS : Hid (SegL w a ls ∧ L = ls.length ∧ w.cell? ⟨pb, 0, none⟩ = some (.int .i64 p)) := ⟨hs, hL, hp⟩
  have hc2 : (L : Int) ≤ c := by omega
  have hc3 : (c : Int) ≤ 9223372036854775807 := by unfold maxLen at hl; omega
  rw [← hL]
  clear hl hs hL hp
  go_enter Try.func51, Try.ntmps51
  go_wp2
  go_loopw [8] (fun i wr => ∃ j : Nat, j ≤ L ∧ i = .int .i64 j ∧ findT p (ls.take j) = none ∧ Keeps (fun _ => False) w wr) (fun i _ => L - (intOf i).toNat)
  case atStart => exact ⟨0, by omega, rfl, by simp [findT], Keeps.refl _ _⟩
  case round =>
    obtain ⟨j, hj, rfl, hn, hK⟩ := hrel
    by_cases hlt : j < L
    · obtain ⟨y, hy⟩ : ∃ y, ls[j]? = some y := ⟨_, List.getElem?_eq_getElem (by have := HS.out.2.1; omega)⟩
      obtain ⟨g, o, rfl, hg⟩ : ∃ g o, a = some ⟨g, o, none⟩ ∧ LeafAt w g (o + j * 3) y := by
        rcases HS.out.1 with h | ⟨g, o, ha, h⟩
        · rw [h] at hy; simp at hy
        · exact ⟨g, o, ha, h j y hy⟩
      obtain ⟨y0, y1, y2⟩ := hg.kept hK fun h => h
      have hpr : wr.cell? ⟨pb, 0, none⟩ = some (.int .i64 p) := by
        rw [World.cell?_of_block (w := w) (hK.block pb (World.block_lt_of_cell? w _ HS.out.2.2) fun h => h)]; exact HS.out.2.2
      have HC : Hid (Calls _ _ _ _ _) := page_any y pb p wr hpr
      have HJ : Hid (findT p (ls.take j) = none ∧ ls[j]? = some y ∧ Keeps (fun _ => False) w wr) := ⟨hn, hy, hK⟩
      clear hn hy hK hg hpr
      by_cases hyp : y.p = p
      · rw [show (y.p == p) = true by simpa using hyp] at HC
        have HF : Hid (findT p ls = some y) := findT_take_hit HJ.out.1 HJ.out.2.1 hyp
        clear hyp
        go_wp2_with fail
        refine HC.out.mono ?_
        rintro r w1 ⟨rfl, hK1⟩
        have HK : Hid (Keeps (fun _ => False) w w1) := HJ.out.2.2.trans hK1 fun _ _ h => h
        clear hK1 HC y0 y1 y2
        go_wp2
        go_ret
        exact ⟨⟨j, rfl, .inr ⟨j, y, rfl, HF.out⟩⟩, HK.out⟩
      · rw [show (y.p == p) = false by simpa using hyp] at HC
        have HF : Hid (findT p (ls.take (j + 1)) = none) := findT_take_none HJ.out.1 HJ.out.2.1 hyp
        clear hyp
        go_wp2_with fail
        refine HC.out.mono ?_
        rintro r w1 ⟨rfl, hK1⟩
        have HK : Hid (Keeps (fun _ => False) w w1) := HJ.out.2.2.trans hK1 fun _ _ h => h
        clear hK1 HC y0 y1 y2
        go_wp2
        go_roundw
        case rel => exact ⟨j + 1, by omega, by go_num, HF.out, HK.out⟩
        case measure => simp [intOf]; omega
    · obtain rfl : j = L := by omega
      have HH : Hid (findT p ls = none ∧ Keeps (fun _ => False) w wr) := by
        rw [List.take_of_length_le (by have := HS.out.2.1; omega)] at hn
        exact ⟨hn, hK⟩
      clear hn hK
      go_wp2
      go_ret
      exact ⟨⟨-1, rfl, .inl ⟨rfl, HH.out.1⟩⟩, HH.out.2⟩

theorem contains_any (a : Option Addr) (ls : List Lf) (c pb : Nat) (p : Int) (w : World) (hl : ls.length ≤ c ∧ c ≤ maxLen) (hs : SegL w a ls) (hp : w.cell? ⟨pb, 0, none⟩ = some (.int .i64 p)) :
    Calls Try.prog 49 #[.slice a ls.length c, .func (.func 50) #[] #[.pointer (some ⟨pb, 0, none⟩)]] w fun r w' => r = .returned (.bool (findT p ls).isSome) ∧ Keeps (fun _ => False) w w' := by
  have HC : Hid (Calls _ _ _ _ _) := index_any a ls c pb p w hl hs hp
  obtain ⟨L, hL⟩ : ∃ L, L = ls.length := ⟨_, rfl⟩
  rw [← hL] at HC ⊢
  clear hl hs hp hL
  go_enter Try.func49, Try.ntmps49
  go_wp2_with fail
  refine HC.out.mono ?_
  rintro r w1 ⟨⟨q, rfl, hq⟩, hK⟩
  have HK : Hid (Keeps (fun _ => False) w w1) := hK
  clear hK HC
  rcases hq with ⟨rfl, hf⟩ | ⟨i, x, rfl, hf⟩
  · have HF : Hid (findT p ls = none) := hf
    clear hf
    go_wp2
    go_ret
    exact ⟨by rw [HF.out]; rfl, HK.out⟩
  · have HF : Hid (findT p ls = some x) := hf
    clear hf
    have hi : (0 : Int) ≤ i := by omega
    go_wp2
    go_ret
    exact ⟨by rw [HF.out]; first | rfl | simp [hi], HK.out⟩

theorem hasPage_any (a : Option Addr) (ls : List Lf) (c : Nat) (p : Int) (w : World) (hl : ls.length ≤ c ∧ c ≤ maxLen) (hs : SegL w a ls) :
    Calls Try.prog 44 #[.slice a ls.length c, .int .i64 p] w fun r w' => r = .returned (.bool (findT p ls).isSome) ∧ Keeps (fun _ => False) w w' := by
  obtain ⟨W, hW⟩ : ∃ W, W = w.alloc (.cells #[.int .i64 p] 3) := ⟨_, rfl⟩
  have hKW : Keeps (fun _ => False) w W := by rw [hW]; exact (Keeps.refl _ w).alloc _
  have hB : Blk W w.heap.size [.int .i64 p] 3 := by rw [hW]; exact Blk.new w _ 3
  have HC : Hid (Calls _ _ _ _ _) := contains_any a ls c w.heap.size p W hl (hs.kept hKW fun _ _ h => h) (hB.cell rfl)
  have HW : Hid (W = _ ∧ Keeps (fun _ => False) w W) := ⟨hW, hKW⟩
  obtain ⟨L, hL⟩ : ∃ L, L = ls.length := ⟨_, rfl⟩
  rw [← hL] at HC ⊢
  obtain ⟨b, hb⟩ : ∃ b, b = (findT p ls).isSome := ⟨_, rfl⟩
  rw [← hb] at HC ⊢
  clear hl hs hL hb hW hKW hB
  go_enter Try.func44, Try.ntmps44
  go_wp2_with fail
  rw [← HW.out.1]
  refine HC.out.mono ?_
  rintro r w1 ⟨rfl, hK⟩
  have HK : Hid (Keeps (fun _ => False) w w1) := HW.out.2.trans hK fun _ _ h => h
  clear hK HC
  go_wp2
  go_ret
  exact ⟨rfl, HK.out⟩

end Go.Proofs.Ytakidbjkpbgmmaa
