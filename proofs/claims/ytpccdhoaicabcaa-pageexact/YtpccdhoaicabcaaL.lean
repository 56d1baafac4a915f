import Derived.Test.YtpccdhoaicabcaaK
import Derived.OwnWalkIn
namespace Go.Proofs.Ytpccdhoaicabcaa
open Go.RowKit
set_option linter.unusedVariables false

set_option maxHeartbeats 1000000 in
theorem index_72 (a : Option Addr) (rs : List Rgn) (c pb : Nat) (q : Rgn → Bool) (w : World) (hl : rs.length ≤ c ∧ c ≤ maxLen) (hs : SegR w a rs)
    (hq : ∀ r, r ∈ rs → ∀ W, Keeps (fun _ => False) w W → Calls Try.prog 72 #[r.v, .pointer (some ⟨pb, 0, none⟩)] W fun e w' => e = .returned (.bool (q r)) ∧ Keeps (fun _ => False) W w') :
    Calls Try.prog 70 #[.slice a rs.length c, .func (.func 72) #[] #[.pointer (some ⟨pb, 0, none⟩)]] w fun e w' => (∃ z : Int, e = .returned (.int .i64 z) ∧ decide (0 ≤ z) = rs.any q) ∧ Keeps (fun _ => False) w w' := by
  obtain ⟨L, hL⟩ : ∃ L, L = rs.length := ⟨_, rfl⟩
  have HS : Hid (SegR w a rs ∧ L = rs.length ∧ ∀ r, r ∈ rs → ∀ W, Keeps (fun _ => False) w W → Calls Try.prog 72 #[r.v, .pointer (some ⟨pb, 0, none⟩)] W fun e w' => e = .returned (.bool (q r)) ∧ Keeps (fun _ => False) W w') := ⟨hs, hL, hq⟩
  have hc2 : (L : Int) ≤ c := by omega
  have hc3 : (c : Int) ≤ 9223372036854775807 := by unfold maxLen at hl; omega
  rw [← hL]
  clear hl hs hL hq
  go_enter Try.func70, Try.ntmps70
  go_wp2
  go_loopw [8] (fun i wr => ∃ j : Nat, j ≤ L ∧ i = .int .i64 j ∧ (rs.take j).any q = false ∧ Keeps (fun _ => False) w wr) (fun i _ => L - (intOf i).toNat)
  case atStart => exact ⟨0, by omega, rfl, by simp, Keeps.refl _ _⟩
  case round =>
    obtain ⟨j, hj, rfl, hn, hK⟩ := hrel
    by_cases hlt : j < L
    · obtain ⟨y, hy⟩ : ∃ y, rs[j]? = some y := ⟨_, List.getElem?_eq_getElem (by have := HS.out.2.1; omega)⟩
      obtain ⟨g, o, rfl, hg⟩ := HS.out.1.at hy
      obtain ⟨y0, y1, y2, y3⟩ := hg.kept hK fun h => h
      have HC := HS.out.2.2 y (List.mem_of_getElem? hy) wr hK
      have HJ : Hid ((rs.take j).any q = false ∧ rs[j]? = some y ∧ Keeps (fun _ => False) w wr) := ⟨hn, hy, hK⟩
      clear hn hy hK hg
      cases hq : q y
      · rw [hq] at HC
        have HC : Hid (Calls _ _ _ _ _) := HC
        have HF : Hid ((rs.take (j + 1)).any q = false) := by
          have := HJ.out.2.1
          show (rs.take (j + 1)).any q = false
          rw [List.take_add_one, this, List.any_append, HJ.out.1]
          simp [hq]
        clear hq
        go_wp2_with fail
        refine HC.out.mono ?_
        rintro r w1 ⟨rfl, hK1⟩
        have HK : Hid (Keeps (fun _ => False) w w1) := HJ.out.2.2.trans hK1 fun _ _ h => h
        clear hK1 HC y0 y1 y2 y3
        go_wp2
        go_roundw
        case rel => exact ⟨j + 1, by omega, by go_num, HF.out, HK.out⟩
        case measure => simp [intOf]; omega
      · rw [hq] at HC
        have HC : Hid (Calls _ _ _ _ _) := HC
        have HF : Hid (rs.any q = true) := List.any_eq_true.2 ⟨y, List.mem_of_getElem? HJ.out.2.1, hq⟩
        clear hq
        go_wp2_with fail
        refine HC.out.mono ?_
        rintro r w1 ⟨rfl, hK1⟩
        have HK : Hid (Keeps (fun _ => False) w w1) := HJ.out.2.2.trans hK1 fun _ _ h => h
        clear hK1 HC y0 y1 y2 y3
        go_wp2
        go_ret
        exact ⟨⟨j, rfl, by rw [HF.out]; simp⟩, HK.out⟩
    · obtain rfl : j = L := by omega
      have HH : Hid (rs.any q = false ∧ Keeps (fun _ => False) w wr) := by
        rw [List.take_of_length_le (by have := HS.out.2.1; omega)] at hn
        exact ⟨hn, hK⟩
      clear hn hK
      go_wp2
      go_ret
      exact ⟨⟨-1, rfl, by rw [HH.out.1]; rfl⟩, HH.out.2⟩

set_option maxHeartbeats 400000 in
theorem contains_72 (a : Option Addr) (rs : List Rgn) (c pb : Nat) (q : Rgn → Bool) (w : World) (hl : rs.length ≤ c ∧ c ≤ maxLen) (hs : SegR w a rs)
    (hq : ∀ r, r ∈ rs → ∀ W, Keeps (fun _ => False) w W → Calls Try.prog 72 #[r.v, .pointer (some ⟨pb, 0, none⟩)] W fun e w' => e = .returned (.bool (q r)) ∧ Keeps (fun _ => False) W w') :
    Calls Try.prog 58 #[.slice a rs.length c, .func (.func 72) #[] #[.pointer (some ⟨pb, 0, none⟩)]] w fun e w' => e = .returned (.bool (rs.any q)) ∧ Keeps (fun _ => False) w w' := by
  have HC : Hid (Calls _ _ _ _ _) := index_72 a rs c pb q w hl hs hq
  obtain ⟨L, hL⟩ : ∃ L, L = rs.length := ⟨_, rfl⟩
  rw [← hL] at HC ⊢
  clear hl hs hq hL
  go_enter Try.func58, Try.ntmps58
  go_wp2_with fail
  refine HC.out.mono ?_
  rintro r w1 ⟨⟨z, rfl, hz⟩, hK1⟩
  have HK : Hid (decide (0 ≤ z) = rs.any q ∧ Keeps (fun _ => False) w w1) := ⟨hz, hK1⟩
  clear hz hK1 HC
  go_wp2
  go_ret
  exact ⟨ret_bool HK.out.1, HK.out.2⟩

set_option maxHeartbeats 1000000 in
theorem index_59 (a : Option Addr) (rs : List Rgn) (c pb : Nat) (q : Rgn → Bool) (w : World) (hl : rs.length ≤ c ∧ c ≤ maxLen) (hs : SegR w a rs)
    (hq : ∀ r, r ∈ rs → ∀ W, Keeps (fun _ => False) w W → Calls Try.prog 59 #[r.v, .pointer (some ⟨pb, 0, none⟩)] W fun e w' => e = .returned (.bool (q r)) ∧ Keeps (fun _ => False) W w') :
    Calls Try.prog 70 #[.slice a rs.length c, .func (.func 59) #[] #[.pointer (some ⟨pb, 0, none⟩)]] w fun e w' => (∃ z : Int, e = .returned (.int .i64 z) ∧ decide (0 ≤ z) = rs.any q) ∧ Keeps (fun _ => False) w w' := by
  obtain ⟨L, hL⟩ : ∃ L, L = rs.length := ⟨_, rfl⟩
  have HS : Hid (SegR w a rs ∧ L = rs.length ∧ ∀ r, r ∈ rs → ∀ W, Keeps (fun _ => False) w W → Calls Try.prog 59 #[r.v, .pointer (some ⟨pb, 0, none⟩)] W fun e w' => e = .returned (.bool (q r)) ∧ Keeps (fun _ => False) W w') := ⟨hs, hL, hq⟩
  have hc2 : (L : Int) ≤ c := by omega
  have hc3 : (c : Int) ≤ 9223372036854775807 := by unfold maxLen at hl; omega
  rw [← hL]
  clear hl hs hL hq
  go_enter Try.func70, Try.ntmps70
  go_wp2
  go_loopw [8] (fun i wr => ∃ j : Nat, j ≤ L ∧ i = .int .i64 j ∧ (rs.take j).any q = false ∧ Keeps (fun _ => False) w wr) (fun i _ => L - (intOf i).toNat)
  case atStart => exact ⟨0, by omega, rfl, by simp, Keeps.refl _ _⟩
  case round =>
    obtain ⟨j, hj, rfl, hn, hK⟩ := hrel
    by_cases hlt : j < L
    · obtain ⟨y, hy⟩ : ∃ y, rs[j]? = some y := ⟨_, List.getElem?_eq_getElem (by have := HS.out.2.1; omega)⟩
      obtain ⟨g, o, rfl, hg⟩ := HS.out.1.at hy
      obtain ⟨y0, y1, y2, y3⟩ := hg.kept hK fun h => h
      have HC := HS.out.2.2 y (List.mem_of_getElem? hy) wr hK
      have HJ : Hid ((rs.take j).any q = false ∧ rs[j]? = some y ∧ Keeps (fun _ => False) w wr) := ⟨hn, hy, hK⟩
      clear hn hy hK hg
      cases hq : q y
      · rw [hq] at HC
        have HC : Hid (Calls _ _ _ _ _) := HC
        have HF : Hid ((rs.take (j + 1)).any q = false) := by
          have := HJ.out.2.1
          show (rs.take (j + 1)).any q = false
          rw [List.take_add_one, this, List.any_append, HJ.out.1]
          simp [hq]
        clear hq
        go_wp2_with fail
        refine HC.out.mono ?_
        rintro r w1 ⟨rfl, hK1⟩
        have HK : Hid (Keeps (fun _ => False) w w1) := HJ.out.2.2.trans hK1 fun _ _ h => h
        clear hK1 HC y0 y1 y2 y3
        go_wp2
        go_roundw
        case rel => exact ⟨j + 1, by omega, by go_num, HF.out, HK.out⟩
        case measure => simp [intOf]; omega
      · rw [hq] at HC
        have HC : Hid (Calls _ _ _ _ _) := HC
        have HF : Hid (rs.any q = true) := List.any_eq_true.2 ⟨y, List.mem_of_getElem? HJ.out.2.1, hq⟩
        clear hq
        go_wp2_with fail
        refine HC.out.mono ?_
        rintro r w1 ⟨rfl, hK1⟩
        have HK : Hid (Keeps (fun _ => False) w w1) := HJ.out.2.2.trans hK1 fun _ _ h => h
        clear hK1 HC y0 y1 y2 y3
        go_wp2
        go_ret
        exact ⟨⟨j, rfl, by rw [HF.out]; simp⟩, HK.out⟩
    · obtain rfl : j = L := by omega
      have HH : Hid (rs.any q = false ∧ Keeps (fun _ => False) w wr) := by
        rw [List.take_of_length_le (by have := HS.out.2.1; omega)] at hn
        exact ⟨hn, hK⟩
      clear hn hK
      go_wp2
      go_ret
      exact ⟨⟨-1, rfl, by rw [HH.out.1]; rfl⟩, HH.out.2⟩

set_option maxHeartbeats 400000 in
theorem contains_59 (a : Option Addr) (rs : List Rgn) (c pb : Nat) (q : Rgn → Bool) (w : World) (hl : rs.length ≤ c ∧ c ≤ maxLen) (hs : SegR w a rs)
    (hq : ∀ r, r ∈ rs → ∀ W, Keeps (fun _ => False) w W → Calls Try.prog 59 #[r.v, .pointer (some ⟨pb, 0, none⟩)] W fun e w' => e = .returned (.bool (q r)) ∧ Keeps (fun _ => False) W w') :
    Calls Try.prog 58 #[.slice a rs.length c, .func (.func 59) #[] #[.pointer (some ⟨pb, 0, none⟩)]] w fun e w' => e = .returned (.bool (rs.any q)) ∧ Keeps (fun _ => False) w w' := by
  have HC : Hid (Calls _ _ _ _ _) := index_59 a rs c pb q w hl hs hq
  obtain ⟨L, hL⟩ : ∃ L, L = rs.length := ⟨_, rfl⟩
  rw [← hL] at HC ⊢
  clear hl hs hq hL
  go_enter Try.func58, Try.ntmps58
  go_wp2_with fail
  refine HC.out.mono ?_
  rintro r w1 ⟨⟨z, rfl, hz⟩, hK1⟩
  have HK : Hid (decide (0 ≤ z) = rs.any q ∧ Keeps (fun _ => False) w w1) := ⟨hz, hK1⟩
  clear hz hK1 HC
  go_wp2
  go_ret
  exact ⟨ret_bool HK.out.1, HK.out.2⟩

set_option maxHeartbeats 400000 in
theorem meetsOne_any (r : Rgn) (a : Option Addr) (rs : List Rgn) (c : Nat) (w : World) (hl : rs.length ≤ c ∧ c ≤ maxLen) (hs : SegR w a rs) (hr : r.ok) (ho : ∀ o, o ∈ rs → o.ok) :
    Calls Try.prog 67 #[r.v, .slice a rs.length c] w fun e w' => e = .returned (.bool (rs.any fun o => decide (meets r o))) ∧ Keeps (fun _ => False) w w' := by
  obtain ⟨W, hW⟩ : ∃ W, W = w.alloc (.cells #[.int .i64 r.page, .int .i64 r.pages, .int .i64 r.frame, .int .i64 r.rights] 54) := ⟨_, rfl⟩
  have hB : Blk W w.heap.size r.vs 54 := by rw [hW]; exact Blk.new w _ 54
  have hK : Keeps (fun _ => False) w W := by rw [hW]; exact (Keeps.refl _ w).alloc _
  have HC : Hid (Calls _ _ _ _ _) := contains_72 a rs c w.heap.size (fun o => decide (meets r o)) W hl (hs.grown hK) fun o ho' W' hK' => meet_any r o w.heap.size W' (hB.rg.kept hK' fun h => h) hr (ho o ho')
  have HW : Hid (W = _ ∧ Keeps (fun _ => False) w W) := ⟨hW, hK⟩
  obtain ⟨L, hL⟩ : ∃ L, L = rs.length := ⟨_, rfl⟩
  rw [← hL] at HC ⊢
  clear hl hs hr ho hL hW hB hK
  go_enter Try.func67, Try.ntmps67
  go_wp2_with fail
  rw [← HW.out.1]
  refine HC.out.mono ?_
  rintro e w1 ⟨rfl, hK1⟩
  have HK : Hid (Keeps (fun _ => False) w w1) := HW.out.2.trans hK1 fun _ _ h => h
  clear hK1 HC
  go_wp2
  go_ret
  exact ⟨rfl, HK.out⟩

set_option maxHeartbeats 800000 in
theorem lies_any (b g n pb : Nat) (xs : List UInt32) (r : Rgn) (w : World) (h : Mn w b g n xs) (hp : w.cell? ⟨pb, 0, none⟩ = some (.pointer (some ⟨b, 0, none⟩))) (hr : r.ok) :
    Calls Try.prog 59 #[r.v, .pointer (some ⟨pb, 0, none⟩)] w fun e w' => e = .returned (.bool (decide ((n : Int) < r.frame + r.pages))) ∧ Keeps (fun _ => False) w w' := by
  obtain ⟨W, hW⟩ : ∃ W, W = w.alloc (.cells #[.int .i64 r.page, .int .i64 r.pages, .int .i64 r.frame, .int .i64 r.rights] 54) := ⟨_, rfl⟩
  have hK : Keeps (fun _ => False) w W := by rw [hW]; exact (Keeps.refl _ w).alloc _
  have HM := fun W' (hK' : Keeps (fun _ => False) w W') => frames_any b g xs n W' (h.grown hK').mm h.len
  have HM : Hid (∀ W', Keeps (fun _ => False) w W' → Calls _ _ _ _ _) := HM
  have hlt := World.block_lt_of_cell? w _ hp
  obtain ⟨p, k, f, t⟩ := r
  obtain ⟨h1, h2, h3, h4, h5, _⟩ := hr
  simp only at h1 h2 h3 h4 h5
  have HK : Hid (Keeps (fun _ => False) w (w.alloc (.cells #[.int .i64 p, .int .i64 k, .int .i64 f, .int .i64 t] 54))) := by rw [hW] at hK; exact hK
  clear hW hK h
  go_enter Try.func59, Try.ntmps59
  go_wp2_with fail
  go_quiet (exact (HM.out _ (HK.out.drewN _)).mono fun e w2 h2 => ⟨h2.1, _, h2.2⟩)
  go_wp2
  go_ret
  exact ⟨rfl, HK.out.drewN _⟩

end Go.Proofs.Ytpccdhoaicabcaa
