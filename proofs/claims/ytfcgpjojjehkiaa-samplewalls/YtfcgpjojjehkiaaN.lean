import Derived.Test.YtfcgpjojjehkiaaM
namespace Go.Proofs.Ytfcgpjojjehkiaa
open Go.RowKit
set_option linter.unusedVariables false

set_option maxHeartbeats 1000000 in
theorem index_any (b : Bx) (a : Option Addr) (rs : List Bx) (c : Nat) (w : World) (hl : rs.length ≤ c ∧ c ≤ maxLen) (hs : SegB w a rs) (hb : b.Fine) (hr : ∀ r ∈ rs, r.Fine) :
    Calls Try.prog 60 #[.slice a rs.length c, .func (.func 55) #[b.v] #[]] w fun e w' => (∃ z : Int, e = .returned (.int .i64 z) ∧ decide (0 ≤ z) = rs.any b.meets) ∧ Keeps (fun _ => False) w w' := by
  obtain ⟨L, hL⟩ : ∃ L, L = rs.length := ⟨_, rfl⟩
  have HS : Hid (SegB w a rs ∧ L = rs.length ∧ ∀ r, r ∈ rs → ∀ W, Calls Try.prog 55 #[b.v, r.v] W fun e w' => e = .returned (.bool (b.meets r)) ∧ Keeps (fun _ => False) W w') := ⟨hs, hL, fun r h W => meets_any b r W hb (hr r h)⟩
  have hc2 : (L : Int) ≤ c := by omega
  have hc3 : (c : Int) ≤ 9223372036854775807 := by unfold maxLen at hl; omega
  rw [← hL]
  obtain ⟨q, hq⟩ : ∃ q, q = b.meets := ⟨_, rfl⟩
  rw [← hq] at HS ⊢
  obtain ⟨bv, hbv⟩ : ∃ bv, bv = b.v := ⟨_, rfl⟩
  rw [← hbv] at HS ⊢
  clear hl hs hL hb hr hq hbv
  go_enter Try.func60, Try.ntmps60
  go_wp2
  go_loopw [8] (fun i wr => ∃ j : Nat, j ≤ L ∧ i = .int .i64 j ∧ (rs.take j).any q = false ∧ Keeps (fun _ => False) w wr) (fun i _ => L - (intOf i).toNat)
  case atStart => exact ⟨0, by omega, rfl, by simp, Keeps.refl _ _⟩
  case round =>
    obtain ⟨j, hj, rfl, hn, hK⟩ := hrel
    by_cases hlt : j < L
    · obtain ⟨y, hy⟩ : ∃ y, rs[j]? = some y := ⟨_, List.getElem?_eq_getElem (by have := HS.out.2.1; omega)⟩
      obtain ⟨g, o, rfl, hg⟩ := HS.out.1.at hy
      obtain ⟨y0, y1, y2⟩ := hg.kept hK fun h => h
      have HC := HS.out.2.2 y (List.mem_of_getElem? hy) wr
      have HJ : Hid ((rs.take j).any q = false ∧ rs[j]? = some y ∧ Keeps (fun _ => False) w wr) := ⟨hn, hy, hK⟩
      clear hn hy hK hg
      cases hq : q y
      · rw [hq] at HC
        have HC : Hid (Calls _ _ _ _ _) := HC
        have HF : Hid ((rs.take (j + 1)).any q = false) := by
          have := HJ.out.2.1
          show (rs.take (j + 1)).any q = false
          rw [List.take_add_one, this, List.any_append, HJ.out.1]
          simp [hq]
        clear hq
        go_wp2_with fail
        refine HC.out.mono ?_
        rintro r w1 ⟨rfl, hK1⟩
        have HK : Hid (Keeps (fun _ => False) w w1) := HJ.out.2.2.trans hK1 fun _ _ h => h
        clear hK1 HC y0 y1 y2
        go_wp2
        go_roundw
        case rel => exact ⟨j + 1, by omega, by go_num, HF.out, HK.out⟩
        case measure => simp [intOf]; omega
      · rw [hq] at HC
        have HC : Hid (Calls _ _ _ _ _) := HC
        have HF : Hid (rs.any q = true) := List.any_eq_true.2 ⟨y, List.mem_of_getElem? HJ.out.2.1, hq⟩
        clear hq
        go_wp2_with fail
        refine HC.out.mono ?_
        rintro r w1 ⟨rfl, hK1⟩
        have HK : Hid (Keeps (fun _ => False) w w1) := HJ.out.2.2.trans hK1 fun _ _ h => h
        clear hK1 HC y0 y1 y2
        go_wp2
        go_ret
        exact ⟨⟨j, rfl, by rw [HF.out]; simp⟩, HK.out⟩
    · obtain rfl : j = L := by omega
      have HH : Hid (rs.any q = false ∧ Keeps (fun _ => False) w wr) := by
        rw [List.take_of_length_le (by have := HS.out.2.1; omega)] at hn
        exact ⟨hn, hK⟩
      clear hn hK
      go_wp2
      go_ret
      exact ⟨⟨-1, rfl, by rw [HH.out.1]; rfl⟩, HH.out.2⟩

set_option maxHeartbeats 400000 in
theorem contains_any (b : Bx) (a : Option Addr) (rs : List Bx) (c : Nat) (w : World) (hl : rs.length ≤ c ∧ c ≤ maxLen) (hs : SegB w a rs) (hb : b.Fine) (hr : ∀ r ∈ rs, r.Fine) :
    Calls Try.prog 54 #[.slice a rs.length c, .func (.func 55) #[b.v] #[]] w fun e w' => e = .returned (.bool (rs.any b.meets)) ∧ Keeps (fun _ => False) w w' := by
  have HC : Hid (Calls _ _ _ _ _) := index_any b a rs c w hl hs hb hr
  obtain ⟨L, hL⟩ : ∃ L, L = rs.length := ⟨_, rfl⟩
  rw [← hL] at HC ⊢
  clear hl hs hL hb hr
  go_enter Try.func54, Try.ntmps54
  go_wp2_with fail
  refine HC.out.mono ?_
  rintro r w1 ⟨⟨z, rfl, hz⟩, hK1⟩
  have HK : Hid (decide (0 ≤ z) = rs.any b.meets ∧ Keeps (fun _ => False) w w1) := ⟨hz, hK1⟩
  clear hz hK1 HC
  go_wp2
  go_ret
  exact ⟨ret_bool HK.out.1, HK.out.2⟩

end Go.Proofs.Ytfcgpjojjehkiaa
