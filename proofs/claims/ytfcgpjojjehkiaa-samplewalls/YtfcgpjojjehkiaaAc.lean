import Derived.Test.YtfcgpjojjehkiaaAb
namespace Go.Proofs.Ytfcgpjojjehkiaa
open Go.RowKit
set_option linter.unusedVariables false

theorem Told.seg {w w' : World} {v : Value} {ms : List UInt32} (h : Told w w' v ms) : ∃ a c, v = .slice a ms.length c ∧ SegW w' a ms := by
  rcases h with ⟨rfl, rfl⟩ | ⟨G, h1, rfl, h2⟩
  · exact ⟨none, 0, rfl, .inl rfl⟩
  · exact ⟨_, _, rfl, segW_of_blk h2⟩

set_option maxRecDepth 20000 in
set_option maxHeartbeats 1000000 in
theorem all_any (b g : Nat) (xs : List UInt32) (n k : Nat) (st hd : List UInt32) (f : Bool) (ap : Option Addr) (cp : Nat) (ah : Option Addr) (ch : Nat) (w : World) (h : Ch xs n k st hd f) (hm : Mm w b g xs) (hp : SegI w ap (ptL n k)) (hh : SegW w ah hd) :
    Calls Try.prog 19 #[.pointer (some ⟨b, 0, none⟩), .slice ap k cp, .int .i64 n, .slice ah hd.length ch, .bool f] w fun e w' => e = .returned (.bool true) ∧ Keeps (fun _ => False) w w' := by
  have HP : Hid (Ch xs n k st hd f ∧ Mm w b g xs ∧ SegI w ap (ptL n k) ∧ SegW w ah hd) := ⟨h, hm, hp, hh⟩
  have k2 : (k : Int) ≤ 4 := by have := h.k2; omega
  obtain ⟨L, hL⟩ : ∃ L, L = hd.length := ⟨_, rfl⟩
  have HL : Hid (L = hd.length) := hL
  rw [← hL]
  have eT : decide (hd ≠ []) = decide ((0 : Int) < (L : Int)) := by
    by_cases e : hd = []
    · rw [hL, e]; simp
    · have : hd.length ≠ 0 := fun x => e (List.eq_nil_of_length_eq_zero x)
      rw [decide_eq_true (by simpa using e), decide_eq_true (by omega)]
  have HT : Hid (decide (hd ≠ []) = decide ((0 : Int) < (L : Int))) := eT
  clear h hm hp hh hL eT
  go_enter Try.func19, Try.ntmps19
  go_wp2
  go_loopw [18] (fun i wr => ∃ j : Nat, j ≤ k ∧ i = .int .i64 j ∧ Keeps (fun _ => False) w wr) (fun i _ => k - (intOf i).toNat)
  case atStart => exact ⟨0, by omega, rfl, Keeps.refl _ _⟩
  case round =>
    obtain ⟨j, hj, rfl, hk⟩ := hrel
    by_cases hlt : j < k
    · have hlt' : (j : Int) < k := by omega
      obtain ⟨hC, hM, hI, hH⟩ := HP.out
      have hjl : j < (ptL n k).length := by rw [ptL_length]; exact hlt
      rcases hI.kept hk (fun _ _ e => e) with h0 | ⟨gp, op, rfl, hcp⟩
      · rw [h0] at hjl; simp at hjl
      have cq := hcp j hjl
      have e1 : (ptL n k)[j]'hjl = (ptAt n j : Int) := by have := ptL_get (n := n) hlt; rw [List.getElem?_eq_getElem hjl] at this; exact Option.some.inj this
      rw [e1] at cq
      have HR := read_any false b g xs (ptAt n j) n wr (hM.kept hk (fun e => e) (fun e => e)) (by have := ptAt_lt hC.n2 (i := j) (by omega); omega)
      rw [hC.rdM hlt, hC.rdF hlt, hC.rdT hlt, hC.lkP hlt] at HR
      have hHr := hH.kept hk (fun _ _ e => e)
      have hhl : hd.length ≤ 1000000000 := by have := hC.hdl; have := hC.n2; omega
      rw [HT.out] at HR
      obtain ⟨q, hq⟩ : ∃ q, q = ptAt n j := ⟨_, rfl⟩
      rw [← hq] at HR cq
      have HR : Hid (Calls _ _ _ _ _) := HR
      have HK : Hid (Keeps (fun _ => False) w wr ∧ SegW wr ah hd ∧ hd.length ≤ 1000000000) := ⟨hk, hHr, hhl⟩
      clear hC hM hI hH hjl hcp e1 hk hHr hhl hj hq
      go_wp2_with fail
      refine HR.out.mono ?_
      rintro e w1 ⟨v, rfl, hv, hk1⟩
      obtain ⟨a1, c1, rfl, hs1⟩ := hv.seg
      rw [← HL.out]
      have HSm := same_any a1 ah c1 ch hd w1 hs1 (HK.out.2.1.kept hk1 (fun _ _ e => e)) HK.out.2.2
      rw [← HL.out] at HSm
      have HSm : Hid (Calls _ _ _ _ _) := HSm
      have HK1 : Hid (Keeps (fun _ => False) w w1) := HK.out.1.trans hk1 fun _ _ e => e
      have qT : (decide ((0 : Int) < (L : Int)) != decide ((0 : Int) < (L : Int))) = false := by simp
      have qF : (f != f) = false := by simp
      clear hv hk1 hs1 HR cq
      go_wp2_with fail
      refine HSm.out.mono ?_
      rintro e w2 ⟨rfl, hk2⟩
      have HK2 : Hid (Keeps (fun _ => False) w w2) := HK1.out.trans hk2 fun _ _ e => e
      clear hk2 HSm
      go_wp2
      go_roundw
      case rel => exact ⟨j + 1, by omega, by go_num, HK2.out⟩
      case measure => simp [intOf]; omega
    · obtain rfl : j = k := by omega
      have HK : Hid (Keeps (fun _ => False) w wr) := hk
      clear hk hj hlt
      go_wp2
      go_ret
      exact ⟨rfl, HK.out⟩

end Go.Proofs.Ytfcgpjojjehkiaa
