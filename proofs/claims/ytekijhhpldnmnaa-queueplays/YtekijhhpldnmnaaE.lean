import Derived.Test.YtekijhhpldnmnaaD
namespace Go.Proofs.Ytekijhhpldnmnaa
open Go.RowKit
set_option linter.unusedVariables false

/-- What stands at a place of these words. -/
def wd (l : List UInt32) (i : Nat) : UInt32 := l.getD i 0
def zeroB (l : List UInt32) : Bool := l.all (· == 0)
/-- The words from a place on. -/
def win (xs : List UInt32) (p m : Nat) : List UInt32 := (xs.drop p).take m
abbrev mpv (nil : Bool) (b : Nat) : Value := .pointer (if nil then none else some ⟨b, 0, none⟩)

theorem win_length (xs : List UInt32) (p m : Nat) (h : p + m ≤ xs.length) : (win xs p m).length = m := by simp [win]; omega
theorem wd_get {l : List UInt32} {i : Nat} (h : i < l.length) : wd l i = l[i] := by simp [wd, List.getD, h]
theorem wvs_wd {l : List UInt32} {i : Nat} (h : i < l.length) : (wvs l)[i]? = some (.int .u32 ((wd l i).toNat : Int)) := by rw [wvs_get l i h, wd_get h]

theorem zeroB_snoc (l : List UInt32) (j : Nat) (h : j < l.length) : zeroB (l.take (j + 1)) = (zeroB (l.take j) && wd l j == 0) := by
  unfold zeroB
  rw [wd_get h, List.take_add_one, List.getElem?_eq_getElem h, List.all_append]
  simp
theorem zeroB_not {l : List UInt32} {j : Nat} (h : j < l.length) (h2 : wd l j ≠ 0) : zeroB l = false := by
  rw [wd_get h] at h2
  simp only [zeroB, List.all_eq_false]
  exact ⟨_, List.getElem_mem h, by simpa using h2⟩

theorem SegW.wd {w : World} {g o : Nat} {l : List UInt32} (h : SegW w (some ⟨g, o, none⟩) l) {j : Nat} (hj : j < l.length) : w.cell? ⟨g, o + j, none⟩ = some (.int .u32 ((wd l j).toNat : Int)) := by
  rcases h with h | ⟨g', o', e, hc⟩
  · rw [h] at hj; simp at hj
  · simp at e
    obtain ⟨rfl, rfl⟩ := e
    rw [hc j hj, wd_get hj]

set_option maxHeartbeats 400000 in
theorem empty_any (a : Option Addr) (c : Nat) (l : List UInt32) (w : World) (h : SegW w a l) (hl : l.length ≤ 1000) :
    Calls Try.prog 73 #[.slice a l.length c] w fun e w' => e = .returned (.bool (zeroB l)) ∧ w' = w := by
  obtain ⟨L, hL⟩ : ∃ L, L = l.length := ⟨_, rfl⟩
  have HS : Hid (SegW w a l ∧ L = l.length) := ⟨h, hL⟩
  rw [← hL] at hl ⊢
  have hl2 : (L : Int) ≤ 1000 := by omega
  clear h hL hl
  go_enter Try.func73, Try.ntmps73
  go_wp2
  go_loopw [7] (fun i wr => ∃ j : Nat, j ≤ L ∧ i = .int .i64 j ∧ zeroB (l.take j) = true ∧ wr = w) (fun i _ => L - (intOf i).toNat)
  case atStart => exact ⟨0, by omega, rfl, by simp [zeroB], rfl⟩
  case round =>
    obtain ⟨j, hj, rfl, hz, rfl⟩ := hrel
    by_cases hlt : j < L
    · have hjl : j < l.length := by rw [← HS.out.2]; exact hlt
      have hlt' : (j : Int) < L := by omega
      rcases HS.out.1 with h0 | ⟨g, o, rfl, hc⟩
      · rw [h0] at hjl; simp at hjl
      have cj := hc j hjl
      have e1 : l[j] = wd l j := (wd_get hjl).symm
      rw [e1] at cj
      have HZ : Hid (zeroB (l.take (j + 1)) = (zeroB (l.take j) && wd l j == 0) ∧ zeroB (l.take j) = true ∧ (wd l j ≠ 0 → zeroB l = false)) := ⟨zeroB_snoc l j hjl, hz, zeroB_not hjl⟩
      by_cases hx : wd l j = 0
      · rw [hx] at cj HZ
        clear hz hc hjl e1 hx
        have e0 : ((0 : UInt32).toNat : Int) = 0 := rfl
        rw [e0] at cj
        go_wp2
        go_roundw
        case rel => exact ⟨j + 1, by omega, by go_num, by rw [HZ.out.1, HZ.out.2.1]; rfl, trivial⟩
        case measure => simp [intOf]; omega
      · have hx2 : (((wd l j).toNat : Int) != 0) = true := by
          have : (wd l j).toNat ≠ 0 := fun e => hx (UInt32.toNat_inj.1 (by simpa using e))
          exact bne_iff_ne.2 (by omega)
        have HX : Hid (wd l j ≠ 0) := hx
        obtain ⟨v, hv⟩ : ∃ v : Nat, v = (wd l j).toNat := ⟨_, rfl⟩
        rw [← hv] at cj hx2
        clear hz hc hjl e1 hx hv
        go_wp2
        go_ret
        exact ⟨ret_bool (HZ.out.2.2 HX.out).symm, rfl⟩
    · obtain rfl : j = L := by omega
      have HZ : Hid (zeroB l = true) := by
        rw [List.take_of_length_le (by have := HS.out.2; omega)] at hz
        exact hz
      clear hz
      go_wp2
      go_ret
      exact ⟨ret_bool HZ.out.symm, rfl⟩

end Go.Proofs.Ytekijhhpldnmnaa
