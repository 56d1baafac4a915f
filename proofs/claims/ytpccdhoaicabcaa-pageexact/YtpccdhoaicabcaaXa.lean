import Derived.Test.YtpccdhoaicabcaaR
import Derived.Test.YtpccdhoaicabcaaAd
namespace Go.Proofs.Ytpccdhoaicabcaa
open Go.RowKit
set_option linter.unusedVariables false

/-- This bit is asked and is not there. -/
def lack (r R k : Nat) : Bool := decide (r / 2 ^ k % 2 = 1 ∧ R / 2 ^ k % 2 = 0)
theorem lack_sub (r R : Nat) (hr : r < 8) (hR : R < 8) : (lack r R 0 = true ∨ lack r R 1 = true ∨ lack r R 2 = true) → subR r R = false := by
  have all : ∀ a : Fin 8, ∀ b : Fin 8, (lack a.val b.val 0 = true ∨ lack a.val b.val 1 = true ∨ lack a.val b.val 2 = true) → subR a.val b.val = false := by decide +kernel
  exact all ⟨r, hr⟩ ⟨R, hR⟩
theorem nolack_sub (r R : Nat) (hr : r < 8) (hR : R < 8) : lack r R 0 = false → lack r R 1 = false → lack r R 2 = false → subR r R = true := by
  have all : ∀ a : Fin 8, ∀ b : Fin 8, lack a.val b.val 0 = false → lack a.val b.val 1 = false → lack a.val b.val 2 = false → subR a.val b.val = true := by decide +kernel
  exact all ⟨r, hr⟩ ⟨R, hR⟩

set_option maxRecDepth 20000 in
set_option maxHeartbeats 4000000 in
theorem raddress_any (b g n : Nat) (xs : List UInt32) (root a rights : Int) (w : World) (h : Rn w b g n xs) (hr1 : -9223372036854775808 ≤ root) (hr2 : root ≤ 9223372036854775807) :
    Calls Try.prog 26 #[.pointer (some ⟨b, 0, none⟩), .int .i64 root, .int .i64 a, .int .i64 rights] w fun e w' =>
      e = .returned (.tuple #[.int .i64 (addrV n xs root a rights : Nat), .int .i64 (addrE n xs root a rights : Nat)]) ∧ Keeps (fun _ => False) w w' := by
  have H2 := rhas_any b g n xs root w h
  by_cases h1 : 0 ≤ rights ∧ rights < 8
  · by_cases h2 : 0 ≤ root ∧ root < n
    · rw [inR_true h2.1 h2.2] at H2
      by_cases h3 : 0 ≤ a ∧ a < 4096
      · have H2 : Hid (Calls _ _ _ _ _) := H2
        have H4 : Hid (Calls _ _ _ _ _) := rwalk_any b g n xs root (a / 16) w h hr1 hr2
        have e0 : addrE n xs root a rights = if walkE n xs root (a / 16) ≠ 0 then walkE n xs root (a / 16) else if subR rights.toNat (walkL n xs root (a / 16)).rights then 0 else 93 := by
          unfold addrE; rw [if_neg (fun k => k h1), if_neg (fun k => k h2), if_neg (fun k => k h3)]
        have v0 : addrV n xs root a rights = if addrE n xs root a rights = 0 then 16 * (walkL n xs root (a / 16)).frame + a.toNat % 16 else 0 := rfl
        obtain ⟨X, hX⟩ : ∃ X, X = walkL n xs root (a / 16) := ⟨_, rfl⟩
        obtain ⟨E, hE⟩ : ∃ E, E = walkE n xs root (a / 16) := ⟨_, rfl⟩
        have xr := walkL_rights n xs root (a / 16)
        have xf := walkL_frame n xs root (a / 16)
        rw [← hX] at H4 e0 v0 xr xf
        rw [← hE] at H4 e0
        obtain ⟨at', rfl⟩ := Int.eq_ofNat_of_zero_le h3.1
        obtain ⟨r, rfl⟩ := Int.eq_ofNat_of_zero_le h1.1
        have hal : (at' : Int) < 4096 := by omega
        have hrl : r < 8 := by omega
        have hrl' : (r : Int) < 8 := by omega
        rw [v0]
        clear hX hE h2 h3 h1 h v0 hr1 hr2
        by_cases hw : E = 0
        · subst hw
          rw [if_neg (by omega)] at e0
          obtain ⟨F, hF⟩ : ∃ F, F = X.frame := ⟨_, rfl⟩
          obtain ⟨R, hR⟩ : ∃ R, R = X.rights := ⟨_, rfl⟩
          obtain ⟨P, hP⟩ : ∃ R, R = X.page := ⟨_, rfl⟩
          have hv : X.v = .agg #[.int .i64 P, .int .i64 F, .int .i64 R] := by rw [hF, hR, hP]
          rw [hv] at H4
          rw [← hF] at xf ⊢
          rw [← hR] at xr e0
          rw [Int.toNat_natCast] at e0
          obtain ⟨AE, hAE⟩ : ∃ AE, AE = addrE n xs root at' r := ⟨_, rfl⟩
          rw [← hAE] at e0 ⊢
          obtain ⟨AV, hAV⟩ : ∃ AV, AV = (if AE = 0 then 16 * F + (at' : Int).toNat % 16 else 0) := ⟨_, rfl⟩
          rw [← hAV]
          have e0 : Hid (AE = (if subR r R then 0 else 93) ∧ AV = if AE = 0 then 16 * F + at' % 16 else 0) := ⟨e0, by rw [hAV, Int.toNat_natCast]⟩
          clear hAE hAV
          have HR : Hid (r < 8 ∧ R < 8) := ⟨hrl, xr⟩
          have hFl : (F : Int) < 1024 := by omega
          have hRl : (R : Int) < 8 := by omega
          clear hF hR hP hv xf xr hrl
          go_enter Try.func26, Try.ntmps26
          go_wp2_with fail
          refine H2.out.mono ?_
          rintro e w1 ⟨rfl, hw⟩
          obtain rfl := hw.symm
          clear hw
          go_wp2_with fail
          refine H4.out.mono ?_
          rintro e w2 ⟨rfl, hK⟩
          obtain ⟨A, hA⟩ : ∃ A, A = w2.heap.size := ⟨_, rfl⟩
          obtain ⟨w3, hw3⟩ : ∃ w3, w3 = w2.alloc (.cells #[.int .i64 P, .int .i64 F, .int .i64 R] 51) := ⟨_, rfl⟩
          have hB : Blk w3 A [.int .i64 P, .int .i64 F, .int .i64 R] 51 := by rw [hw3, hA]; exact Blk.new w2 _ 51
          have HK : Hid (Keeps (fun _ => False) w w3 ∧ Blk w3 A [.int .i64 P, .int .i64 F, .int .i64 R] 51) := ⟨by rw [hw3]; exact hK.alloc _, hB⟩
          have HA : Hid (A = w2.heap.size) := hA
          have HW3 : Hid (_ = _) := hw3
          clear hK H2 H4 hB hA hw3
          go_wp2_with fail
          rw [← HA.out, ← HW3.out]
          go_loopw [12] (fun bit wr => ∃ k : Nat, k ≤ 3 ∧ bit = .int .i64 ((2 ^ k : Nat) : Int) ∧ wr = w3 ∧ ∀ i, i < k → lack r R i = false) (fun bit _ => 8 - (intOf bit).toNat)
          case atStart => exact ⟨0, by omega, rfl, rfl, fun i hi => by omega⟩
          case round =>
            obtain ⟨k, hk, rfl, rfl, hno⟩ := hrel
            have HNO : Hid (∀ i, i < k → lack r R i = false) := hno
            have c2 := HK.out.2.cell (i := 2) rfl
            have c1 := HK.out.2.cell (i := 1) rfl
            clear hno
            rcases (show k = 0 ∨ k = 1 ∨ k = 2 ∨ k = 3 by omega) with rfl | rfl | rfl | rfl
            · have e1 : (((2 ^ 0 : Nat) : Int)) = 1 := rfl
              rw [e1]
              have l0 := HNO.out
              by_cases h1 : r % 2 = 1
              · have f1 : ((r : Int) % 2 == 1) = true := by simp; omega
                have f1' : (r : Int) % 2 = 1 := by omega
                by_cases h2 : R % 2 = 0
                · have f2 : ((R : Int) % 2 == 0) = true := by simp; omega
                  have f2' : (R : Int) % 2 = 0 := by omega
                  have HL : Hid (subR r R = false) := lack_sub r R HR.out.1 HR.out.2 (.inl (by unfold lack; simp; omega))
                  clear l0 h1 h2
                  go_wp2
                  go_ret2
                  have e00 := e0.out
                  rw [HL.out] at e00
                  obtain ⟨e1', e2'⟩ := e00
                  exact ⟨by rw [e2', e1']; rfl, HK.out.1⟩
                · have f2 : ((R : Int) % 2 == 0) = false := by simp; omega
                  have f2' : ¬ (R : Int) % 2 = 0 := by omega
                  have HN2 : Hid (lack r R 0 = false) := by show lack r R 0 = false; unfold lack; simp; omega
                  clear l0 h1 h2
                  go_wp2
                  go_roundw
                  case rel => exact ⟨1, by omega, by first | rfl | simp, by trivial, fun i hi => by rcases (show i < 0 ∨ i = 0 by omega) with h | rfl; exact HNO.out i h; exact HN2.out⟩
                  case measure => simp [intOf]
              · have f1 : ((r : Int) % 2 == 1) = false := by simp; omega
                have f1' : ¬ (r : Int) % 2 = 1 := by omega
                have HN2 : Hid (lack r R 0 = false) := by show lack r R 0 = false; unfold lack; simp; omega
                clear l0 h1
                go_wp2
                go_roundw
                case rel => exact ⟨1, by omega, by first | rfl | simp, by trivial, fun i hi => by rcases (show i < 0 ∨ i = 0 by omega) with h | rfl; exact HNO.out i h; exact HN2.out⟩
                case measure => simp [intOf]
            · have e1 : (((2 ^ 1 : Nat) : Int)) = 2 := rfl
              rw [e1]
              have l0 := HNO.out
              by_cases h1 : r / 2 % 2 = 1
              · have f1 : ((r : Int) / 2 % 2 == 1) = true := by simp; omega
                have f1' : (r : Int) / 2 % 2 = 1 := by omega
                by_cases h2 : R / 2 % 2 = 0
                · have f2 : ((R : Int) / 2 % 2 == 0) = true := by simp; omega
                  have f2' : (R : Int) / 2 % 2 = 0 := by omega
                  have HL : Hid (subR r R = false) := lack_sub r R HR.out.1 HR.out.2 (.inr (.inl (by unfold lack; simp; omega)))
                  clear l0 h1 h2
                  go_wp2
                  go_ret2
                  have e00 := e0.out
                  rw [HL.out] at e00
                  obtain ⟨e1', e2'⟩ := e00
                  exact ⟨by rw [e2', e1']; rfl, HK.out.1⟩
                · have f2 : ((R : Int) / 2 % 2 == 0) = false := by simp; omega
                  have f2' : ¬ (R : Int) / 2 % 2 = 0 := by omega
                  have HN2 : Hid (lack r R 1 = false) := by show lack r R 1 = false; unfold lack; simp; omega
                  clear l0 h1 h2
                  go_wp2
                  go_roundw
                  case rel => exact ⟨2, by omega, by first | rfl | simp, by trivial, fun i hi => by rcases (show i < 1 ∨ i = 1 by omega) with h | rfl; exact HNO.out i h; exact HN2.out⟩
                  case measure => simp [intOf]
              · have f1 : ((r : Int) / 2 % 2 == 1) = false := by simp; omega
                have f1' : ¬ (r : Int) / 2 % 2 = 1 := by omega
                have HN2 : Hid (lack r R 1 = false) := by show lack r R 1 = false; unfold lack; simp; omega
                clear l0 h1
                go_wp2
                go_roundw
                case rel => exact ⟨2, by omega, by first | rfl | simp, by trivial, fun i hi => by rcases (show i < 1 ∨ i = 1 by omega) with h | rfl; exact HNO.out i h; exact HN2.out⟩
                case measure => simp [intOf]
            · have e1 : (((2 ^ 2 : Nat) : Int)) = 4 := rfl
              rw [e1]
              have l0 := HNO.out
              by_cases h1 : r / 4 % 2 = 1
              · have f1 : ((r : Int) / 4 % 2 == 1) = true := by simp; omega
                have f1' : (r : Int) / 4 % 2 = 1 := by omega
                by_cases h2 : R / 4 % 2 = 0
                · have f2 : ((R : Int) / 4 % 2 == 0) = true := by simp; omega
                  have f2' : (R : Int) / 4 % 2 = 0 := by omega
                  have HL : Hid (subR r R = false) := lack_sub r R HR.out.1 HR.out.2 (.inr (.inr (by unfold lack; simp; omega)))
                  clear l0 h1 h2
                  go_wp2
                  go_ret2
                  have e00 := e0.out
                  rw [HL.out] at e00
                  obtain ⟨e1', e2'⟩ := e00
                  exact ⟨by rw [e2', e1']; rfl, HK.out.1⟩
                · have f2 : ((R : Int) / 4 % 2 == 0) = false := by simp; omega
                  have f2' : ¬ (R : Int) / 4 % 2 = 0 := by omega
                  have HN2 : Hid (lack r R 2 = false) := by show lack r R 2 = false; unfold lack; simp; omega
                  clear l0 h1 h2
                  go_wp2
                  go_roundw
                  case rel => exact ⟨3, by omega, by first | rfl | simp, by trivial, fun i hi => by rcases (show i < 2 ∨ i = 2 by omega) with h | rfl; exact HNO.out i h; exact HN2.out⟩
                  case measure => simp [intOf]
              · have f1 : ((r : Int) / 4 % 2 == 1) = false := by simp; omega
                have f1' : ¬ (r : Int) / 4 % 2 = 1 := by omega
                have HN2 : Hid (lack r R 2 = false) := by show lack r R 2 = false; unfold lack; simp; omega
                clear l0 h1
                go_wp2
                go_roundw
                case rel => exact ⟨3, by omega, by first | rfl | simp, by trivial, fun i hi => by rcases (show i < 2 ∨ i = 2 by omega) with h | rfl; exact HNO.out i h; exact HN2.out⟩
                case measure => simp [intOf]
            · have e1 : (((2 ^ 3 : Nat) : Int)) = 8 := rfl
              rw [e1]
              have HS : Hid (subR r R = true) := nolack_sub r R HR.out.1 HR.out.2 (HNO.out 0 (by omega)) (HNO.out 1 (by omega)) (HNO.out 2 (by omega))
              go_wp2
              go_ret2
              have e00 := e0.out
              rw [HS.out, if_pos rfl] at e00
              obtain ⟨e1', e2'⟩ := e00
              rw [e1', if_pos rfl] at e2'
              exact ⟨by rw [e2', e1']; exact ret_two (by omega) rfl, HK.out.1⟩
        · rw [if_pos hw] at e0
          rw [e0, if_neg hw]
          have hw' : ((E : Int) != 0) = true := by simp; omega
          have hw2 : ((E : Int) == 0) = false := by simp; omega
          clear e0
          go_enter Try.func26, Try.ntmps26
          go_wp2_with fail
          refine H2.out.mono ?_
          rintro e w1 ⟨rfl, hw⟩
          obtain rfl := hw.symm
          clear hw
          go_wp2_with fail
          refine H4.out.mono ?_
          rintro e w2 ⟨rfl, hK⟩
          have HK : Hid (Keeps _ _ _) := hK
          clear hK H4
          go_wp2
          go_ret2
          exact ⟨rfl, HK.out.alloc _⟩
      · have e0 : addrE n xs root a rights = 92 := by unfold addrE; rw [if_neg (fun k => k h1), if_neg (fun k => k h2), if_pos h3]
        have v0 : addrV n xs root a rights = 0 := by unfold addrV; rw [e0, if_neg (by omega)]
        rw [e0, v0]
        have H2 : Hid (Calls _ _ _ _ _) := H2
        obtain ⟨b1, b2⟩ := h1
        clear h e0 v0 h2
        go_enter Try.func26, Try.ntmps26
        go_wp2_with fail
        refine H2.out.mono ?_
        rintro e w1 ⟨rfl, hw⟩
        obtain rfl := hw.symm
        clear hw
        by_cases h4 : a < 0
        · go_wp2
          go_ret2
          exact ⟨rfl, Keeps.refl _ _⟩
        · have h5 : ¬ a < 4096 := by omega
          go_wp2
          go_ret2
          exact ⟨rfl, Keeps.refl _ _⟩
    · have e0 : addrE n xs root a rights = 91 := by unfold addrE; rw [if_neg (fun k => k h1), if_pos h2]
      have v0 : addrV n xs root a rights = 0 := by unfold addrV; rw [e0, if_neg (by omega)]
      rw [e0, v0]
      rw [inR_false h2] at H2
      have H2 : Hid (Calls _ _ _ _ _) := H2
      obtain ⟨b1, b2⟩ := h1
      clear h e0 v0 h2
      go_enter Try.func26, Try.ntmps26
      go_wp2_with fail
      refine H2.out.mono ?_
      rintro e w1 ⟨rfl, hw⟩
      obtain rfl := hw.symm
      clear hw
      go_wp2
      go_ret2
      exact ⟨rfl, Keeps.refl _ _⟩
  · have e0 : addrE n xs root a rights = 90 := by unfold addrE; rw [if_pos h1]
    have v0 : addrV n xs root a rights = 0 := by unfold addrV; rw [e0, if_neg (by omega)]
    rw [e0, v0]
    clear h H2 e0 v0
    by_cases h4 : rights < 0
    · go_enter Try.func26, Try.ntmps26
      go_wp2
      go_ret2
      exact ⟨rfl, Keeps.refl _ _⟩
    · have h5 : ¬ rights ≤ 7 := by omega
      have h6 : 7 < rights := by omega
      go_enter Try.func26, Try.ntmps26
      go_wp2
      go_ret2
      exact ⟨rfl, Keeps.refl _ _⟩
end Go.Proofs.Ytpccdhoaicabcaa
