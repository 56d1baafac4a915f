import Derived.Test.YtfbapgcopidbpaaGreatQg
namespace Go.Proofs.YtfbapgcopidbpaaGreat
open Go.RowKit
set_option linter.unusedVariables false
set_option linter.unusedSimpArgs false
set_option maxRecDepth 6000

def bt (s : ByteArray) (i : Nat) : Nat := if h : i < s.size then (s[i]'h).toNat else 0
theorem bt_of {s : ByteArray} {i : Nat} (h : i < s.size) : (s[i]'h).toNat = bt s i := by unfold bt; rw [dif_pos h]
def chrB (b : Nat) : Bool := letB b || ((decide (48 ≤ b) && decide (b ≤ 57)) || decide (b = 45))
def nameB (s : ByteArray) : Bool := decide (1 ≤ s.size) && (decide (s.size ≤ 16) && (letB (bt s 0) && (List.range s.size).all fun i => chrB (bt s i)))
set_option maxHeartbeats 4000000 in
theorem isName_any (s : ByteArray) (hs : s.size ≤ 9223372036854775807) (w : World) : Calls Tryz.prog 104 #[.string s] w fun e w' => e = .returned (.bool (nameB s)) ∧ w' = w := by
  obtain ⟨B, hB⟩ : ∃ B, nameB s = B := ⟨_, rfl⟩
  have HB : Hid (nameB s = B) := hB
  rw [hB]
  clear hB
  obtain ⟨L, hL⟩ : ∃ L, s.size = L := ⟨_, rfl⟩
  have HL : Hid (s.size = L) := hL
  rw [hL] at hs
  by_cases h1 : L < 1
  · have q1 : decide ((L : Int) < 1) = true := by rw [decide_eq_true_eq]; omega
    go_enter Tryz.func104, Tryz.ntmps104
    go_wp2
    go_ret
    rw [← HB.out]
    unfold nameB
    rw [HL.out, show decide (1 ≤ L) = false by simp; omega]
    exact ⟨rfl, rfl⟩
  · have q1 : decide ((L : Int) < 1) = false := by rw [decide_eq_false_iff_not]; omega
    by_cases h2 : 16 < L
    · have q2 : decide ((16 : Int) < L) = true := by rw [decide_eq_true_eq]; omega
      go_enter Tryz.func104, Tryz.ntmps104
      go_wp2
      go_ret
      rw [← HB.out]
      unfold nameB
      rw [HL.out, show decide (L ≤ 16) = false by simp; omega]
      simp
    · have q2 : decide ((16 : Int) < L) = false := by rw [decide_eq_false_iff_not]; omega
      have HB2 : Hid ((letB (bt s 0) && (List.range L).all fun i => chrB (bt s i)) = B) := by
        refine Hid.mkq ?_
        rw [← HB.out]
        unfold nameB
        rw [HL.out, show decide (1 ≤ L) = true by simp; omega, show decide (L ≤ 16) = true by simp; omega]
        simp
      have hb0 := bt_of (s := s) (i := 0) (by omega)
      have hl0 : 0 < s.size := by omega
      have HC : Hid (∀ (b : Nat) (w : World), Calls Tryz.prog 150 #[.int .u8 (b : Int)] w fun e w' => e = .returned (.bool (letB b)) ∧ w' = w) := isLetter_any
      go_enter Tryz.func104, Tryz.ntmps104
      go_wp2_with fail
      refine (HC.out _ _).mono ?_
      rintro e w1 ⟨rfl, rfl⟩
      obtain ⟨b, hb⟩ : ∃ b, letB (bt s 0) = b := ⟨_, rfl⟩
      rw [hb] at HB2 ⊢
      clear hb
      clear q1 q2 hb0
      cases b with
      | false =>
        go_wp2
        go_ret
        exact ⟨by rw [← HB2.out]; rfl, rfl⟩
      | true =>
        rw [Bool.true_and] at HB2
        go_wp2
        go_loopw [21] (fun i wr => ∃ j : Nat, j ≤ L ∧ i = .int .i64 j ∧ (∀ i, i < j → chrB (bt s i) = true) ∧ wr = w1) (fun i _ => L - (intOf i).toNat)
        case atStart => exact ⟨0, by omega, rfl, fun i hi => by omega, rfl⟩
        case round =>
          obtain ⟨k, hk, rfl, hno, rfl⟩ := hrel
          have HN : Hid (∀ i, i < k → chrB (bt s i) = true) := hno
          clear hno
          by_cases hlt : k < L
          · have hlk : k < s.size := by omega
            have hbk := bt_of hlk
            obtain ⟨c, hc⟩ : ∃ c, bt s k = c := ⟨_, rfl⟩
            have HCc : Hid (bt s k = c) := hc
            rw [hc] at hbk
            clear hc
            go_wp2_with fail
            refine (HC.out _ _).mono ?_
            rintro e w2 ⟨rfl, rfl⟩
            clear hbk
            obtain ⟨b, hb⟩ : ∃ b, letB c = b := ⟨_, rfl⟩
            have HBb : Hid (letB c = b) := hb
            rw [hb]
            clear hb
            have HOK : chrB c = true → ∀ i, i < k + 1 → chrB (bt s i) = true := fun h i hi => by
              by_cases e : i = k
              · subst e; rw [HCc.out]; exact h
              · exact HN.out i (by omega)
            have HBAD : chrB c = false → B = false := fun h => by
              rw [← HB2.out]
              rw [List.all_eq_false]
              exact ⟨k, List.mem_range.2 hlt, by rw [HCc.out, h]; simp⟩
            have HOK := Hid.mkq HOK
            have HBAD := Hid.mkq HBAD
            cases b with
            | true =>
              have HX : Hid (chrB c = true) := by refine Hid.mkq ?_; unfold chrB; rw [HBb.out]; rfl
              go_wp2
              go_roundw
              case rel => exact ⟨k + 1, by omega, by go_num, HOK.out HX.out, by trivial⟩
              case measure => simp [intOf]; omega
            | false =>
              by_cases hc1 : c < 48
              · have q1 : decide ((c : Int) < 48) = true := by rw [decide_eq_true_eq]; omega
                by_cases hc2 : c = 45
                · have HX : Hid (chrB c = true) := by refine Hid.mkq ?_; unfold chrB; rw [hc2]; rfl
                  have q2 : ((c : Int) == 45) = true := by rw [hc2]; rfl
                  clear hc2
                  go_wp2
                  go_roundw
                  case rel => exact ⟨k + 1, by omega, by go_num, HOK.out HX.out, by trivial⟩
                  case measure => simp [intOf]; omega
                · have HX : Hid (chrB c = false) := by
                    refine Hid.mkq ?_; unfold chrB; rw [HBb.out]; simp; omega
                  have q2 : ((c : Int) == 45) = false := by simp; omega
                  go_wp2
                  go_ret
                  rw [HBAD.out HX.out]
                  exact ⟨rfl, rfl⟩
              · have q1 : decide ((c : Int) < 48) = false := by rw [decide_eq_false_iff_not]; omega
                by_cases hc2 : 57 < c
                · have q2 : decide ((57 : Int) < c) = true := by rw [decide_eq_true_eq]; omega
                  have q3 : ((c : Int) == 45) = false := by simp; omega
                  have HX : Hid (chrB c = false) := by
                    refine Hid.mkq ?_; unfold chrB; rw [HBb.out]; simp; omega
                  go_wp2
                  go_ret
                  rw [HBAD.out HX.out]
                  exact ⟨rfl, rfl⟩
                · have q2 : decide ((57 : Int) < c) = false := by rw [decide_eq_false_iff_not]; omega
                  have HX : Hid (chrB c = true) := by
                    refine Hid.mkq ?_; unfold chrB; rw [HBb.out]; simp; omega
                  go_wp2
                  go_roundw
                  case rel => exact ⟨k + 1, by omega, by go_num, HOK.out HX.out, by trivial⟩
                  case measure => simp [intOf]; omega
          · have hkL : k = L := by omega
            go_wp2
            go_ret
            refine ⟨?_, rfl⟩
            have : B = true := by
              rw [← HB2.out, List.all_eq_true]
              intro i hi
              exact HN.out i (by rw [List.mem_range] at hi; omega)
            rw [this]
            rfl
end Go.Proofs.YtfbapgcopidbpaaGreat
