import Derived.Test.YtpccdhoaicabcaaG
namespace Go.Proofs.Ytpccdhoaicabcaa
open Go.RowKit
set_option linter.unusedVariables false

/-- Are all of these rights among those? -/
def subR (a b : Nat) : Bool := decide (a &&& b = a)
def addrE (n : Nat) (xs : List UInt32) (root a rights : Int) : Nat :=
  if ¬ (0 ≤ rights ∧ rights < 8) then 90 else if ¬ (0 ≤ root ∧ root < n) then 91 else if ¬ (0 ≤ a ∧ a < 4096) then 92 else
  if walkE n xs root (a / 16) ≠ 0 then walkE n xs root (a / 16) else if subR rights.toNat (walkL n xs root (a / 16)).rights then 0 else 93
def addrV (n : Nat) (xs : List UInt32) (root a rights : Int) : Nat := if addrE n xs root a rights = 0 then 16 * (walkL n xs root (a / 16)).frame + a.toNat % 16 else 0

theorem walkL_rights (n : Nat) (xs : List UInt32) (root page : Int) : (walkL n xs root page).rights < 8 := by
  unfold walkL; split
  · exact rts_lt _
  · show 0 < 8; omega
theorem walkL_frame (n : Nat) (xs : List UInt32) (root page : Int) : (walkL n xs root page).frame < 1024 := by
  unfold walkL; split
  · exact frm_lt _
  · show 0 < 1024; omega

theorem andNot_sub (a b : Nat) (ha : a < 8) (hb : b < 8) : (bits .andNot .i64 (a : Int) (b : Int) != 0) = !subR a b := by
  have all : ∀ a : Fin 8, ∀ b : Fin 8, (bits .andNot .i64 ((a.val : Nat) : Int) ((b.val : Nat) : Int) != 0) = !subR a.val b.val := by decide +kernel
  exact all ⟨a, ha⟩ ⟨b, hb⟩

set_option maxHeartbeats 400000 in
theorem address_nil (root a rights : Int) (w : World) : Calls Try.prog 17 #[.pointer none, .int .i64 root, .int .i64 a, .int .i64 rights] w fun e w' => e = .returned (.tuple #[.int .i64 0, .int .i64 3]) ∧ w' = w := by
  go_enter Try.func17, Try.ntmps17
  go_wp2
  go_ret2
  exact ⟨rfl, rfl⟩

set_option maxRecDepth 20000 in
set_option maxHeartbeats 2000000 in
theorem address_any (b g n : Nat) (xs : List UInt32) (root a rights : Int) (w : World) (h : Mn w b g n xs) :
    Calls Try.prog 17 #[.pointer (some ⟨b, 0, none⟩), .int .i64 root, .int .i64 a, .int .i64 rights] w fun e w' =>
      e = .returned (.tuple #[.int .i64 (addrV n xs root a rights : Nat), .int .i64 (addrE n xs root a rights : Nat)]) ∧ Keeps (fun _ => False) w w' := by
  have H1 := rights_any rights w
  have H2 := has_any b g n xs root w h
  have H3 := within_any a 4096 w
  by_cases h1 : 0 ≤ rights ∧ rights < 8
  · rw [inR_true h1.1 h1.2] at H1
    by_cases h2 : 0 ≤ root ∧ root < n
    · rw [inR_true h2.1 h2.2] at H2
      by_cases h3 : 0 ≤ a ∧ a < 4096
      · rw [inR_true h3.1 h3.2] at H3
        have H1 : Hid (Calls _ _ _ _ _) := H1
        have H2 : Hid (Calls _ _ _ _ _) := H2
        have H3 : Hid (Calls _ _ _ _ _) := H3
        have H4 : Hid (Calls _ _ _ _ _) := walk_any b g n xs root (a / 16) w h
        have e0 : addrE n xs root a rights = if walkE n xs root (a / 16) ≠ 0 then walkE n xs root (a / 16) else if subR rights.toNat (walkL n xs root (a / 16)).rights then 0 else 93 := by
          unfold addrE; rw [if_neg (fun k => k h1), if_neg (fun k => k h2), if_neg (fun k => k h3)]
        have v0 : addrV n xs root a rights = if addrE n xs root a rights = 0 then 16 * (walkL n xs root (a / 16)).frame + a.toNat % 16 else 0 := rfl
        obtain ⟨X, hX⟩ : ∃ X, X = walkL n xs root (a / 16) := ⟨_, rfl⟩
        obtain ⟨E, hE⟩ : ∃ E, E = walkE n xs root (a / 16) := ⟨_, rfl⟩
        have xr := walkL_rights n xs root (a / 16)
        have xf := walkL_frame n xs root (a / 16)
        rw [← hX] at H4 e0 v0 xr xf
        rw [← hE] at H4 e0
        obtain ⟨at', rfl⟩ := Int.eq_ofNat_of_zero_le h3.1
        obtain ⟨r, rfl⟩ := Int.eq_ofNat_of_zero_le h1.1
        have hal : (at' : Int) < 4096 := by omega
        have hrl : r < 8 := by omega
        rw [v0]
        clear hX hE h2 h3 h1 h v0
        by_cases hw : E = 0
        · subst hw
          rw [if_neg (by omega)] at e0
          have q := andNot_sub r X.rights hrl xr
          obtain ⟨F, hF⟩ : ∃ F, F = X.frame := ⟨_, rfl⟩
          obtain ⟨R, hR⟩ : ∃ R, R = X.rights := ⟨_, rfl⟩
          obtain ⟨P, hP⟩ : ∃ R, R = X.page := ⟨_, rfl⟩
          have hv : X.v = .agg #[.int .i64 P, .int .i64 F, .int .i64 R] := by rw [hF, hR, hP]
          rw [hv] at H4
          rw [← hF] at xf ⊢
          rw [← hR] at xr q e0
          clear hF hR hP hv
          simp only [Int.toNat_natCast] at e0
          by_cases hs : subR r R = true
          · rw [if_pos hs] at e0
            rw [hs] at q
            rw [e0, if_pos rfl]
            simp only [Bool.not_true] at q
            have hf' : (F : Int) < 1024 := by omega
            clear e0 hs hrl xr xf
            go_enter Try.func17, Try.ntmps17
            go_wp2_with fail
            refine H1.out.mono ?_
            rintro e w1 ⟨rfl, hw⟩
            obtain rfl := hw.symm
            clear hw
            go_wp2_with fail
            refine H2.out.mono ?_
            rintro e w1 ⟨rfl, hw⟩
            obtain rfl := hw.symm
            clear hw
            go_wp2_with fail
            refine H3.out.mono ?_
            rintro e w1 ⟨rfl, hw⟩
            obtain rfl := hw.symm
            clear hw
            go_wp2_with fail
            refine H4.out.mono ?_
            rintro e w1 ⟨rfl, hK⟩
            have HK : Hid (Keeps _ _ _) := hK
            clear hK
            go_wp2
            go_ret2
            exact ⟨ret_two (by omega) rfl, HK.out.alloc _⟩
          · rw [if_neg hs] at e0
            rw [Bool.eq_false_iff.2 hs] at q
            rw [e0]
            simp only [Bool.not_false] at q
            clear e0 hs hrl xr xf
            go_enter Try.func17, Try.ntmps17
            go_wp2_with fail
            refine H1.out.mono ?_
            rintro e w1 ⟨rfl, hw⟩
            obtain rfl := hw.symm
            clear hw
            go_wp2_with fail
            refine H2.out.mono ?_
            rintro e w1 ⟨rfl, hw⟩
            obtain rfl := hw.symm
            clear hw
            go_wp2_with fail
            refine H3.out.mono ?_
            rintro e w1 ⟨rfl, hw⟩
            obtain rfl := hw.symm
            clear hw
            go_wp2_with fail
            refine H4.out.mono ?_
            rintro e w1 ⟨rfl, hK⟩
            have HK : Hid (Keeps _ _ _) := hK
            clear hK
            go_wp2
            go_ret2
            exact ⟨rfl, HK.out.alloc _⟩
        · rw [if_pos hw] at e0
          rw [e0, if_neg hw]
          have hy' : ((E : Int) != 0) = true := by rw [bne_iff_ne]; omega
          obtain ⟨F, hF⟩ : ∃ F, F = X.frame := ⟨_, rfl⟩
          obtain ⟨R, hR⟩ : ∃ R, R = X.rights := ⟨_, rfl⟩
          obtain ⟨P, hP⟩ : ∃ R, R = X.page := ⟨_, rfl⟩
          have hv : X.v = .agg #[.int .i64 P, .int .i64 F, .int .i64 R] := by rw [hF, hR, hP]
          rw [hv] at H4
          clear e0 hw hF hR hP hv xr xf
          go_enter Try.func17, Try.ntmps17
          go_wp2_with fail
          refine H1.out.mono ?_
          rintro e w1 ⟨rfl, hw⟩
          obtain rfl := hw.symm
          clear hw
          go_wp2_with fail
          refine H2.out.mono ?_
          rintro e w1 ⟨rfl, hw⟩
          obtain rfl := hw.symm
          clear hw
          go_wp2_with fail
          refine H3.out.mono ?_
          rintro e w1 ⟨rfl, hw⟩
          obtain rfl := hw.symm
          clear hw
          go_wp2_with fail
          refine H4.out.mono ?_
          rintro e w1 ⟨rfl, hK⟩
          have HK : Hid (Keeps _ _ _) := hK
          clear hK
          go_wp2
          go_ret2
          exact ⟨rfl, HK.out.alloc _⟩
      · rw [inR_false h3] at H3
        have e0 : addrE n xs root a rights = 92 := by unfold addrE; rw [if_neg (fun k => k h1), if_neg (fun k => k h2), if_pos h3]
        rw [show addrV n xs root a rights = 0 by unfold addrV; rw [e0]; rfl, e0]
        have H1 : Hid (Calls _ _ _ _ _) := H1
        have H2 : Hid (Calls _ _ _ _ _) := H2
        have H3 : Hid (Calls _ _ _ _ _) := H3
        clear e0 h1 h2 h3 h
        go_enter Try.func17, Try.ntmps17
        go_wp2_with fail
        refine H1.out.mono ?_
        rintro e w1 ⟨rfl, hw⟩
        obtain rfl := hw.symm
        clear hw
        go_wp2_with fail
        refine H2.out.mono ?_
        rintro e w1 ⟨rfl, hw⟩
        obtain rfl := hw.symm
        clear hw
        go_wp2_with fail
        refine H3.out.mono ?_
        rintro e w1 ⟨rfl, hw⟩
        obtain rfl := hw.symm
        clear hw
        go_wp2
        go_ret2
        exact ⟨rfl, Keeps.refl _ _⟩
    · rw [inR_false h2] at H2
      have e0 : addrE n xs root a rights = 91 := by unfold addrE; rw [if_neg (fun k => k h1), if_pos h2]
      rw [show addrV n xs root a rights = 0 by unfold addrV; rw [e0]; rfl, e0]
      have H1 : Hid (Calls _ _ _ _ _) := H1
      have H2 : Hid (Calls _ _ _ _ _) := H2
      clear e0 h1 h2 h H3
      go_enter Try.func17, Try.ntmps17
      go_wp2_with fail
      refine H1.out.mono ?_
      rintro e w1 ⟨rfl, hw⟩
      obtain rfl := hw.symm
      clear hw
      go_wp2_with fail
      refine H2.out.mono ?_
      rintro e w1 ⟨rfl, hw⟩
      obtain rfl := hw.symm
      clear hw
      go_wp2
      go_ret2
      exact ⟨rfl, Keeps.refl _ _⟩
  · rw [inR_false h1] at H1
    have e0 : addrE n xs root a rights = 90 := by unfold addrE; rw [if_pos h1]
    rw [show addrV n xs root a rights = 0 by unfold addrV; rw [e0]; rfl, e0]
    have H1 : Hid (Calls _ _ _ _ _) := H1
    clear e0 h1 h H3 H2
    go_enter Try.func17, Try.ntmps17
    go_wp2_with fail
    refine H1.out.mono ?_
    rintro e w1 ⟨rfl, hw⟩
    obtain rfl := hw.symm
    clear hw
    go_wp2
    go_ret2
    exact ⟨rfl, Keeps.refl _ _⟩

end Go.Proofs.Ytpccdhoaicabcaa
