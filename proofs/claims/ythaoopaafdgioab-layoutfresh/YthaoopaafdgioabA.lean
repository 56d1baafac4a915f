import Derived.Test.YthaoopaafdgioabCf
namespace Go.Proofs.Ythaoopaafdgioab
open Go.RowKit
set_option linter.unusedVariables false
set_option maxRecDepth 6000

/-- A channel whose stage and ports have sizes. -/
def Chn.sized (h : Chn) : Bool := decide (1 ≤ h.words) && decide (h.words ≤ 16) && (h.kind == 1 || (h.kind == 2 && decide (1 ≤ h.depth) && decide (h.depth ≤ 8)))
def Chn.plc (h : Chn) : Int := if h.kind = 2 then h.depth * (1 + h.words) else 1 + h.words
def Chn.stg (h : Chn) : Int := 1 + h.plc
def Chn.prt (h : Chn) : Int := if h.kind = 2 then 3 + h.plc else 2 + h.plc
theorem Chn.sized_iff {h : Chn} : h.sized = true ↔ (1 ≤ h.words ∧ h.words ≤ 16 ∧ (h.kind = 1 ∨ (h.kind = 2 ∧ 1 ≤ h.depth ∧ h.depth ≤ 8))) := by
  unfold Chn.sized; simp [and_assoc]
theorem Chn.plc_bd {h : Chn} (hs : h.sized = true) : 2 ≤ h.plc ∧ h.plc ≤ 136 := by
  have h1 := Chn.sized_iff.1 hs
  unfold Chn.plc
  split
  · rename_i e
    have h2 : 1 ≤ h.depth ∧ h.depth ≤ 8 := by rcases h1.2.2 with h3 | h3 <;> omega
    obtain ⟨k, n, d⟩ := h
    dsimp only at *
    have h3 : d = 1 ∨ d = 2 ∨ d = 3 ∨ d = 4 ∨ d = 5 ∨ d = 6 ∨ d = 7 ∨ d = 8 := by omega
    rcases h3 with h3 | h3 | h3 | h3 | h3 | h3 | h3 | h3 <;> subst h3 <;> omega
  · omega
theorem Chn.sized_no {k n d : Int} (h : ¬ (1 ≤ n ∧ n ≤ 16 ∧ (k = 1 ∨ (k = 2 ∧ 1 ≤ d ∧ d ≤ 8)))) : Hid (Chn.sized ⟨k, n, d⟩ = false) := by
  show Chn.sized ⟨k, n, d⟩ = false
  rw [Bool.eq_false_iff, Ne, Chn.sized_iff]; exact h
theorem Chn.sized_yes {k n d : Int} (h : (1 ≤ n ∧ n ≤ 16 ∧ (k = 1 ∨ (k = 2 ∧ 1 ≤ d ∧ d ≤ 8)))) : Hid (Chn.sized ⟨k, n, d⟩ = true) := by
  show Chn.sized ⟨k, n, d⟩ = true
  rw [Chn.sized_iff]; exact h

set_option maxHeartbeats 1000000 in
theorem sized_any (h : Chn) (w : World) : Calls Try.prog 48 #[h.v] w fun e w' => e = .returned (.bool h.sized) ∧ Keeps (fun _ => False) w w' := by
  obtain ⟨k, n, d⟩ := h
  go_enter Try.func48, Try.ntmps48
  by_cases h1 : n < 1
  · have e1 : decide (n < 1) = true := by simp [h1]
    have HS := Chn.sized_no (k := k) (n := n) (d := d) (by omega)
    go_wp2
    go_ret
    exact ⟨by rw [HS.out]; rfl, (Keeps.refl _ _).alloc _⟩
  have e1 : decide (n < 1) = false := by simp [h1]
  by_cases h2 : 16 < n
  · have e2 : decide (16 < n) = true := by simp [h2]
    have HS := Chn.sized_no (k := k) (n := n) (d := d) (by omega)
    go_wp2
    go_ret
    exact ⟨by rw [HS.out]; rfl, (Keeps.refl _ _).alloc _⟩
  have e2 : decide (16 < n) = false := by simp [h2]
  by_cases h3 : k = 1
  · have HS := Chn.sized_yes (k := k) (n := n) (d := d) (by omega)
    subst h3
    go_wp2
    go_ret
    exact ⟨by rw [HS.out]; rfl, (Keeps.refl _ _).alloc _⟩
  have e3 : (k == 1) = false := by simp [h3]
  by_cases h4 : k = 2
  · subst h4
    by_cases h5 : 1 ≤ d
    · have e5 : decide (1 ≤ d) = true := by simp [h5]
      by_cases h6 : d ≤ 8
      · have e6 : decide (d ≤ 8) = true := by simp [h6]
        have HS := Chn.sized_yes (k := 2) (n := n) (d := d) (by omega)
        go_wp2
        go_ret
        exact ⟨by rw [HS.out]; rfl, (Keeps.refl _ _).alloc _⟩
      · have e6 : decide (d ≤ 8) = false := by simp [h6]
        have HS := Chn.sized_no (k := 2) (n := n) (d := d) (by omega)
        go_wp2
        go_ret
        exact ⟨by rw [HS.out]; rfl, (Keeps.refl _ _).alloc _⟩
    · have e5 : decide (1 ≤ d) = false := by simp [h5]
      have HS := Chn.sized_no (k := 2) (n := n) (d := d) (by omega)
      go_wp2
      go_ret
      exact ⟨by rw [HS.out]; rfl, (Keeps.refl _ _).alloc _⟩
  · have e4 : (k == 2) = false := by simp [h4]
    have HS := Chn.sized_no (k := k) (n := n) (d := d) (by omega)
    go_wp2
    go_ret
    exact ⟨by rw [HS.out]; rfl, (Keeps.refl _ _).alloc _⟩

set_option maxHeartbeats 1000000 in
theorem places_any (h : Chn) (hs : h.sized = true) (w : World) : Calls Try.prog 54 #[h.v] w fun e w' => e = .returned (.int .i64 h.plc) ∧ Keeps (fun _ => False) w w' := by
  have hb := Chn.plc_bd hs
  have hs1 := Chn.sized_iff.1 hs
  obtain ⟨k, n, d⟩ := h
  dsimp only at hs1
  have q1 : IntKind.i64.wrap (1 + n) = 1 + n := by rw [IntKind.wrap_i64]; omega
  by_cases h4 : k = 2
  · subst h4
    have hp : Chn.plc ⟨2, n, d⟩ = d * (1 + n) := rfl
    rw [hp] at hb ⊢
    have q2 : IntKind.i64.wrap (d * (1 + n)) = d * (1 + n) := by rw [IntKind.wrap_i64]; omega
    clear hs hs1 hp hb
    go_enter Try.func54, Try.ntmps54
    go_wp2
    go_ret
    exact ⟨rfl, (Keeps.refl _ _).alloc _⟩
  · have hp : Chn.plc ⟨k, n, d⟩ = 1 + n := by unfold Chn.plc; rw [if_neg h4]
    rw [hp]
    have e4 : (k == 2) = false := by simp [h4]
    clear hs hs1 hp hb
    go_enter Try.func54, Try.ntmps54
    go_wp2
    go_ret
    exact ⟨rfl, (Keeps.refl _ _).alloc _⟩

theorem stage_any (h : Chn) (hs : h.sized = true) (w : World) : Calls Try.prog 50 #[h.v] w fun e w' => e = .returned (.int .i64 h.stg) ∧ Keeps (fun _ => False) w w' := by
  have hb := Chn.plc_bd hs
  unfold Chn.stg
  have HC : Hid (∀ w, Calls Try.prog 54 #[h.v] w fun e w' => e = .returned (.int .i64 h.plc) ∧ Keeps (fun _ => False) w w') := places_any h hs
  obtain ⟨P, hP⟩ : ∃ P, P = h.plc := ⟨_, rfl⟩
  rw [← hP] at hb HC ⊢
  clear hP hs
  have q1 : IntKind.i64.wrap (1 + P) = 1 + P := by rw [IntKind.wrap_i64]; omega
  go_enter Try.func50, Try.ntmps50
  go_wp2_with fail
  refine (HC.out _).mono ?_
  rintro e w1 ⟨rfl, hK⟩
  have HK : Hid (Keeps (fun _ => False) w w1) := ((Keeps.refl _ w).alloc _).trans hK fun _ _ h => h
  clear hK
  go_wp2
  go_ret
  exact ⟨rfl, HK.out⟩

theorem port_any (h : Chn) (hs : h.sized = true) (w : World) : Calls Try.prog 51 #[h.v] w fun e w' => e = .returned (.int .i64 h.prt) ∧ Keeps (fun _ => False) w w' := by
  have hb := Chn.plc_bd hs
  have HC : Hid (∀ w, Calls Try.prog 54 #[h.v] w fun e w' => e = .returned (.int .i64 h.plc) ∧ Keeps (fun _ => False) w w') := places_any h hs
  unfold Chn.prt
  obtain ⟨P, hP⟩ : ∃ P, P = h.plc := ⟨_, rfl⟩
  rw [← hP] at hb HC ⊢
  clear hP hs
  obtain ⟨k, n, d⟩ := h
  obtain ⟨W, hW⟩ : ∃ W, W = w.alloc (.cells #[.int .i64 k, .int .i64 n, .int .i64 d] 91) := ⟨_, rfl⟩
  have HW : Hid (Keeps (fun _ => False) w W) := by rw [hW]; exact (Keeps.refl _ _).alloc _
  have q1 : IntKind.i64.wrap (3 + P) = 3 + P := by rw [IntKind.wrap_i64]; omega
  have q2 : IntKind.i64.wrap (2 + P) = 2 + P := by rw [IntKind.wrap_i64]; omega
  by_cases h4 : k = 2
  · subst h4
    go_enter Try.func51, Try.ntmps51
    go_wp2_with fail
    rw [← hW]
    clear hW
    refine (HC.out _).mono ?_
    rintro e w1 ⟨rfl, hK⟩
    have HK : Hid (Keeps (fun _ => False) w w1) := HW.out.trans hK fun _ _ h => h
    clear hK
    go_wp2
    go_ret
    exact ⟨rfl, HK.out⟩
  · have e4 : (k == 2) = false := by simp [h4]
    dsimp only
    rw [if_neg h4]
    go_enter Try.func51, Try.ntmps51
    go_wp2_with fail
    rw [← hW]
    clear hW
    refine (HC.out _).mono ?_
    rintro e w1 ⟨rfl, hK⟩
    have HK : Hid (Keeps (fun _ => False) w w1) := HW.out.trans hK fun _ _ h => h
    clear hK
    go_wp2
    go_ret
    exact ⟨rfl, HK.out⟩
end Go.Proofs.Ythaoopaafdgioab
