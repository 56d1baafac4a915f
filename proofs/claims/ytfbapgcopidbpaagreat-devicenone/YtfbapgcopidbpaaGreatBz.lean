import Derived.Test.YtfbapgcopidbpaaGreatB
namespace Go.Proofs.YtfbapgcopidbpaaGreat
open Go.RowKit
set_option linter.unusedVariables false
set_option maxRecDepth 6000

theorem body_any (h : Chn) (w : World) : Calls Tryz.prog 63 #[h.v] w fun e w' => e = .returned (.int .i64 h.bod) ∧ Keeps (fun _ => False) w w' := by
  obtain ⟨k, n, d⟩ := h
  have HN : Hid (Chn.sized ⟨k, n, d⟩ = false → Chn.bod ⟨k, n, d⟩ = 0) := fun h => by unfold Chn.bod; rw [h]; rfl
  by_cases h1 : n < 1
  · have e1 : decide (n < 1) = true := by simp [h1]
    have HS := Chn.sized_no (k := k) (n := n) (d := d) (by omega)
    rw [HN.out HS.out]
    go_enter Tryz.func63, Tryz.ntmps63
    go_wp2
    go_ret
    exact ⟨rfl, (Keeps.refl _ _).alloc _⟩
  have e1 : decide (n < 1) = false := by simp [h1]
  by_cases h2 : 16 < n
  · have e2 : decide (16 < n) = true := by simp [h2]
    have HS := Chn.sized_no (k := k) (n := n) (d := d) (by omega)
    rw [HN.out HS.out]
    go_enter Tryz.func63, Tryz.ntmps63
    go_wp2
    go_ret
    exact ⟨rfl, (Keeps.refl _ _).alloc _⟩
  have e2 : decide (16 < n) = false := by simp [h2]
  by_cases h3 : k = 1
  · have HS := Chn.sized_yes (k := k) (n := n) (d := d) (by omega)
    have hb : Chn.bod ⟨k, n, d⟩ = n := by unfold Chn.bod; rw [HS.out]; subst h3; rfl
    rw [hb]
    subst h3
    clear hb
    go_enter Tryz.func63, Tryz.ntmps63
    go_wp2
    go_ret
    exact ⟨rfl, (Keeps.refl _ _).alloc _⟩
  have e3 : (k == 1) = false := by simp [h3]
  by_cases h4 : k = 2
  · subst h4
    by_cases h5 : 1 ≤ d
    · have e5 : decide (1 ≤ d) = true := by simp [h5]
      by_cases h6 : d ≤ 8
      · have e6 : decide (d ≤ 8) = true := by simp [h6]
        have HS := Chn.sized_yes (k := 2) (n := n) (d := d) (by omega)
        have hp := Chn.plc_bd HS.out
        have hp2 : Chn.plc ⟨2, n, d⟩ = d * (1 + n) := rfl
        have hb : Chn.bod ⟨2, n, d⟩ = d * (1 + n) := by unfold Chn.bod; rw [HS.out]; rfl
        rw [hp2] at hp
        rw [hb]
        have q1 : IntKind.i64.wrap (1 + n) = 1 + n := by rw [IntKind.wrap_i64]; omega
        have q2 : IntKind.i64.wrap (d * (1 + n)) = d * (1 + n) := by rw [IntKind.wrap_i64]; omega
        clear hb hp2 hp
        go_enter Tryz.func63, Tryz.ntmps63
        go_wp2
        go_ret
        exact ⟨rfl, (Keeps.refl _ _).alloc _⟩
      · have e6 : decide (d ≤ 8) = false := by simp [h6]
        have HS := Chn.sized_no (k := 2) (n := n) (d := d) (by omega)
        rw [HN.out HS.out]
        go_enter Tryz.func63, Tryz.ntmps63
        go_wp2
        go_ret
        exact ⟨rfl, (Keeps.refl _ _).alloc _⟩
    · have e5 : decide (1 ≤ d) = false := by simp [h5]
      have HS := Chn.sized_no (k := 2) (n := n) (d := d) (by omega)
      rw [HN.out HS.out]
      go_enter Tryz.func63, Tryz.ntmps63
      go_wp2
      go_ret
      exact ⟨rfl, (Keeps.refl _ _).alloc _⟩
  · have e4 : (k == 2) = false := by simp [h4]
    have HS := Chn.sized_no (k := k) (n := n) (d := d) (by omega)
    rw [HN.out HS.out]
    go_enter Tryz.func63, Tryz.ntmps63
    go_wp2
    go_ret
    exact ⟨rfl, (Keeps.refl _ _).alloc _⟩

theorem rStage_any (h : Chn) (w : World) : Calls Tryz.prog 40 #[h.v] w fun e w' => e = .returned (.int .i64 h.stgO) ∧ Keeps (fun _ => False) w w' := by
  obtain ⟨k, n, d⟩ := h
  have HC : Hid (∀ w, Calls Tryz.prog 63 #[Chn.v ⟨k, n, d⟩] w fun e w' => e = .returned (.int .i64 (Chn.bod ⟨k, n, d⟩)) ∧ Keeps (fun _ => False) w w') := body_any _
  obtain ⟨W, hW⟩ : ∃ W, W = w.alloc (.cells #[.int .i64 k, .int .i64 n, .int .i64 d] 112) := ⟨_, rfl⟩
  obtain ⟨C, hC⟩ : ∃ C, C = w.heap.size := ⟨_, rfl⟩
  have HW : Hid (Keeps (fun _ => False) w W ∧ Blk W C [.int .i64 k, .int .i64 n, .int .i64 d] 112) := by rw [hW, hC]; exact ⟨(Keeps.refl _ _).alloc _, Blk.new _ _ _⟩
  go_enter Tryz.func40, Tryz.ntmps40
  go_wp2_with fail
  rw [← hW, ← hC]
  clear hW hC
  refine (HC.out _).mono ?_
  rintro e w1 ⟨rfl, hK⟩
  have HK : Hid (Keeps (fun _ => False) w w1) := HW.out.1.trans hK fun _ _ h => h
  have c0 : w1.cell? ⟨C, 0, none⟩ = some (.int .i64 k) := (HW.out.2.kept hK fun h => h).cell rfl
  have c1 : w1.cell? ⟨C, 1, none⟩ = some (.int .i64 n) := (HW.out.2.kept hK fun h => h).cell rfl
  clear hK HC HW
  obtain ⟨b, hb⟩ : ∃ b, Chn.sized ⟨k, n, d⟩ = b := ⟨_, rfl⟩
  cases b with
  | false =>
    rw [Chn.bod_no hb]
    have H5 : Hid (Chn.stgO ⟨k, n, d⟩ = 0) := Chn.stgO_no hb
    clear hb
    go_wp2
    go_ret
    exact ⟨by rw [H5.out]; rfl, HK.out⟩
  | true =>
    have h2 := Chn.sized_iff.1 hb
    dsimp only at h2
    by_cases h4 : k = 2
    · subst h4
      have h3 := Chn.bod_pos hb
      have h5 : Chn.stgO ⟨2, n, d⟩ = 1 + Chn.bod ⟨2, n, d⟩ := by unfold Chn.stgO Chn.bod Chn.stg; rw [hb]; rfl
      have H5 := Hid.mk' h5
      obtain ⟨B, hB⟩ : ∃ B, Chn.bod ⟨2, n, d⟩ = B := ⟨_, rfl⟩
      rw [hB] at h3 H5 ⊢
      have q1 : IntKind.i64.wrap (1 + B) = 1 + B := by rw [IntKind.wrap_i64]; omega
      have q2 : (B == 0) = false := by simp; omega
      clear hB h5 h3 h2 hb
      go_wp2
      go_ret
      exact ⟨by rw [H5.out]; rfl, HK.out⟩
    · obtain rfl : k = 1 := by omega
      have h5 : Chn.stgO ⟨1, n, d⟩ = 2 + n := by unfold Chn.stgO Chn.stg; rw [hb]; show 1 + (1 + n) = 2 + n; omega
      have h6 : Chn.bod ⟨1, n, d⟩ = n := by unfold Chn.bod; rw [hb]; rfl
      have H5 := Hid.mk' h5
      rw [h6]
      have q1 : IntKind.i64.wrap (2 + n) = 2 + n := by rw [IntKind.wrap_i64]; omega
      have q2 : (n == 0) = false := by simp; omega
      clear h5 h6 hb h2
      go_wp2
      go_ret
      exact ⟨by rw [H5.out]; rfl, HK.out⟩

theorem rPort_any (h : Chn) (w : World) : Calls Tryz.prog 38 #[h.v] w fun e w' => e = .returned (.int .i64 h.prtO) ∧ Keeps (fun _ => False) w w' := by
  obtain ⟨k, n, d⟩ := h
  have HC : Hid (∀ w, Calls Tryz.prog 63 #[Chn.v ⟨k, n, d⟩] w fun e w' => e = .returned (.int .i64 (Chn.bod ⟨k, n, d⟩)) ∧ Keeps (fun _ => False) w w') := body_any _
  go_enter Tryz.func38, Tryz.ntmps38
  go_wp2_with fail
  refine (HC.out _).mono ?_
  rintro e w1 ⟨rfl, hK⟩
  have HK : Hid (Keeps (fun _ => False) w w1) := ((Keeps.refl _ w).alloc _).trans hK fun _ _ h => h
  clear hK HC
  obtain ⟨b, hb⟩ : ∃ b, Chn.sized ⟨k, n, d⟩ = b := ⟨_, rfl⟩
  cases b with
  | false =>
    rw [Chn.bod_no hb]
    have H5 : Hid (Chn.prtO ⟨k, n, d⟩ = 0) := Chn.prtO_no hb
    clear hb
    go_wp2
    go_ret
    exact ⟨by rw [H5.out]; rfl, HK.out⟩
  | true =>
    have h2 := Chn.sized_iff.1 hb
    dsimp only at h2
    have h3 := Chn.bod_pos hb
    have h5 : Chn.prtO ⟨k, n, d⟩ = 3 + Chn.bod ⟨k, n, d⟩ := by
      unfold Chn.prtO Chn.bod Chn.prt Chn.plc; rw [hb]; dsimp only [if_true]
      split <;> simp_all <;> omega
    have H5 := Hid.mk' h5
    obtain ⟨B, hB⟩ : ∃ B, Chn.bod ⟨k, n, d⟩ = B := ⟨_, rfl⟩
    rw [hB] at h3 H5 ⊢
    have q1 : IntKind.i64.wrap (3 + B) = 3 + B := by rw [IntKind.wrap_i64]; omega
    have q2 : (B == 0) = false := by simp; omega
    clear hB h5 h3 h2 hb
    go_wp2
    go_ret
    exact ⟨by rw [H5.out]; rfl, HK.out⟩


end Go.Proofs.YtfbapgcopidbpaaGreat
