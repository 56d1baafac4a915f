import Derived.Test.YthaoopaafdgioabA
namespace Go.Proofs.Ythaoopaafdgioab
open Go.RowKit
set_option linter.unusedVariables false
set_option maxRecDepth 6000

theorem Hid.mk' {p : Prop} (h : p) : Hid p := h
def Chn.stgO (h : Chn) : Int := if h.sized then h.stg else 0
def Chn.prtO (h : Chn) : Int := if h.sized then h.prt else 0
/-- How many words a port's messages take, by the document. -/
def Chn.bod (h : Chn) : Int := if h.sized then (if h.kind = 2 then h.plc else h.words) else 0
theorem Chn.stgO_no {h : Chn} (hs : h.sized = false) : h.stgO = 0 := by unfold Chn.stgO; rw [hs]; rfl
theorem Chn.stgO_yes {h : Chn} (hs : h.sized = true) : h.stgO = h.stg := by unfold Chn.stgO; rw [hs]; rfl
theorem Chn.prtO_no {h : Chn} (hs : h.sized = false) : h.prtO = 0 := by unfold Chn.prtO; rw [hs]; rfl
theorem Chn.prtO_yes {h : Chn} (hs : h.sized = true) : h.prtO = h.prt := by unfold Chn.prtO; rw [hs]; rfl

theorem call_enter {P : Program} {F : FuncId} {fn : Func} (hf : P.funcs[F]? = some fn) (hn : (fn.name == "runtime.NumGoroutine") = false) (hb : fn.body.isNone = false) (args : Array Value) (w : World) :
    (callFunc F args).run P w = .ok (.enter F args) w := by
  have hn' : ¬ fn.name = "runtime.NumGoroutine" := by simpa using hn
  have hb' : ¬ fn.body = none := fun e => by rw [e] at hb; cases hb
  simp [callFunc, go_sem, hf, hn', hb']

theorem Chn.bod_eq {k n d : Int} {v : Int} (h : Chn.bod ⟨k, n, d⟩ = v) : Hid (Chn.bod ⟨k, n, d⟩ = v) := h
set_option maxHeartbeats 1000000 in
theorem body_any (h : Chn) (w : World) : Calls Try.prog 46 #[h.v] w fun e w' => e = .returned (.int .i64 h.bod) ∧ Keeps (fun _ => False) w w' := by
  obtain ⟨k, n, d⟩ := h
  have HN : Hid (Chn.sized ⟨k, n, d⟩ = false → Chn.bod ⟨k, n, d⟩ = 0) := fun h => by unfold Chn.bod; rw [h]; rfl
  by_cases h1 : n < 1
  · have e1 : decide (n < 1) = true := by simp [h1]
    have HS := Chn.sized_no (k := k) (n := n) (d := d) (by omega)
    rw [HN.out HS.out]
    go_enter Try.func46, Try.ntmps46
    go_wp2
    go_ret
    exact ⟨rfl, (Keeps.refl _ _).alloc _⟩
  have e1 : decide (n < 1) = false := by simp [h1]
  by_cases h2 : 16 < n
  · have e2 : decide (16 < n) = true := by simp [h2]
    have HS := Chn.sized_no (k := k) (n := n) (d := d) (by omega)
    rw [HN.out HS.out]
    go_enter Try.func46, Try.ntmps46
    go_wp2
    go_ret
    exact ⟨rfl, (Keeps.refl _ _).alloc _⟩
  have e2 : decide (16 < n) = false := by simp [h2]
  by_cases h3 : k = 1
  · have HS := Chn.sized_yes (k := k) (n := n) (d := d) (by omega)
    have hb : Chn.bod ⟨k, n, d⟩ = n := by unfold Chn.bod; rw [HS.out]; subst h3; rfl
    rw [hb]
    subst h3
    clear hb
    go_enter Try.func46, Try.ntmps46
    go_wp2
    go_ret
    exact ⟨rfl, (Keeps.refl _ _).alloc _⟩
  have e3 : (k == 1) = false := by simp [h3]
  by_cases h4 : k = 2
  · subst h4
    by_cases h5 : 1 ≤ d
    · have e5 : decide (1 ≤ d) = true := by simp [h5]
      by_cases h6 : d ≤ 8
      · have e6 : decide (d ≤ 8) = true := by simp [h6]
        have HS := Chn.sized_yes (k := 2) (n := n) (d := d) (by omega)
        have hp := Chn.plc_bd HS.out
        have hp2 : Chn.plc ⟨2, n, d⟩ = d * (1 + n) := rfl
        have hb : Chn.bod ⟨2, n, d⟩ = d * (1 + n) := by unfold Chn.bod; rw [HS.out]; rfl
        rw [hp2] at hp
        rw [hb]
        have q1 : IntKind.i64.wrap (1 + n) = 1 + n := by rw [IntKind.wrap_i64]; omega
        have q2 : IntKind.i64.wrap (d * (1 + n)) = d * (1 + n) := by rw [IntKind.wrap_i64]; omega
        clear hb hp2 hp
        go_enter Try.func46, Try.ntmps46
        go_wp2
        go_ret
        exact ⟨rfl, (Keeps.refl _ _).alloc _⟩
      · have e6 : decide (d ≤ 8) = false := by simp [h6]
        have HS := Chn.sized_no (k := 2) (n := n) (d := d) (by omega)
        rw [HN.out HS.out]
        go_enter Try.func46, Try.ntmps46
        go_wp2
        go_ret
        exact ⟨rfl, (Keeps.refl _ _).alloc _⟩
    · have e5 : decide (1 ≤ d) = false := by simp [h5]
      have HS := Chn.sized_no (k := 2) (n := n) (d := d) (by omega)
      rw [HN.out HS.out]
      go_enter Try.func46, Try.ntmps46
      go_wp2
      go_ret
      exact ⟨rfl, (Keeps.refl _ _).alloc _⟩
  · have e4 : (k == 2) = false := by simp [h4]
    have HS := Chn.sized_no (k := k) (n := n) (d := d) (by omega)
    rw [HN.out HS.out]
    go_enter Try.func46, Try.ntmps46
    go_wp2
    go_ret
    exact ⟨rfl, (Keeps.refl _ _).alloc _⟩

theorem Chn.bod_pos {h : Chn} (hs : h.sized = true) : 1 ≤ h.bod ∧ h.bod ≤ 136 := by
  have h1 := Chn.plc_bd hs
  have h2 := Chn.sized_iff.1 hs
  unfold Chn.bod
  rw [hs]
  simp only [if_true]
  split <;> omega
theorem Chn.bod_no {h : Chn} (hs : h.sized = false) : h.bod = 0 := by unfold Chn.bod; rw [hs]; rfl

set_option maxHeartbeats 1000000 in
theorem rStage_any (h : Chn) (w : World) : Calls Try.prog 32 #[h.v] w fun e w' => e = .returned (.int .i64 h.stgO) ∧ Keeps (fun _ => False) w w' := by
  obtain ⟨k, n, d⟩ := h
  have HC : Hid (∀ w, Calls Try.prog 46 #[Chn.v ⟨k, n, d⟩] w fun e w' => e = .returned (.int .i64 (Chn.bod ⟨k, n, d⟩)) ∧ Keeps (fun _ => False) w w') := body_any _
  obtain ⟨W, hW⟩ : ∃ W, W = w.alloc (.cells #[.int .i64 k, .int .i64 n, .int .i64 d] 78) := ⟨_, rfl⟩
  obtain ⟨C, hC⟩ : ∃ C, C = w.heap.size := ⟨_, rfl⟩
  have HW : Hid (Keeps (fun _ => False) w W ∧ Blk W C [.int .i64 k, .int .i64 n, .int .i64 d] 78) := by rw [hW, hC]; exact ⟨(Keeps.refl _ _).alloc _, Blk.new _ _ _⟩
  go_enter Try.func32, Try.ntmps32
  go_wp2_with fail
  rw [← hW, ← hC]
  clear hW hC
  refine (HC.out _).mono ?_
  rintro e w1 ⟨rfl, hK⟩
  have HK : Hid (Keeps (fun _ => False) w w1) := HW.out.1.trans hK fun _ _ h => h
  have c0 : w1.cell? ⟨C, 0, none⟩ = some (.int .i64 k) := (HW.out.2.kept hK fun h => h).cell rfl
  have c1 : w1.cell? ⟨C, 1, none⟩ = some (.int .i64 n) := (HW.out.2.kept hK fun h => h).cell rfl
  clear hK HC HW
  obtain ⟨b, hb⟩ : ∃ b, Chn.sized ⟨k, n, d⟩ = b := ⟨_, rfl⟩
  cases b with
  | false =>
    rw [Chn.bod_no hb]
    have H5 : Hid (Chn.stgO ⟨k, n, d⟩ = 0) := Chn.stgO_no hb
    clear hb
    go_wp2
    go_ret
    exact ⟨by rw [H5.out]; rfl, HK.out⟩
  | true =>
    have h2 := Chn.sized_iff.1 hb
    dsimp only at h2
    by_cases h4 : k = 2
    · subst h4
      have h3 := Chn.bod_pos hb
      have h5 : Chn.stgO ⟨2, n, d⟩ = 1 + Chn.bod ⟨2, n, d⟩ := by unfold Chn.stgO Chn.bod Chn.stg; rw [hb]; rfl
      have H5 := Hid.mk' h5
      obtain ⟨B, hB⟩ : ∃ B, Chn.bod ⟨2, n, d⟩ = B := ⟨_, rfl⟩
      rw [hB] at h3 H5 ⊢
      have q1 : IntKind.i64.wrap (1 + B) = 1 + B := by rw [IntKind.wrap_i64]; omega
      have q2 : (B == 0) = false := by simp; omega
      clear hB h5 h3 h2 hb
      go_wp2
      go_ret
      exact ⟨by rw [H5.out]; rfl, HK.out⟩
    · obtain rfl : k = 1 := by omega
      have h5 : Chn.stgO ⟨1, n, d⟩ = 2 + n := by unfold Chn.stgO Chn.stg; rw [hb]; show 1 + (1 + n) = 2 + n; omega
      have h6 : Chn.bod ⟨1, n, d⟩ = n := by unfold Chn.bod; rw [hb]; rfl
      have H5 := Hid.mk' h5
      rw [h6]
      have q1 : IntKind.i64.wrap (2 + n) = 2 + n := by rw [IntKind.wrap_i64]; omega
      have q2 : (n == 0) = false := by simp; omega
      clear h5 h6 hb h2
      go_wp2
      go_ret
      exact ⟨by rw [H5.out]; rfl, HK.out⟩

set_option maxHeartbeats 1000000 in
theorem rPort_any (h : Chn) (w : World) : Calls Try.prog 30 #[h.v] w fun e w' => e = .returned (.int .i64 h.prtO) ∧ Keeps (fun _ => False) w w' := by
  obtain ⟨k, n, d⟩ := h
  have HC : Hid (∀ w, Calls Try.prog 46 #[Chn.v ⟨k, n, d⟩] w fun e w' => e = .returned (.int .i64 (Chn.bod ⟨k, n, d⟩)) ∧ Keeps (fun _ => False) w w') := body_any _
  go_enter Try.func30, Try.ntmps30
  go_wp2_with fail
  refine (HC.out _).mono ?_
  rintro e w1 ⟨rfl, hK⟩
  have HK : Hid (Keeps (fun _ => False) w w1) := ((Keeps.refl _ w).alloc _).trans hK fun _ _ h => h
  clear hK HC
  obtain ⟨b, hb⟩ : ∃ b, Chn.sized ⟨k, n, d⟩ = b := ⟨_, rfl⟩
  cases b with
  | false =>
    rw [Chn.bod_no hb]
    have H5 : Hid (Chn.prtO ⟨k, n, d⟩ = 0) := Chn.prtO_no hb
    clear hb
    go_wp2
    go_ret
    exact ⟨by rw [H5.out]; rfl, HK.out⟩
  | true =>
    have h2 := Chn.sized_iff.1 hb
    dsimp only at h2
    have h3 := Chn.bod_pos hb
    have h5 : Chn.prtO ⟨k, n, d⟩ = 3 + Chn.bod ⟨k, n, d⟩ := by
      unfold Chn.prtO Chn.bod Chn.prt Chn.plc; rw [hb]; dsimp only [if_true]
      split <;> simp_all <;> omega
    have H5 := Hid.mk' h5
    obtain ⟨B, hB⟩ : ∃ B, Chn.bod ⟨k, n, d⟩ = B := ⟨_, rfl⟩
    rw [hB] at h3 H5 ⊢
    have q1 : IntKind.i64.wrap (3 + B) = 3 + B := by rw [IntKind.wrap_i64]; omega
    have q2 : (B == 0) = false := by simp; omega
    clear hB h5 h3 h2 hb
    go_wp2
    go_ret
    exact ⟨by rw [H5.out]; rfl, HK.out⟩

end Go.Proofs.Ythaoopaafdgioab
