import Derived.Test.YthaoopaafdgioaaP
namespace Go.Proofs.Ythaoopaafdgioaa
open Go.RowKit
set_option linter.unusedVariables false
set_option maxRecDepth 6000

/-- A memory of f frames has the word. -/
def isW (f a : Int) : Bool := decide (0 ≤ a) && decide (a / 16 < f) && decide (a / 16 < 1024)

/-- A region has the frame. -/
def Rgn.hasF (fr : Int) (r : Rgn) : Bool := decide (0 ≤ r.frame) && decide (r.frame ≤ 1024) && decide (r.frame ≤ fr) && decide (fr < r.frame + r.pages)

set_option maxHeartbeats 1000000 in
theorem isRegionFrame_any (r : Rgn) (hr : r.Fine) (hb : r.inB = true) (a : Int) (w : World) : Calls Try.prog 56 #[r.v, .int .i64 a] w fun e w' => e = .returned (.bool (r.hasF a)) ∧ Keeps (fun _ => False) w w' := by
  obtain ⟨p, q, fr, t⟩ := r
  have hf := hr
  unfold Rgn.Fine at hf
  dsimp only at hf
  have hb := Rgn.inB_iff.1 hb
  dsimp only at hb
  go_enter Try.func56, Try.ntmps56
  by_cases h1 : 0 ≤ fr
  · have e1 : decide (0 ≤ fr) = true := by simp [h1]
    by_cases h2 : fr ≤ 1024
    · have e2 : decide (fr ≤ 1024) = true := by simp [h2]
      by_cases h3 : fr ≤ a
      · have e3 : decide (fr ≤ a) = true := by simp [h3]
        by_cases h4 : a < fr + q
        · have HS : Hid (Rgn.hasF a ⟨p, q, fr, t⟩ = true) := by show _ = _; unfold Rgn.hasF; simp; omega
          have q1 : IntKind.i64.wrap (fr + q) = fr + q := by rw [IntKind.wrap_i64]; omega
          have e4 : decide (a < fr + q) = true := by simp [h4]
          go_wp2
          go_ret
          exact ⟨by rw [HS.out]; rfl, (Keeps.refl _ _).alloc _⟩
        · have HS : Hid (Rgn.hasF a ⟨p, q, fr, t⟩ = false) := by show _ = _; unfold Rgn.hasF; simp; omega
          have q1 : IntKind.i64.wrap (fr + q) = fr + q := by rw [IntKind.wrap_i64]; omega
          have e4 : decide (a < fr + q) = false := by simp [h4]
          go_wp2
          go_ret
          exact ⟨by rw [HS.out]; rfl, (Keeps.refl _ _).alloc _⟩
      · have e3 : decide (fr ≤ a) = false := by simp [h3]
        have HS : Hid (Rgn.hasF a ⟨p, q, fr, t⟩ = false) := by show _ = _; unfold Rgn.hasF; simp; omega
        go_wp2
        go_ret
        exact ⟨by rw [HS.out]; rfl, (Keeps.refl _ _).alloc _⟩
    · have e2 : decide (fr ≤ 1024) = false := by simp [h2]
      have HS : Hid (Rgn.hasF a ⟨p, q, fr, t⟩ = false) := by show _ = _; unfold Rgn.hasF; simp; omega
      go_wp2
      go_ret
      exact ⟨by rw [HS.out]; rfl, (Keeps.refl _ _).alloc _⟩
  · have e1 : decide (0 ≤ fr) = false := by simp [h1]
    have HS : Hid (Rgn.hasF a ⟨p, q, fr, t⟩ = false) := by show _ = _; unfold Rgn.hasF; simp; omega
    go_wp2
    go_ret
    exact ⟨by rw [HS.out]; rfl, (Keeps.refl _ _).alloc _⟩

set_option maxHeartbeats 1000000 in
theorem isWord_any (x : Cfg) (a : Int) (ha : I64 a) (w : World) (N : Nat) (hi : x.In w N) (hN : N ≤ w.heap.size) :
    Calls Try.prog 36 #[x.v, .int .i64 a] w fun e w' => e = .returned (.bool (isW x.frames a)) ∧ Keeps (fun _ => False) w w' := by
  obtain ⟨W, hW⟩ : ∃ W, W = x.laid w := ⟨_, rfl⟩
  obtain ⟨C, hC⟩ : ∃ C, C = w.heap.size := ⟨_, rfl⟩
  have HO : Hid (One w x C N W) := by rw [hW, hC]; exact One.mk' hi hN
  clear hi hN
  have c0 : W.cell? ⟨C, 0, none⟩ = some (.int .i64 x.frames) := HO.out.cfg.cell (i := 0) rfl
  unfold Cfg.laid at hW
  go_enter Try.func36, Try.ntmps36
  go_upto_region 1 with fail
  rw [← hW, ← hC]
  clear hW hC
  go_upto_region 2 with fail
  obtain ⟨d, hd⟩ : ∃ d, a.tdiv 16 = d := ⟨_, rfl⟩
  have hd0 : 0 ≤ a → d = a / 16 := fun h => by rw [← hd]; exact Int.tdiv_eq_ediv_of_nonneg h
  rw [hd]
  clear hd
  by_cases h1 : 0 ≤ a
  · have e1 : decide (0 ≤ a) = true := by simp [h1]
    have hd1 := hd0 h1
    by_cases h2 : d < x.frames
    · have e2 : decide (d < x.frames) = true := by simp [h2]
      by_cases h3 : d < 1024
      · have e3 : decide (d < 1024) = true := by simp [h3]
        have HS : Hid (isW x.frames a = true) := by show _ = _; unfold isW; simp; omega
        clear hd0 hd1
        go_wp2
        go_ret
        exact ⟨by rw [HS.out]; rfl, HO.out.keeps⟩
      · have e3 : decide (d < 1024) = false := by simp [h3]
        have HS : Hid (isW x.frames a = false) := by show _ = _; unfold isW; simp; omega
        clear hd0 hd1
        go_wp2
        go_ret
        exact ⟨by rw [HS.out]; rfl, HO.out.keeps⟩
    · have e2 : decide (d < x.frames) = false := by simp [h2]
      have HS : Hid (isW x.frames a = false) := by show _ = _; unfold isW; simp; omega
      clear hd0 hd1
      go_wp2
      go_ret
      exact ⟨by rw [HS.out]; rfl, HO.out.keeps⟩
  · have e1 : decide (0 ≤ a) = false := by simp [h1]
    have HS : Hid (isW x.frames a = false) := by show _ = _; unfold isW; simp; omega
    clear hd0
    go_wp2
    go_ret
    exact ⟨by rw [HS.out]; rfl, HO.out.keeps⟩
end Go.Proofs.Ythaoopaafdgioaa
