import Derived.Test.YtofjbkoojimmhaaGreatQw
import Derived.Test.YtofjbkoojimmhaaGreatP
namespace Go.Proofs.YtofjbkoojimmhaaGreat
open Go.RowKit
set_option linter.unusedVariables false
set_option linter.unusedSimpArgs false
set_option maxRecDepth 6000

/-- The first frame behind the kernel's words. -/
def Cfg.endW (x : Cfg) : Int := rtAt x (rtB x (16 * x.kernel)) x.ps.length / 16
theorem Cfg.endW_bd {x : Cfg} (hm : x.mayB = true) : x.kernel ≤ x.endW ∧ x.endW ≤ 10000000 ∧ 0 ≤ x.kernel ∧ x.kernel < 1024 := by
  have h1 := Cfg.mayB_iff.1 hm
  have h2 := rtAt_bd x (rtB x (16 * x.kernel)) x.ps.length
  have h3 := chAt_bd hm (chB x (16 * x.kernel)) x.hs.length
  have h4 : 0 ≤ fillN (chE x (16 * x.kernel)) ∧ fillN (chE x (16 * x.kernel)) ≤ 16 := by unfold fillN; split <;> omega
  unfold Cfg.endW
  have h5 : rtB x (16 * x.kernel) = chAt x (chB x (16 * x.kernel)) x.hs.length + fillN (chE x (16 * x.kernel)) := rfl
  have h6 : chB x (16 * x.kernel) = 16 * x.kernel + 2 + 24 * (x.ps.length : Int) := rfl
  have h7 := h1.1
  have h8 := h1.2.1
  have h9 := h1.2.2.1
  have h10 := h1.2.2.2.1
  omega
def NeedP (x : Cfg) (w : World) (e : Ending) (w' : World) : Prop :=
  Keeps (fun _ => False) w w' ∧ ((x.mayB = false ∧ e = .returned (.tuple #[.int .i64 0, .int .i64 150])) ∨ (x.mayB = true ∧ e = .returned (.tuple #[.int .i64 (x.endW - x.kernel), .int .i64 0])))
set_option maxHeartbeats 4000000 in
theorem Need_any (x : Cfg) (w : World) (N : Nat) (hi : x.In w N) (hN : N ≤ w.heap.size) : Calls Tryz.prog 133 #[x.v] w (NeedP x w) := by
  have HO1 := One.mk' hi hN
  obtain ⟨W, hW⟩ : ∃ W, W = x.laid w := ⟨_, rfl⟩
  obtain ⟨C, hC⟩ : ∃ C, C = w.heap.size := ⟨_, rfl⟩
  rw [← hW, ← hC] at HO1
  have HO : Hid (One w x C N W) := HO1
  have HC : Hid (Calls Tryz.prog 34 #[x.v] W (OfP x W)) := Of_any x W N HO1.cin HO1.nn
  obtain ⟨q0, q1, q2, q3, q4, q5, q6⟩ := HO1.cells
  unfold Cfg.laid at hW
  clear hi hN HO1
  go_enter Tryz.func133, Tryz.ntmps133
  go_upto_region 1 with fail
  rw [← hW, ← hC]
  clear hW hC
  go_wp2_with fail
  refine HC.out.mono ?_
  rintro e w1 ⟨hK, h | ⟨hm, b1, b2, F, G, T, D, rfl, _⟩⟩
  · obtain ⟨hm, rfl⟩ := h
    have HO2 : Hid (One w x C N w1) := HO.out.kept hK
    have HM : Hid (x.mayB = false) := hm
    clear hK hm HC q0 q1 q2 q3 q4 q5 q6
    go_wp2
    go_ret2
    exact ⟨HO2.out.keeps.trans ((Keeps.refl (fun _ => False) _).alloc _) fun _ _ h => h, .inl ⟨HM.out, rfl⟩⟩
  · have HO2 : Hid (One w x C N w1) := HO.out.kept hK
    have HM : Hid (x.mayB = true) := hm
    have hb := Cfg.endW_bd hm
    change x.kernel ≤ x.endW ∧ _ at hb
    rw [show rtAt x (rtB x (16 * x.kernel)) x.ps.length / 16 = x.endW from rfl]
    obtain ⟨EN, hEN⟩ : ∃ EN, x.endW = EN := ⟨_, rfl⟩
    have HEN : Hid (x.endW = EN) := hEN
    rw [hEN] at hb ⊢
    clear hEN
    obtain ⟨W2, hW2⟩ : ∃ W2, W2 = w1.alloc (.cells #[.int .i64 (16 * x.kernel), .slice (some ⟨b1, 0, none⟩) x.ps.length x.ps.length, .slice (some ⟨b2, 0, none⟩) x.hs.length x.hs.length, .int .i64 EN] 58) := ⟨_, rfl⟩
    obtain ⟨Q, hQ⟩ : ∃ Q, Q = w1.heap.size := ⟨_, rfl⟩
    have hB : Blk W2 Q [.int .i64 (16 * x.kernel), .slice (some ⟨b1, 0, none⟩) x.ps.length x.ps.length, .slice (some ⟨b2, 0, none⟩) x.hs.length x.hs.length, .int .i64 EN] 58 := by rw [hW2, hQ]; exact Blk.new _ _ _
    have d3 := hB.cell (i := 3) rfl
    have HO3 : Hid (One w x C N W2) := by rw [hW2]; exact HO2.out.kept ((Keeps.refl _ _).alloc _)
    have k2 := HO3.out.cfg.cell (i := 2) rfl
    have q9 : IntKind.i64.wrap (EN - x.kernel) = EN - x.kernel := by rw [IntKind.wrap_i64]; omega
    clear hK hm HC q0 q1 q2 q3 q4 q5 q6 hB
    go_upto_region 2 with fail
    rw [← hW2, ← hQ]
    clear hW2 hQ
    go_wp2
    go_ret2
    exact ⟨HO3.out.keeps, .inr ⟨HM.out, by rw [HEN.out]; rfl⟩⟩
end Go.Proofs.YtofjbkoojimmhaaGreat
