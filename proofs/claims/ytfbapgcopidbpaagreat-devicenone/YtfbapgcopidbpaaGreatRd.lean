import Derived.Test.YtfbapgcopidbpaaGreatRc
namespace Go.Proofs.YtfbapgcopidbpaaGreat
open Go.RowKit
set_option linter.unusedVariables false
set_option maxRecDepth 6000

set_option maxHeartbeats 4000000 in
theorem touches_any (X : Par) (t : Nat) (w : World) (N : Nat) (hi : X.In w N) (hN : N ≤ w.heap.size) (hall : ∀ r ∈ X.rs, r.inB = true) (ht : t < 16) :
    Calls Tryz.prog 41 #[X.v, .int .i64 t] w fun e w' => e = .returned (.bool (hasT X.rs t)) ∧ Keeps (fun _ => False) w w' := by
  obtain ⟨nm, en, ac, re, inp, ou, ra, rc, rs, pa, pc, ps⟩ := X
  obtain ⟨W, hW⟩ : ∃ W, W = Par.laid w ⟨nm, en, ac, re, inp, ou, ra, rc, rs, pa, pc, ps⟩ := ⟨_, rfl⟩
  obtain ⟨C, hC⟩ : ∃ C, C = w.heap.size := ⟨_, rfl⟩
  have HO : Hid (OneP w ⟨nm, en, ac, re, inp, ou, ra, rc, rs, pa, pc, ps⟩ C N W) := by rw [hW, hC]; exact OneP.mk' hi hN
  obtain ⟨R, hR⟩ : ∃ R, rs.length = R := ⟨_, rfl⟩
  have HL : Hid (rs.length = R ∧ ∀ r ∈ rs, r.inB = true) := ⟨hR, hall⟩
  have hrc : (R : Int) ≤ rc ∧ (rc : Int) ≤ 9223372036854775807 := by have := hi.rlen; unfold maxLen at this; dsimp only at this; omega
  simp only [Par.v, Par.laid, hR] at hW ⊢
  have c6 : W.cell? ⟨C, 6, none⟩ = some (.slice ra R rc) := by have := HO.out.cfg.cell (i := 6) rfl; rw [← hR]; exact this
  clear hi hN hR hall
  go_enter Tryz.func41, Tryz.ntmps41
  go_upto_region 1 with fail
  rw [← hW, ← hC]
  clear hW hC
  go_wp2
  go_loopw [11] (fun i wr => ∃ j : Nat, j ≤ R ∧ i = .int .i64 j ∧ hasT (rs.take j) t = false ∧ OneP w ⟨nm, en, ac, re, inp, ou, ra, rc, rs, pa, pc, ps⟩ C N wr) (fun i _ => R - (intOf i).toNat)
  case atStart => exact ⟨0, by omega, rfl, rfl, HO.out⟩
  case round =>
    obtain ⟨j, hj, rfl, hno, hO⟩ := hrel
    clear c6
    by_cases hlt : j < R
    · obtain ⟨y, hy⟩ : ∃ y, rs[j]? = some y := ⟨_, List.getElem?_eq_getElem (by have := HL.out.1; omega)⟩
      have c6 : wr.cell? ⟨C, 6, none⟩ = some (.slice ra R rc) := by have := hO.cfg.cell (i := 6) rfl; rw [← HL.out.1]; exact this
      obtain ⟨g1, o1, e, hg1⟩ := hO.cin.rseg.at hy
      dsimp only at e
      subst e
      have y0 := hg1 0 _ rfl
      rw [Nat.add_zero] at y0
      have y1 := hg1 1 _ rfl
      have hin := Rgn.inB_iff.1 (HL.out.2 y (List.mem_of_getElem? hy))
      have HK : Hid (OneP w ⟨nm, en, ac, re, inp, ou, some ⟨g1, o1, none⟩, rc, rs, pa, pc, ps⟩ C N wr ∧ hasT (rs.take j) t = false ∧ rs[j]? = some y) := ⟨hO, hno, hy⟩
      clear hno hO hy hg1
      have v1 : IntKind.i64.wrap (y.page + y.pages) = y.page + y.pages := by rw [IntKind.wrap_i64]; omega
      have v2 : IntKind.i64.wrap (y.page + y.pages - 1) = y.page + y.pages - 1 := by rw [IntKind.wrap_i64]; omega
      have v3 : y.page.tdiv 16 = y.page / 16 := Int.tdiv_eq_ediv_of_nonneg hin.1
      have v4 : (y.page + y.pages - 1).tdiv 16 = (y.page + y.pages - 1) / 16 := Int.tdiv_eq_ediv_of_nonneg (by omega)
      have v5 : IntKind.i64.wrap (y.page / 16) = y.page / 16 := by rw [IntKind.wrap_i64]; omega
      have v6 : IntKind.i64.wrap ((y.page + y.pages - 1) / 16) = (y.page + y.pages - 1) / 16 := by rw [IntKind.wrap_i64]; omega
      by_cases c1 : y.page / 16 ≤ t
      · have e1 : decide (y.page / 16 ≤ (t : Int)) = true := by simp [c1]
        by_cases c2 : (t : Int) ≤ (y.page + y.pages - 1) / 16
        · have e2 : decide ((t : Int) ≤ (y.page + y.pages - 1) / 16) = true := by simp [c2]
          have HY : Hid (hasT rs t = true) := List.any_eq_true.2 ⟨y, List.mem_of_getElem? HK.out.2.2, by unfold Rgn.hit; simp; omega⟩
          clear hin
          go_wp2
          go_ret
          exact ⟨by rw [HY.out]; rfl, HK.out.1.keeps⟩
        · have e2 : decide ((t : Int) ≤ (y.page + y.pages - 1) / 16) = false := by simp [c2]
          have HY : Hid (Rgn.hit t y = false) := by show _ = _; unfold Rgn.hit; simp; omega
          clear hin
          go_wp2
          go_roundw
          case rel => exact ⟨j + 1, by omega, by go_num, hasT_next HK.out.2.2 HK.out.2.1 HY.out, HK.out.1⟩
          case measure => simp [intOf]; omega
      · have e1 : decide (y.page / 16 ≤ (t : Int)) = false := by simp [c1]
        have HY : Hid (Rgn.hit t y = false) := by show _ = _; unfold Rgn.hit; simp; omega
        clear hin
        go_wp2
        go_roundw
        case rel => exact ⟨j + 1, by omega, by go_num, hasT_next HK.out.2.2 HK.out.2.1 HY.out, HK.out.1⟩
        case measure => simp [intOf]; omega
    · obtain rfl : R = j := by omega
      have HK : Hid (OneP w ⟨nm, en, ac, re, inp, ou, ra, rc, rs, pa, pc, ps⟩ C N wr ∧ hasT rs t = false) := by
        rw [List.take_of_length_le (by have := HL.out.1; omega)] at hno
        exact ⟨hO, hno⟩
      clear hno hO
      go_wp2
      go_ret
      exact ⟨by rw [HK.out.2]; rfl, HK.out.1.keeps⟩
end Go.Proofs.YtfbapgcopidbpaaGreat
