import Derived.Test.YtnkfdmlpjgmckaaZ
namespace Go.Proofs.Ytnkfdmlpjgmckaa
open Go.RowKit
set_option linter.unusedVariables false
set_option maxRecDepth 6000

theorem useW_bound {p : Int} {ws : List Win} (h : ∀ y ∈ ws, y.okB = true) (j : Nat) : 0 ≤ useW p ws j ∧ useW p ws j ≤ 16384 * min j ws.length := by
  induction j with
  | zero => simp [useW]
  | succ j ih =>
    cases hy : ws[j]? with
    | none =>
      have := List.getElem?_eq_none_iff.1 hy
      have e : useW p ws (j + 1) = useW p ws j := by simp only [useW, hy]
      omega
    | some y =>
      have hj := (List.getElem?_eq_some_iff.1 hy).1
      have := Win.okB_iff.1 (h y (List.mem_of_getElem? hy))
      by_cases hp : y.p = p
      · rw [useW_in hy hp]; omega
      · rw [useW_out hy hp]; omega
theorem useAll_bound {p : Int} {cs : List Core} (hm : allMay cs = true) (k : Nat) : 0 ≤ useAll p cs k ∧ useAll p cs k ≤ 16384 * tot cs k := by
  induction k with
  | zero => simp [useAll]; omega
  | succ k ih =>
    cases hX : cs[k]? with
    | none =>
      have e : useAll p cs (k + 1) = useAll p cs k := by simp only [useAll, hX]
      have := tot_le (cs := cs) (i := k) (j := k + 1) (by omega)
      omega
    | some X =>
      unfold allMay at hm
      rw [List.all_eq_true] at hm
      have := useW_bound (p := p) (may_iff.1 (hm X (List.mem_of_getElem? hX))).2.2 X.ws.length
      rw [useAll_succ hX, tot_succ hX]
      omega
/-- What Usable tells. -/
def UsR (x : Cfg) (p : Int) (r : Int) (e : Int) : Prop :=
  if 0 ≤ p ∧ p < x.ps.length then if fills x.major x.cs = true then r = useAll p x.cs x.cs.length ∧ e = 0 else r = 0 ∧ e = 1 else r = 0 ∧ e = 142
def UsP (w : World) (x : Cfg) (p : Int) (e : Ending) (w' : World) : Prop := ∃ r er, e = .returned (.tuple #[.int .i64 r, .int .i64 er]) ∧ UsR x p r er ∧ Keeps (fun _ => False) w w'

theorem part_false {x : Cfg} {p : Int} (hp : ¬ (0 ≤ p ∧ p < x.ps.length)) : (decide (0 ≤ p) && decide (p < (x.ps.length : Int))) = false := by
  rw [Bool.eq_false_iff]; intro h; simp at h; exact hp h
theorem part_true {x : Cfg} {p : Int} (hp : 0 ≤ p ∧ p < x.ps.length) : (decide (0 ≤ p) && decide (p < (x.ps.length : Int))) = true := by simp; exact hp

set_option maxHeartbeats 2000000 in
theorem usable_any (x : Cfg) (p : Int) (w : World) (N : Nat) (hi : x.In w N) (hN : N ≤ w.heap.size) (ht : tot x.cs x.cs.length ≤ 2147483647) :
    Calls Try.prog 49 #[x.v, .int .i64 p] w (UsP w x p) := by
  obtain ⟨W, hW⟩ : ∃ W, W = x.laid w := ⟨_, rfl⟩
  obtain ⟨C, hC⟩ : ∃ C, C = w.heap.size := ⟨_, rfl⟩
  have HO : Hid (One w x C N W ∧ tot x.cs x.cs.length ≤ 2147483647) := by rw [hW, hC]; exact ⟨One.mk' hi hN, ht⟩
  have hcc : (x.cs.length : Int) ≤ x.cc ∧ (x.cc : Int) ≤ 9223372036854775807 := by have := hi.clen; unfold maxLen at this; omega
  clear hi hN ht
  unfold Cfg.laid at hW
  go_enter Try.func49, Try.ntmps49
  go_wp2_with fail
  rw [← hW, ← hC]
  clear hW hC
  refine (rpartition_any x p W).mono ?_
  rintro e w1 ⟨rfl, hK⟩
  have HO1 : Hid (One w x C N w1) := HO.out.1.kept hK
  clear hK
  by_cases hp : 0 ≤ p ∧ p < x.ps.length
  · rw [part_true hp]
    obtain ⟨c0, c1, c2, c3, c4, c5, c6⟩ := HO1.out.cells
    have HP : Hid (0 ≤ p ∧ p < x.ps.length) := hp
    clear hp
    go_wp2_with fail
    refine (rfills_any x w1 N HO1.out.cin HO1.out.nn).mono ?_
    rintro e w2 ⟨rfl, hK⟩
    have HO2 : Hid (One w x C N w2) := HO1.out.kept hK
    clear hK c0 c1 c2 c3 c4 c5 c6
    obtain ⟨b, hb⟩ : ∃ b, fills x.major x.cs = b := ⟨_, rfl⟩
    rw [hb]
    have HB : Hid (fills x.major x.cs = b) := hb
    clear hb
    cases b with
    | false =>
      go_wp2
      go_ret2
      exact ⟨0, 1, rfl, by unfold UsR; rw [if_pos HP.out, if_neg (by rw [HB.out]; simp)]; exact ⟨rfl, rfl⟩, HO2.out.keeps⟩
    | true =>
      have hmay := fills_may HB.out
      have HM : Hid (allMay x.cs = true) := hmay
      clear hmay
      go_wp2
      go_loopw [6, 7] (fun z i wr => ∃ j : Nat, j ≤ x.cs.length ∧ i = .int .i64 j ∧ z = .int .i64 (useAll p x.cs j) ∧ One w x C N wr) (fun _ i _ => x.cs.length - (intOf i).toNat)
      case atStart => exact ⟨0, by omega, rfl, rfl, HO2.out⟩
      case round =>
        obtain ⟨k, hk, rfl, rfl, hO⟩ := hrel
        clear HO2 HO1
        by_cases hlt : k < x.cs.length
        · obtain ⟨X, hX⟩ : ∃ X, x.cs[k]? = some X := ⟨_, List.getElem?_eq_getElem hlt⟩
          have hlt' : (k : Int) < x.cs.length := by omega
          have c4 := hO.cells.2.2.2.2.1
          obtain ⟨wz, hwz⟩ : ∃ wz, wz = wr := ⟨_, rfl⟩
          subst hwz
          have hm : may X.ws = true := by have h := HM.out; unfold allMay at h; rw [List.all_eq_true] at h; exact h X (List.mem_of_getElem? hX)
          have hub := useAll_bound (p := p) HM.out k
          have htk := tot_le (cs := x.cs) (i := k) (j := x.cs.length) (by omega)
          have htot := HO.out.2
          obtain ⟨XL, hXL⟩ : ∃ XL, X.ws.length = XL := ⟨_, rfl⟩
          obtain ⟨U, hU⟩ : ∃ U, useAll p x.cs k = U := ⟨_, rfl⟩
          rw [hU] at hub ⊢
          have hU1 : 0 ≤ U ∧ U ≤ 35184372088832 := by omega
          have HK : Hid (One w x C N wz ∧ x.cs[k]? = some X ∧ may X.ws = true ∧ X.ws.length = XL ∧ useAll p x.cs k = U) := ⟨hO, hX, hm, hXL, hU⟩
          have hl16 : XL ≤ 16 := by have := (may_iff.1 hm).2.1; omega
          clear hO hX hm hXL hU hub htk htot
          go_wp2
          clear c4
          go_loopw [6, 8] (fun z i wr => ∃ j : Nat, j ≤ XL ∧ i = .int .i64 j ∧ z = .int .i64 (U + useW p X.ws j) ∧ One w x C N wr) (fun _ i _ => XL - (intOf i).toNat)
          case atStart => exact ⟨0, by omega, rfl, by simp [useW], HK.out.1⟩
          case round =>
            obtain ⟨j, hj, rfl, rfl, hO⟩ := hrel
            have c4 := hO.cells.2.2.2.2.1
            obtain ⟨g, o, ha, hc⟩ := hO.cin.core HK.out.2.1
            have hXi := hO.cin.cin X (List.mem_of_getElem? HK.out.2.1)
            have hxc : (X.ws.length : Int) ≤ X.c ∧ (X.c : Int) ≤ 9223372036854775807 := by have := hXi.len; unfold maxLen at this; omega
            have hv : Core.v X = .slice X.a XL X.c := by unfold Core.v; rw [HK.out.2.2.2.1]
            rw [hv] at hc
            rw [HK.out.2.2.2.1] at hxc
            rw [ha] at c4
            have HO3 : Hid (One w x C N wr) := hO
            clear hO hv
            have hwb := useW_bound (p := p) (may_iff.1 HK.out.2.2.1).2.2 j
            by_cases hlj : j < XL
            · obtain ⟨y, hy⟩ : ∃ y, X.ws[j]? = some y := ⟨_, List.getElem?_eq_getElem (by have := HK.out.2.2.2.1; omega)⟩
              obtain ⟨g3, o3, ha3, hg3⟩ := hXi.seg.at hy
              have y0 := hg3 0 _ rfl
              have y1 := hg3 1 _ rfl
              rw [Nat.add_zero] at y0
              rw [ha3] at hc
              have hy4 := Win.okB_iff.1 ((may_iff.1 HK.out.2.2.1).2.2 y (List.mem_of_getElem? hy))
              have HY : Hid (X.ws[j]? = some y) := hy
              obtain ⟨V, hV⟩ : ∃ V, useW p X.ws j = V := ⟨_, rfl⟩
              have HV : Hid (useW p X.ws j = V) := hV
              rw [hV] at hwb ⊢
              have hV1 : 0 ≤ V ∧ V ≤ 262144 := by omega
              have hlj' : (j : Int) < XL := by omega
              clear hy hg3 hXi hV hwb
              by_cases hp : y.p = p
              · have hp' : (y.p == p) = true := by simp [hp]
                have q1 : IntKind.i64.wrap (U + V + y.u) = U + V + y.u := by rw [IntKind.wrap_i64]; omega
                go_wp2
                go_roundw
                case rel => exact ⟨j + 1, by omega, by go_num, by rw [useW_in HY.out hp, HV.out, Int.add_assoc], HO3.out⟩
                case measure => simp [intOf]; omega
              · have hp' : (y.p == p) = false := by simp [hp]
                go_wp2
                go_roundw
                case rel => exact ⟨j + 1, by omega, by go_num, by rw [useW_out HY.out hp, HV.out], HO3.out⟩
                case measure => simp [intOf]; omega
            · obtain rfl : j = XL := by omega
              obtain ⟨V, hV⟩ : ∃ V, U + useW p X.ws j = V := ⟨_, rfl⟩
              rw [hV]
              have HV : Hid (useAll p x.cs (k + 1) = V) := by
                have h := useAll_succ (p := p) HK.out.2.1
                rw [HK.out.2.2.2.1, HK.out.2.2.2.2, hV] at h
                exact h
              clear hV hwb hXi
              go_wp2
              go_roundw
              case rel => exact ⟨k + 1, by omega, by go_num, by rw [HV.out], HO3.out⟩
              case measure => simp [intOf]; omega
        · obtain hjl : k = x.cs.length := by omega
          have hlt' : ¬ (k : Int) < x.cs.length := by omega
          have c4 := hO.cells.2.2.2.2.1
          have HK : Hid (One w x C N wr ∧ k = x.cs.length) := ⟨hO, hjl⟩
          obtain ⟨U, hU⟩ : ∃ U, useAll p x.cs k = U := ⟨_, rfl⟩
          have HU : Hid (useAll p x.cs k = U) := hU
          rw [hU]
          clear hO hjl hU
          go_wp2
          go_ret2
          exact ⟨U, 0, rfl, by unfold UsR; rw [if_pos HP.out, if_pos HB.out, ← HK.out.2]; exact ⟨HU.out.symm, rfl⟩, HK.out.1.keeps⟩
  · rw [part_false hp]
    have HP : Hid (¬ (0 ≤ p ∧ p < x.ps.length)) := hp
    clear hp
    go_wp2
    go_ret2
    exact ⟨0, 142, rfl, by unfold UsR; rw [if_neg HP.out]; exact ⟨rfl, rfl⟩, HO1.out.keeps⟩
end Go.Proofs.Ytnkfdmlpjgmckaa
