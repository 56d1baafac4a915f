import Derived.Test.YtnkfdmlpjgmckabT
import Derived.Test.YtnkfdmlpjgmckabPq
import Derived.Test.YtnkfdmlpjgmckabFo
namespace Go.Proofs.Ytnkfdmlpjgmckab
open Go.RowKit
set_option linter.unusedVariables false
set_option linter.unusedSimpArgs false
set_option maxRecDepth 6000

theorem Try.mixed2 : Try.prog.follows Departure.mixedOrders = true := by kernel_rfl
theorem all3 (a b c : Int) : (#[Value.int .i64 a, Value.int .i64 b, Value.int .i64 c].all (·.oneCell')) = true := by kernel_rfl
theorem Try.size35 : (Try.prog.info? 35).map (·.size) = some 3 := by kernel_rfl
/-- The spans have been told. -/
structure Ap (w : World) (x : Cfg) (C N : Nat) (ad : Option Addr) (l : List Spn) (wr : World) : Prop where
  one : One w x C N wr
  seg : SegA Spn.vs 4 wr ad l
theorem Ap.kept {w : World} {x : Cfg} {C N : Nat} {ad : Option Addr} {l : List Spn} {wr w' : World} (h : Ap w x C N ad l wr) (hK : Keeps (fun _ => False) wr w') : Ap w x C N ad l w' :=
  ⟨h.one.kept hK, h.seg.kept hK fun _ _ _ h => h⟩

theorem order_self {r : Nat} (h : (Ieee.double.read r).isNaN = false) : FloatKind.f64.format.order r r = some Ordering.eq := by
  show (Ieee.double.read r).order (Ieee.double.read r) = _
  generalize Ieee.double.read r = d at h
  cases d with
  | nan s t => cases h
  | infinity s => cases s <;> rfl
  | number s m i =>
    unfold Ieee.Datum.order
    dsimp only
    simp [compare, compareOfLessAndEq]

set_option maxHeartbeats 8000000 in
theorem planApart_any (x : Cfg) (p : Int) (w : World) (N : Nat) (hi : x.In w N) (hN : N ≤ w.heap.size) (hs : Small x) :
    Calls Try.prog 3 #[x.v, .int .i64 p] w fun e w' => e = .returned (.bool true) ∧ Keeps (fun _ => False) w w' := by
  obtain ⟨W, hW⟩ : ∃ W, W = x.laid w := ⟨_, rfl⟩
  obtain ⟨C, hC⟩ : ∃ C, C = w.heap.size := ⟨_, rfl⟩
  have HO : Hid (One w x C N W ∧ Small x) := by rw [hW, hC]; exact ⟨One.mk' hi hN, hs⟩
  have hcc : (x.cs.length : Int) ≤ x.cc ∧ (x.cc : Int) ≤ 9223372036854775807 := by have := hi.clen; unfold maxLen at this; omega
  clear hi hN hs
  unfold Cfg.laid at hW
  go_enter Try.func3, Try.ntmps3
  go_wp2_with fail
  rw [← hW, ← hC]
  clear hW hC
  refine (vast_any x W N HO.out.1.cin HO.out.1.nn).mono ?_
  rintro e w1 ⟨b, rfl, hK, hv⟩
  have HO1 : Hid (One w x C N w1) := HO.out.1.kept hK
  clear hK
  cases b with
  | true =>
    clear hv
    go_wp2
    go_ret
    exact ⟨rfl, HO1.out.keeps⟩
  | false =>
    have HT : Hid (tot x.cs x.cs.length ≤ 2147483647) := hv rfl HO.out.2
    clear hv
    obtain ⟨c0, c1, c2, c3, c4, c5, c6⟩ := HO1.out.cells
    go_wp2_with fail
    refine (spans_any x p w1 N HO1.out.cin HO1.out.nn HT.out).mono ?_
    rintro e w2 ⟨hK, hsp⟩
    have HO2 : Hid (One w x C N w2) := HO1.out.kept hK
    clear hK c0 c1 c2 c3 c4 c5 c6
    rcases hsp with ⟨_, rfl⟩ | ⟨hp, ⟨_, rfl⟩ | ⟨hm, u, rfl, hRow⟩⟩
    · go_wp2_with fail
      refine (awake_any w2).mono ?_
      rintro e w3 ⟨rfl, hK⟩
      have HK3 : Hid (Keeps (fun _ => False) w w3) := HO2.out.keeps.trans hK fun _ _ h => h
      clear hK
      go_wp2
      go_ret
      exact ⟨rfl, HK3.out⟩
    · go_wp2_with fail
      refine (awake_any w2).mono ?_
      rintro e w3 ⟨rfl, hK⟩
      have HK3 : Hid (Keeps (fun _ => False) w w3) := HO2.out.keeps.trans hK fun _ _ h => h
      clear hK
      go_wp2
      go_ret
      exact ⟨rfl, HK3.out⟩
    · obtain ⟨ad, cp, rfl, hLst⟩ := hRow.lst
      obtain ⟨l, hl⟩ : ∃ l, pickAll p x.cs x.cs.length = l := ⟨_, rfl⟩
      rw [hl] at hLst ⊢
      obtain ⟨n, hn⟩ : ∃ n, l.length = n := ⟨_, rfl⟩
      have hnt : n ≤ 2147483647 := by have h1 := pickAll_len p x.cs x.cs.length; have := HT.out; rw [hl] at h1; omega
      have HA : Hid (Ap w x C N ad l w2) := ⟨HO2.out, hLst.seg⟩
      have HL : Hid (pickAll p x.cs x.cs.length = l ∧ l.length = n ∧ allMay x.cs = true ∧ (0 ≤ p ∧ p < x.ps.length)) := ⟨hl, hn, hm, hp⟩
      have hcp : (n : Int) ≤ cp ∧ (cp : Int) ≤ 9223372036854775807 := by have := hLst.len; unfold maxLen at this; omega
      rw [hn]
      clear hRow hLst hl hn hm hp HO2 HO1
      go_wp2
      go_loopw [7, 8, 9] (fun y z i wr => ∃ k : Nat, k ≤ x.cs.length ∧ i = .int .i64 k ∧ y = .int .i64 ((pickAll p x.cs k).length : Nat) ∧ z = .int .i64 (useAll p x.cs k) ∧ Ap w x C N ad l wr) (fun _ _ i _ => x.cs.length - (intOf i).toNat)
      case atStart => exact ⟨0, by omega, rfl, rfl, rfl, HA.out⟩
      case round =>
        obtain ⟨k, hk, rfl, rfl, rfl, hA⟩ := hrel
        clear HA
        have c4 := hA.one.cells.2.2.2.2.1
        by_cases hlt : k < x.cs.length
        · obtain ⟨X, hX⟩ : ∃ X, x.cs[k]? = some X := ⟨_, List.getElem?_eq_getElem hlt⟩
          have hlt' : (k : Int) < x.cs.length := by omega
          obtain ⟨wz, hwz⟩ : ∃ wz, wz = wr := ⟨_, rfl⟩
          subst hwz
          have hm : may X.ws = true := by have h := HL.out.2.2.1; unfold allMay at h; rw [List.all_eq_true] at h; exact h X (List.mem_of_getElem? hX)
          have hub := useAll_bound (p := p) HL.out.2.2.1 k
          have htk := tot_le (cs := x.cs) (i := k) (j := x.cs.length) (by omega)
          have htk1 := tot_le (cs := x.cs) (i := k + 1) (j := x.cs.length) (by omega)
          have hts := tot_succ hX
          have htot := HT.out
          have hpl := pickAll_len p x.cs k
          obtain ⟨XL, hXL⟩ : ∃ XL, X.ws.length = XL := ⟨_, rfl⟩
          obtain ⟨U, hU⟩ : ∃ U, useAll p x.cs k = U := ⟨_, rfl⟩
          obtain ⟨Q, hQ⟩ : ∃ Q, (pickAll p x.cs k).length = Q := ⟨_, rfl⟩
          rw [hU] at hub ⊢
          rw [hQ] at hpl ⊢
          have hU1 : 0 ≤ U ∧ U ≤ 35184372088832 := by omega
          have hQ1 : Q ≤ 2147483647 := by omega
          have HK : Hid (Ap w x C N ad l wz ∧ x.cs[k]? = some X ∧ may X.ws = true ∧ X.ws.length = XL ∧ useAll p x.cs k = U ∧ (pickAll p x.cs k).length = Q) := ⟨hA, hX, hm, hXL, hU, hQ⟩
          have hl16 : XL ≤ 16 := by have := (may_iff.1 hm).2.1; omega
          clear hA hX hm hXL hU hub htk htot hQ hpl hts htk1
          go_wp2
          clear c4
          go_loopw [7, 8, 10] (fun y z i wr => ∃ j : Nat, j ≤ XL ∧ i = .int .i64 j ∧ y = .int .i64 ((Q + (pick p k X.ws j).length : Nat) : Int) ∧ z = .int .i64 (U + useW p X.ws j) ∧ Ap w x C N ad l wr) (fun _ _ i _ => XL - (intOf i).toNat)
          case atStart => exact ⟨0, by omega, rfl, by simp [pick], by simp [useW], HK.out.1⟩
          case round =>
            obtain ⟨j, hj, rfl, rfl, rfl, hA⟩ := hrel
            have c4 := hA.one.cells.2.2.2.2.1
            obtain ⟨g, o, ha, hc⟩ := hA.one.cin.core HK.out.2.1
            have hXi := hA.one.cin.cin X (List.mem_of_getElem? HK.out.2.1)
            have hxc : (X.ws.length : Int) ≤ X.c ∧ (X.c : Int) ≤ 9223372036854775807 := by have := hXi.len; unfold maxLen at this; omega
            have hv : Core.v X = .slice X.a XL X.c := by unfold Core.v; rw [HK.out.2.2.2.1]
            rw [hv] at hc
            rw [HK.out.2.2.2.1] at hxc
            rw [ha] at c4
            have HA3 : Hid (Ap w x C N ad l wr) := hA
            clear hA hv
            have hwb := useW_bound (p := p) (may_iff.1 HK.out.2.2.1).2.2 j
            have hpb := pick_len p k X.ws j
            obtain ⟨V, hV⟩ : ∃ V, useW p X.ws j = V := ⟨_, rfl⟩
            obtain ⟨Z, hZ⟩ : ∃ Z, (pick p k X.ws j).length = Z := ⟨_, rfl⟩
            have HV : Hid (useW p X.ws j = V ∧ (pick p k X.ws j).length = Z) := ⟨hV, hZ⟩
            rw [hV] at hwb ⊢
            rw [hZ] at hpb ⊢
            by_cases hlj : j < XL
            · obtain ⟨y, hy⟩ : ∃ y, X.ws[j]? = some y := ⟨_, List.getElem?_eq_getElem (by have := HK.out.2.2.2.1; omega)⟩
              obtain ⟨g3, o3, ha3, hg3⟩ := hXi.seg.at hy
              have y0 := hg3 0 _ rfl
              have y1 := hg3 1 _ rfl
              rw [Nat.add_zero] at y0
              rw [ha3] at hc
              have hy4 := Win.okB_iff.1 ((may_iff.1 HK.out.2.2.1).2.2 y (List.mem_of_getElem? hy))
              have HY : Hid (X.ws[j]? = some y) := hy
              have hV1 : 0 ≤ V ∧ V ≤ 262144 := by omega
              have hlj' : (j : Int) < XL := by omega
              clear hy hg3 hXi hV hwb hZ
              by_cases hp : y.p = p
              · have hp' : (y.p == p) = true := by simp [hp]
                have q1 : IntKind.i64.wrap (U + V + y.u) = U + V + y.u := by rw [IntKind.wrap_i64]; omega
                have q2 : IntKind.i64.wrap (((Q + Z : Nat) : Int) + 1) = ((Q + (Z + 1) : Nat) : Int) := by rw [IntKind.wrap_i64]; omega
                go_wp2
                go_roundw
                case rel => exact ⟨j + 1, by omega, by go_num, by rw [pick_in HY.out hp, List.length_append, HV.out.2]; first | rfl | (congr 1; simp; omega) | go_num, by rw [useW_in HY.out hp, HV.out.1, Int.add_assoc], HA3.out⟩
                case measure => simp [intOf]; omega
              · have hp' : (y.p == p) = false := by simp [hp]
                go_wp2
                go_roundw
                case rel => exact ⟨j + 1, by omega, by go_num, by rw [pick_out HY.out hp, HV.out.2], by rw [useW_out HY.out hp, HV.out.1], HA3.out⟩
                case measure => simp [intOf]; omega
            · obtain rfl : j = XL := by omega
              have HN : Hid (useAll p x.cs (k + 1) = U + V ∧ (pickAll p x.cs (k + 1)).length = Q + Z) := by
                have h := useAll_succ (p := p) HK.out.2.1
                have h2 := pickAll_succ (p := p) HK.out.2.1
                rw [HK.out.2.2.2.1] at h h2
                rw [h, h2, HK.out.2.2.2.2.1, hV, List.length_append, HK.out.2.2.2.2.2, hZ]
                exact ⟨rfl, rfl⟩
              clear hV hwb hXi hZ hpb
              go_wp2
              go_roundw
              case rel => exact ⟨k + 1, by omega, by go_num, by rw [HN.out.2], by rw [HN.out.1], HA3.out⟩
              case measure => simp [intOf]; omega
        · have hlt' : ¬ (k : Int) < x.cs.length := by omega
          have hkl : k = x.cs.length := by omega
          have hub := useAll_bound (p := p) HL.out.2.2.1 x.cs.length
          have htot := HT.out
          rw [hkl, HL.out.1, HL.out.2.1]
          obtain ⟨U, hU⟩ : ∃ U, useAll p x.cs x.cs.length = U := ⟨_, rfl⟩
          rw [hU] at hub ⊢
          have HU : Hid (useAll p x.cs x.cs.length = U) := hU
          have hU1 : 0 ≤ U ∧ U ≤ 35184372088832 := by omega
          have HA3 : Hid (Ap w x C N ad l wr) := hA
          rw [hkl] at hlt'
          clear hA hU hub htot hkl hlt hk
          go_wp2
          go_loopw [11] (fun i wr => ∃ j : Nat, j ≤ n ∧ i = .int .i64 j ∧ Ap w x C N ad l wr) (fun i _ => n - (intOf i).toNat)
          case atStart => exact ⟨0, by omega, rfl, HA3.out⟩
          case round =>
            obtain ⟨j, hj, rfl, hA⟩ := hrel
            clear HA3
            by_cases hlt : j < n
            · obtain ⟨s, hs⟩ : ∃ s, l[j]? = some s := ⟨_, List.getElem?_eq_getElem (by have := HL.out.2.1; omega)⟩
              obtain ⟨us, hu1, hu2, hu3⟩ := pickAll_use (p := p) (cs := x.cs) x.cs.length (Nat.le_refl _)
              obtain ⟨uu, huu⟩ : ∃ u, us[j]? = some u := ⟨_, List.getElem?_eq_getElem (by rw [hu1, HL.out.1]; exact (List.getElem?_eq_some_iff.1 hs).1)⟩
              have hspo := hu3 j s uu (by rw [HL.out.1]; exact hs) huu
              have hsml := hspo.small HL.out.2.2.1
              obtain ⟨k, m, X, y, rfl, hX, hy, hyp, _⟩ := hspo
              clear hu1 hu2 hu3 huu
              have HS : Hid (l[j]? = some ⟨k, m, beg X.ws m, beg X.ws (m + 1)⟩ ∧ x.cs[k]? = some X ∧ X.ws[m]? = some y ∧ y.p = p) := ⟨hs, hX, hy, hyp⟩
              have hbs := beg_succ hy
              obtain ⟨B, hB⟩ : ∃ B, beg X.ws m = B := ⟨_, rfl⟩
              obtain ⟨B', hB'⟩ : ∃ B, beg X.ws (m + 1) = B := ⟨_, rfl⟩
              rw [hB, hB'] at hs hsml HS
              rw [hB, hB'] at hbs
              dsimp only at hsml
              obtain ⟨g1, o1, e1, hg1⟩ := hA.seg.at hs
              subst e1
              have s0 := hg1 0 _ rfl
              have s1 := hg1 1 _ rfl
              have s2 := hg1 2 _ rfl
              have s3 := hg1 3 _ rfl
              rw [Nat.add_zero] at s0
              dsimp only at s0 s1 s2 s3
              obtain ⟨W1, hW1⟩ : ∃ W1, W1 = wr.alloc (.cells #[.int .i64 k, .int .i64 m, .int .i64 B, .int .i64 B'] 37) := ⟨_, rfl⟩
              obtain ⟨D, hD⟩ : ∃ D, D = wr.heap.size := ⟨_, rfl⟩
              have HW1 : Hid (Blk W1 D [.int .i64 k, .int .i64 m, .int .i64 B, .int .i64 B'] 37 ∧ Ap w x C N (some ⟨g1, o1, none⟩) l W1) := by
                rw [hW1, hD]; exact ⟨Blk.new _ _ _, hA.kept ((Keeps.refl _ _).alloc _)⟩
              have hkl := (List.getElem?_eq_some_iff.1 hX).1
              have hml := (List.getElem?_eq_some_iff.1 hy).1
              obtain ⟨XL, hXL⟩ : ∃ XL, X.ws.length = XL := ⟨_, rfl⟩
              have HXL : Hid (X.ws.length = XL) := hXL
              rw [hXL] at hml
              have hxc : (XL : Int) ≤ X.c ∧ (X.c : Int) ≤ 9223372036854775807 := by have := (hA.one.cin.cin X (List.mem_of_getElem? hX)).len; unfold maxLen at this; omega
              have hmx : may X.ws = true := by have h := HL.out.2.2.1; unfold allMay at h; rw [List.all_eq_true] at h; exact h X (List.mem_of_getElem? hX)
              have hy4 := Win.okB_iff.1 ((may_iff.1 hmx).2.2 y (List.mem_of_getElem? hy))
              have hlt' : (j : Int) < n := by omega
              have hkl1 : (k : Int) < x.cs.length := by omega
              have hkl2 : decide (x.cs.length ≤ k) = false := by simp; omega
              have hml1 : (m : Int) < XL := by omega
              have hml2 : decide (XL ≤ m) = false := by simp; omega
              obtain ⟨T, hT⟩ : ∃ T, y.u + y.s = T := ⟨_, rfl⟩
              have r1 : IntKind.i64.wrap (B' - B) = T := by rw [IntKind.wrap_i64]; omega
              have r2 : IntKind.i64.wrap (y.u + y.s) = T := by rw [IntKind.wrap_i64]; omega
              clear hA hs hX hy hg1 hB hB' hbs hXL hmx hT hyp
              go_upto_region 22 with fail
              rw [← hW1, ← hD]
              clear hW1 hD s0 s1 s2 s3
              have d0 := HW1.out.1.cell (i := 0) rfl
              have d1 := HW1.out.1.cell (i := 1) rfl
              obtain ⟨g, o, ha, hc⟩ := HW1.out.2.one.cin.core HS.out.2.1
              have c4 := HW1.out.2.one.cells.2.2.2.2.1
              rw [ha] at c4
              obtain ⟨g3, o3, ha3, hg3⟩ := (HW1.out.2.one.cin.cin X (List.mem_of_getElem? HS.out.2.1)).seg.at HS.out.2.2.1
              have hv : Core.v X = .slice (some ⟨g3, o3, none⟩) XL X.c := by unfold Core.v; rw [ha3, HXL.out]
              rw [hv] at hc
              have HV : Hid (Core.v X = .slice (some ⟨g3, o3, none⟩) XL X.c ∧ x.ca = some ⟨g, o, none⟩ ∧ X.a = some ⟨g3, o3, none⟩) := ⟨hv, ha, ha3⟩
              clear hg3 hv ha3
              go_quiet (fail)
              clear c4 hc d0 d1
              obtain ⟨W2, hW2⟩ : ∃ W2, W2 = W1.drewN nq := ⟨_, rfl⟩
              have HW2 : Hid (Blk W2 D [.int .i64 k, .int .i64 m, .int .i64 B, .int .i64 B'] 37 ∧ Ap w x C N (some ⟨g1, o1, none⟩) l W2) := by rw [hW2]; exact ⟨HW1.out.1.drewN _, HW1.out.2.kept ((Keeps.refl _ _).drewN _)⟩
              rw [← hW2]
              clear hW2
              have HSS : Hid (∀ w', Keeps (fun _ => False) W2 w' → w'.cell? ⟨C, 4, none⟩ = some (.slice (some ⟨g, o, none⟩) x.cs.length x.cc) ∧ w'.cell? ⟨g, o + k, none⟩ = some (.slice (some ⟨g3, o3, none⟩) XL X.c) ∧ w'.cell? ⟨D, 0, none⟩ = some (.int .i64 k) ∧ w'.cell? ⟨D, 1, none⟩ = some (.int .i64 m) ∧ w'.cell? ⟨g3, o3 + m * 3, none⟩ = some (.int .i64 y.p) ∧ w'.cell? ⟨g3, o3 + m * 3 + 1, none⟩ = some (.int .i64 y.u) ∧ w'.cell? ⟨g3, o3 + m * 3 + 2, none⟩ = some (.int .i64 y.s)) := by
                intro w' hK
                have h1 := HW2.out.2.kept hK
                have hb1 := HW2.out.1.kept hK fun h => h
                have h4 := h1.one.cells.2.2.2.2.1
                rw [HV.out.2.1] at h4
                obtain ⟨g', o', ha', hc'⟩ := h1.one.cin.core HS.out.2.1
                rw [HV.out.2.1] at ha'
                cases ha'
                rw [HV.out.1] at hc'
                obtain ⟨g', o', ha', hg'⟩ := (h1.one.cin.cin X (List.mem_of_getElem? HS.out.2.1)).seg.at HS.out.2.2.1
                rw [HV.out.2.2] at ha'
                cases ha'
                have z0 := hg' 0 _ rfl
                rw [Nat.add_zero] at z0
                exact ⟨h4, hc', hb1.cell rfl, hb1.cell rfl, z0, hg' 1 _ rfl, hg' 2 _ rfl⟩
              have hS0 := HSS.out W2.drew ((Keeps.refl _ _).drew)
              go_upto_region 24 with fail
              refine wp_region_held_drew (S := (fun w' => w'.cell? ⟨C, 4, none⟩ = some (.slice (some ⟨g, o, none⟩) x.cs.length x.cc) ∧ w'.cell? ⟨g, o + k, none⟩ = some (.slice (some ⟨g3, o3, none⟩) XL X.c) ∧ w'.cell? ⟨D, 0, none⟩ = some (.int .i64 k) ∧ w'.cell? ⟨D, 1, none⟩ = some (.int .i64 m) ∧ w'.cell? ⟨g3, o3 + m * 3, none⟩ = some (.int .i64 y.p) ∧ w'.cell? ⟨g3, o3 + m * 3 + 1, none⟩ = some (.int .i64 y.u) ∧ w'.cell? ⟨g3, o3 + m * 3 + 2, none⟩ = some (.int .i64 y.s))) Try.mixed hS0 (fun hHeld => ?_)
              simp only [List.size_toArray, List.length_cons, List.length_nil, Nat.reduceAdd, Array.replicate_succ, Array.replicate_zero, List.push_toArray, List.append_toArray, List.nil_append, List.cons_append]
              refine wpAnyH_take (i := 0) (oi := { dst := some 112, op := Op.fieldAddr 26 (Operand.tmp 2) 4, type := 0, pos := "law.go:191", after := #[], guard := none }) (v := .pointer (some ⟨C, 4, none⟩)) rfl (by kernel_rfl) (by kernel_rfl) (by kernel_rfl) (fun _ _ _ h => h) (Or.inl ⟨by kernel_rfl, by (intro w hSw; (try dsimp only at hSw); go_simp)⟩) hHeld ?_
              simp only [Act.put, List.setIfInBounds_toArray, List.set_cons_zero, List.set_cons_succ]
              refine wpAnyH_take (i := 1) (oi := { dst := some 113, op := Op.load 22 (Operand.tmp 112), type := 22, pos := "law.go:191", after := #[{ on := 0, ground := Ground.data }], guard := none }) (v := .slice (some ⟨g, o, none⟩) x.cs.length x.cc) rfl (by kernel_rfl) (by kernel_rfl) (by kernel_rfl) (fun _ _ _ h => h) (Or.inl ⟨by kernel_rfl, by (intro w hSw; (try dsimp only at hSw); go_simp)⟩) hHeld ?_
              simp only [Act.put, List.setIfInBounds_toArray, List.set_cons_zero, List.set_cons_succ]
              refine wpAnyH_take (i := 2) (oi := { dst := some 114, op := Op.fieldAddr 37 (Operand.tmp 12) 0, type := 0, pos := "law.go:191", after := #[], guard := none }) (v := .pointer (some ⟨D, 0, none⟩)) rfl (by kernel_rfl) (by kernel_rfl) (by kernel_rfl) (fun _ _ _ h => h) (Or.inl ⟨by kernel_rfl, by (intro w hSw; (try dsimp only at hSw); go_simp)⟩) hHeld ?_
              simp only [Act.put, List.setIfInBounds_toArray, List.set_cons_zero, List.set_cons_succ]
              refine wpAnyH_take (i := 3) (oi := { dst := some 115, op := Op.load 3 (Operand.tmp 114), type := 3, pos := "law.go:191", after := #[{ on := 2, ground := Ground.data }], guard := none }) (v := .int .i64 k) rfl (by kernel_rfl) (by kernel_rfl) (by kernel_rfl) (fun _ _ _ h => h) (Or.inl ⟨by kernel_rfl, by (intro w hSw; (try dsimp only at hSw); go_simp)⟩) hHeld ?_
              simp only [Act.put, List.setIfInBounds_toArray, List.set_cons_zero, List.set_cons_succ]
              refine wpAnyH_take (i := 4) (oi := { dst := some 116, op := Op.indexAddr 22 (Operand.tmp 113) (Operand.tmp 115), type := 0, pos := "law.go:191", after := #[{ on := 1, ground := Ground.data }, { on := 3, ground := Ground.data }], guard := none }) (v := .pointer (some ⟨g, o + k, none⟩)) rfl (by kernel_rfl) (by kernel_rfl) (by kernel_rfl) (fun _ _ _ h => h) (Or.inl ⟨by kernel_rfl, by (intro w hSw; (try dsimp only at hSw); go_simp)⟩) hHeld ?_
              simp only [Act.put, List.setIfInBounds_toArray, List.set_cons_zero, List.set_cons_succ]
              refine wpAnyH_take (i := 5) (oi := { dst := some 117, op := Op.load 33 (Operand.tmp 116), type := 33, pos := "law.go:191", after := #[{ on := 4, ground := Ground.data }], guard := none }) (v := .slice (some ⟨g3, o3, none⟩) XL X.c) rfl (by kernel_rfl) (by kernel_rfl) (by kernel_rfl) (fun _ _ _ h => h) (Or.inl ⟨by kernel_rfl, by (intro w hSw; (try dsimp only at hSw); go_simp)⟩) hHeld ?_
              simp only [Act.put, List.setIfInBounds_toArray, List.set_cons_zero, List.set_cons_succ]
              refine wpAnyH_take (i := 6) (oi := { dst := some 118, op := Op.fieldAddr 37 (Operand.tmp 12) 1, type := 0, pos := "law.go:191", after := #[], guard := none }) (v := .pointer (some ⟨D, 1, none⟩)) rfl (by kernel_rfl) (by kernel_rfl) (by kernel_rfl) (fun _ _ _ h => h) (Or.inl ⟨by kernel_rfl, by (intro w hSw; (try dsimp only at hSw); go_simp)⟩) hHeld ?_
              simp only [Act.put, List.setIfInBounds_toArray, List.set_cons_zero, List.set_cons_succ]
              refine wpAnyH_take (i := 7) (oi := { dst := some 119, op := Op.load 3 (Operand.tmp 118), type := 3, pos := "law.go:191", after := #[{ on := 6, ground := Ground.data }], guard := none }) (v := .int .i64 m) rfl (by kernel_rfl) (by kernel_rfl) (by kernel_rfl) (fun _ _ _ h => h) (Or.inl ⟨by kernel_rfl, by (intro w hSw; (try dsimp only at hSw); go_simp)⟩) hHeld ?_
              simp only [Act.put, List.setIfInBounds_toArray, List.set_cons_zero, List.set_cons_succ]
              refine wpAnyH_take (i := 8) (oi := { dst := some 120, op := Op.indexAddr 33 (Operand.tmp 117) (Operand.tmp 119), type := 0, pos := "law.go:191", after := #[{ on := 5, ground := Ground.data }, { on := 7, ground := Ground.data }], guard := none }) (v := .pointer (some ⟨g3, o3 + m * 3, none⟩)) rfl (by kernel_rfl) (by kernel_rfl) (by kernel_rfl) (fun _ _ _ h => h) (Or.inl ⟨by kernel_rfl, by (intro w hSw; (try dsimp only at hSw); go_simp)⟩) hHeld ?_
              simp only [Act.put, List.setIfInBounds_toArray, List.set_cons_zero, List.set_cons_succ]
              refine wpAnyH_take (i := 9) (oi := { dst := some 121, op := Op.load 35 (Operand.tmp 120), type := 35, pos := "law.go:191", after := #[{ on := 8, ground := Ground.data }], guard := none }) (v := .agg #[.int .i64 y.p, .int .i64 y.u, .int .i64 y.s]) rfl (by kernel_rfl) (by kernel_rfl) (by kernel_rfl) (fun _ _ _ h => h) (Or.inl ⟨by kernel_rfl, by (intro w hSw; (try dsimp only at hSw); go_simp)⟩) hHeld ?_
              simp only [Act.put, List.setIfInBounds_toArray, List.set_cons_zero, List.set_cons_succ]
              refine wpAnyH_ready (rs := [10]) (by kernel_rfl) (by simp) ?_
              refine AllReadyH.cons (o := { dst := some 13, op := Op.alloc 35, type := 0, pos := "law.go:191", after := #[], guard := none }) rfl (fun K hK => ?_) AllReadyH.nil
              go_simp
              obtain ⟨E, hE⟩ : ∃ E, E = W2.heap.size := ⟨_, rfl⟩
              have hS1 := HSS.out (W2.alloc (.cells #[.int .i64 0, .int .i64 0, .int .i64 0] 35)).drew (((Keeps.refl _ _).alloc _).drew)
              refine hK.out _ _ hS1 (fun hHeld => ?_)
              simp only [Act.put, List.setIfInBounds_toArray, List.set_cons_zero, List.set_cons_succ]
              refine wpAnyH_ready (rs := [11]) (by kernel_rfl) (by simp) ?_
              refine AllReadyH.cons (o := { dst := none, op := Op.store 35 (Operand.tmp 13) (Operand.tmp 121), type := 0, pos := "law.go:191", after := #[{ on := 10, ground := Ground.data }, { on := 9, ground := Ground.data }, { on := 0, ground := Ground.phase }, { on := 1, ground := Ground.phase }, { on := 2, ground := Ground.phase }, { on := 3, ground := Ground.phase }, { on := 4, ground := Ground.phase }, { on := 5, ground := Ground.phase }, { on := 6, ground := Ground.phase }, { on := 7, ground := Ground.phase }, { on := 8, ground := Ground.phase }, { on := 9, ground := Ground.phase }, { on := 10, ground := Ground.phase }], guard := none }) rfl (fun K hK => ?_) AllReadyH.nil
              rw [if_pos (by rfl)]
              refine wp_store_row 35 _ _ rfl W2.heap.size #[.int .i64 y.p, .int .i64 y.u, .int .i64 y.s] (by rfl) (by rfl) 35 _ ((Blk.new W2 #[.int .i64 0, .int .i64 0, .int .i64 0] 35).drew) Try.size35 rfl (all3 ..) ?_
              have hKs : Keeps (fun _ => False) W2 ((W2.alloc (.cells #[.int .i64 0, .int .i64 0, .int .i64 0] 35)).drew.setRow W2.heap.size #[.int .i64 y.p, .int .i64 y.u, .int .i64 y.s]) := ((((Keeps.refl _ _).alloc _).drew).setRow _ _ fun h => absurd h (Nat.lt_irrefl _))
              have hS2 := HSS.out _ hKs
              refine hK.out _ _ hS2 (fun hHeld => ?_)
              simp only [Act.put, List.setIfInBounds_toArray, List.set_cons_zero, List.set_cons_succ]
              refine wpAnyH_done (by kernel_rfl) ?_ _
              obtain ⟨W3, hW3⟩ : ∃ W3, W3 = (W2.alloc (.cells #[.int .i64 0, .int .i64 0, .int .i64 0] 35)).drew.setRow W2.heap.size #[.int .i64 y.p, .int .i64 y.u, .int .i64 y.s] := ⟨_, rfl⟩
              have HW3 : Hid (Blk W3 E #[.int .i64 y.p, .int .i64 y.u, .int .i64 y.s].toList 35 ∧ Blk W3 D [.int .i64 k, .int .i64 m, .int .i64 B, .int .i64 B'] 37 ∧ Ap w x C N (some ⟨g1, o1, none⟩) l W3) := by
                rw [hW3, hE]
                exact ⟨((Blk.new W2 #[.int .i64 0, .int .i64 0, .int .i64 0] 35).drew).setRow #[.int .i64 y.p, .int .i64 y.u, .int .i64 y.s].toList, HW2.out.1.kept hKs fun h => h, HW2.out.2.kept hKs⟩
              rw [← hW3, ← hE]
              clear hW3 hE hS0 hS1 hS2 hKs hHeld hK
              rw [← HV.out.2.1]
              clear ha
              have e0 := HW3.out.1.cell (i := 0) rfl
              have e1 := HW3.out.1.cell (i := 1) rfl
              have e2 := HW3.out.1.cell (i := 2) rfl
              have d2 := HW3.out.2.1.cell (i := 2) rfl
              have d3 := HW3.out.2.1.cell (i := 3) rfl
              have hyp' : (y.p != p) = false := by simp [HS.out.2.2.2]
              go_upto_region 27 with fail
              clear e0 e1 e2 d2 d3
              have d0 := HW3.out.2.1.cell (i := 0) rfl
              have d1 := HW3.out.2.1.cell (i := 1) rfl
              have d2 := HW3.out.2.1.cell (i := 2) rfl
              cases j with
              | zero =>
                go_quiet (fail)
                clear d0 d1 d2
                go_wp2
                go_roundw
                case rel => exact ⟨1, by omega, by go_num, HW3.out.2.2.kept ((Keeps.refl _ _).drewN _)⟩
                case measure => simp [intOf]; omega
              | succ J =>
                obtain ⟨a, hqa⟩ : ∃ a, l[J]? = some a := ⟨_, List.getElem?_eq_getElem (by have := HL.out.2.1; omega)⟩
                have hord := pickAll_ord (p := p) HL.out.2.2.1 x.cs.length (Nat.lt_succ_self J) (by rw [HL.out.1]; exact hqa) (by rw [HL.out.1]; exact HS.out.1)
                dsimp only at hord
                obtain ⟨g4, o4, e4, hg4⟩ := HW3.out.2.2.seg.at hqa
                cases e4
                have a0 := hg4 0 _ rfl
                have a1 := hg4 1 _ rfl
                have a3 := hg4 3 _ rfl
                rw [Nat.add_zero] at a0
                obtain ⟨J', hJ⟩ : ∃ J', J + 1 = J' := ⟨_, rfl⟩
                have HJ : Hid (J + 1 = J') := hJ
                have hq : IntKind.i64.wrap ((J' : Int) - 1) = (J : Int) := by rw [IntKind.wrap_i64]; omega
                have hJ1 : decide (0 < J') = true := by simp; omega
                have hJ2 : 0 < J' := by omega
                have hJn : (J : Int) < n := by omega
                rw [hJ]
                rw [hJ] at hlt'
                have f1 : decide ((k : Int) < a.core) = false := by simp; omega
                clear hg4 hqa hJ
                by_cases hce : a.core = k
                · have f2 : (a.core == (k : Int)) = true := by simp [hce]
                  have f3 : decide (B < a.til) = false := by simp; omega
                  have f4 : decide ((m : Int) ≤ a.win) = false := by simp; omega
                  clear hord hce
                  go_quiet (fail)
                  clear d0 d1 d2 a0 a1 a3
                  go_wp2
                  go_roundw
                  case rel => exact ⟨J' + 1, by have := HJ.out; omega, by go_num, HW3.out.2.2.kept ((Keeps.refl _ _).drewN _)⟩
                  case measure => simp [intOf]; have := HJ.out; omega
                · have f2 : (a.core == (k : Int)) = false := by simp [hce]
                  clear hord
                  go_quiet (fail)
                  clear d0 d1 d2 a0 a1 a3
                  go_wp2
                  go_roundw
                  case rel => exact ⟨J' + 1, by have := HJ.out; omega, by go_num, HW3.out.2.2.kept ((Keeps.refl _ _).drewN _)⟩
                  case measure => simp [intOf]; have := HJ.out; omega
            · obtain rfl : j = n := by omega
              have HA4 : Hid (Ap w x C N ad l wr) := hA
              clear hA hj hlt
              obtain ⟨c0, c1, c2, c3, c4, c5, c6⟩ := HA4.out.one.cells
              go_wp2_with fail
              refine (share_any x p wr N HA4.out.one.cin HA4.out.one.nn HT.out).mono ?_
              rintro e w5 ⟨r, er, rfl, hR, hK⟩
              have HA5 : Hid (Ap w x C N ad l w5) := HA4.out.kept hK
              clear hK c0 c1 c2 c3 c4 c5 c6
              unfold ShR at hR
              rw [if_pos HL.out.2.2.2] at hR
              by_cases hf : fills x.major x.cs = true
              · rw [if_pos hf] at hR
                obtain ⟨hr, rfl⟩ := hR
                have hmj : 1 ≤ x.major ∧ x.major ≤ 16384 := by unfold fills at hf; simp at hf; exact hf.1
                obtain ⟨r', hr', hnan⟩ := shr_some (u := useAll p x.cs x.cs.length) hmj
                rw [hr] at hr'
                cases hr'
                rw [HU.out] at hr
                have HR : Hid (shr U x.major = some r ∧ (Ieee.double.read r).isNaN = false ∧ fills x.major x.cs = true) := ⟨hr, hnan, hf⟩
                clear hr hnan hf
                obtain ⟨c0, c1, c2, c3, c4, c5, c6⟩ := HA5.out.one.cells
                go_wp2_with fail
                refine (core_any x p w5 N HA5.out.one.cin HA5.out.one.nn).mono ?_
                rintro e w6 ⟨r6, er6, rfl, hR6, hK⟩
                have HA6 : Hid (Ap w x C N ad l w6) := HA5.out.kept hK
                clear hK c0 c1 c2 c3 c4 c5 c6
                rcases hR6 with ⟨hnp, _⟩ | ⟨_, rfl, hR6⟩
                · exact (hnp HL.out.2.2.2).elim
                have hcore : (r6 < 0 ∧ j = 0) ∨ (0 ≤ r6 ∧ 0 < j) := by
                  have hnil := pickAll_nil (p := p) (cs := x.cs) x.cs.length (Nat.le_refl _)
                  rw [HL.out.1] at hnil
                  rcases hR6 with ⟨rfl, h6⟩ | ⟨k, X, rfl, h6, h7, _⟩
                  · left
                    have : l = [] := hnil.2 fun i Y _ hY => h6 i Y hY
                    rw [this] at HL
                    have := HL.out.2.1
                    simp at this
                    omega
                  · right
                    refine ⟨by omega, ?_⟩
                    by_cases h0 : j = 0
                    · have hl0 : l = [] := List.eq_nil_of_length_eq_zero (by rw [HL.out.2.1]; exact h0)
                      have := hnil.1 hl0 k X (List.getElem?_eq_some_iff.1 h6).1 h6
                      rw [this] at h7; cases h7
                    · omega
                clear hR6
                have hc1 : (decide (r6 < 0) != ((j : Int) == 0)) = false := by
                  rcases hcore with ⟨h1, h2⟩ | ⟨h1, h2⟩
                  · subst h2; simp [h1]
                  · have e1 : decide (r6 < 0) = false := by simp; omega
                    have e2 : ((j : Int) == 0) = false := by simp; omega
                    rw [e1, e2]; rfl
                have hq : ∀ w, (binOp .quo 38 (.float .f64 (floatOfInt .f64 U)) (.float .f64 (floatOfInt .f64 x.major))).run Try.prog w = .ok (.float .f64 r) w := fun w => run_float_arith w .quo 38 .f64 _ _ r HR.out.1
                have hos := order_self HR.out.2.1
                have c1 := HA6.out.one.cells.2.1
                by_cases hj0 : j = 0
                · have hr6 : r6 < 0 := by omega
                  have hd1 : decide (r6 < 0) = true := by simp [hr6]
                  subst hj0
                  clear hcore hc1
                  go_upto_region 35 with fail
                  go_quiet (fail)
                  clear c1
                  obtain ⟨W7, hW7⟩ : ∃ W7, W7 = w6.drewN nq := ⟨_, rfl⟩
                  have HA7 : Hid (Ap w x C N ad l W7) := by rw [hW7]; exact HA6.out.kept ((Keeps.refl _ _).drewN _)
                  rw [← hW7]
                  clear hW7
                  have c1 := HA7.out.one.cells.2.1
                  go_wp2_with fail
                  refine (awake_any W7).mono ?_
                  rintro e w8 ⟨rfl, hK⟩
                  have HK8 : Hid (Keeps (fun _ => False) w w8) := HA7.out.one.keeps.trans hK fun _ _ h => h
                  clear hK c1
                  go_wp2
                  go_ret
                  exact ⟨rfl, HK8.out⟩
                · have hr6 : ¬ r6 < 0 := by omega
                  have hd1 : decide (r6 < 0) = false := by simp [hr6]
                  have hj1 : decide (0 < j) = true := by simp; omega
                  have hj2 : 0 < j := by omega
                  have hj3 : ((j : Int) == 0) = false := by simp; omega
                  clear hcore hc1
                  obtain ⟨a, hqa⟩ : ∃ a, l[0]? = some a := ⟨_, List.getElem?_eq_getElem (by have := HL.out.2.1; omega)⟩
                  obtain ⟨b, hqb⟩ : ∃ b, l[j - 1]? = some b := ⟨_, List.getElem?_eq_getElem (by have := HL.out.2.1; omega)⟩
                  obtain ⟨g1, o1, rfl, hg1⟩ := HA6.out.seg.at hqa
                  obtain ⟨g2, o2, e2, hg2⟩ := HA6.out.seg.at hqb
                  cases e2
                  have a0 := hg1 0 _ rfl
                  have b0 := hg2 0 _ rfl
                  simp only [Nat.zero_mul, Nat.add_zero] at a0 b0
                  have hq0 : IntKind.i64.wrap ((j : Int) - 1) = ((j - 1 : Nat) : Int) := by rw [IntKind.wrap_i64]; omega
                  have hx1 : ((j - 1 : Nat) : Int) < j := by omega
                  have hx3 : (0 : Int) < j := by omega
                  clear hg1 hg2
                  by_cases hab : a.core = b.core
                  · have hab' : (a.core == b.core) = true := by simp [hab]
                    have hgt : (FloatKind.f64.format.order r 4607182418800017408 == some Ordering.gt) = false := by
                      have hle := useAll_le (p := p) HR.out.2.2 (a := a) (b := b) (by rw [HL.out.1]; exact hqa) (by rw [HL.out.1, HL.out.2.1]; exact hqb) hab
                      rw [HU.out] at hle
                      exact shr_le (by omega) hle (by omega) (by omega) HR.out.1
                    clear hqa hqb hab
                    go_upto_region 35 with fail
                    go_quiet (fail)
                    clear c1 a0 b0
                    obtain ⟨W7, hW7⟩ : ∃ W7, W7 = w6.drewN nq := ⟨_, rfl⟩
                    have HA7 : Hid (Ap w x C N (some ⟨g1, o1, none⟩) l W7) := by rw [hW7]; exact HA6.out.kept ((Keeps.refl _ _).drewN _)
                    rw [← hW7]
                    clear hW7
                    have c1 := HA7.out.one.cells.2.1
                    go_wp2_with fail
                    refine (awake_any W7).mono ?_
                    rintro e w8 ⟨rfl, hK⟩
                    have HK8 : Hid (Keeps (fun _ => False) w w8) := HA7.out.one.keeps.trans hK fun _ _ h => h
                    clear hK c1
                    go_wp2
                    go_ret
                    exact ⟨rfl, HK8.out⟩
                  · have hab' : (a.core == b.core) = false := by simp [hab]
                    clear hqa hqb hab
                    go_upto_region 35 with fail
                    go_quiet (fail)
                    clear c1 a0 b0
                    obtain ⟨W7, hW7⟩ : ∃ W7, W7 = w6.drewN nq := ⟨_, rfl⟩
                    have HA7 : Hid (Ap w x C N (some ⟨g1, o1, none⟩) l W7) := by rw [hW7]; exact HA6.out.kept ((Keeps.refl _ _).drewN _)
                    rw [← hW7]
                    clear hW7
                    have c1 := HA7.out.one.cells.2.1
                    go_wp2_with fail
                    refine (awake_any W7).mono ?_
                    rintro e w8 ⟨rfl, hK⟩
                    have HK8 : Hid (Keeps (fun _ => False) w w8) := HA7.out.one.keeps.trans hK fun _ _ h => h
                    clear hK c1
                    go_wp2
                    go_ret
                    exact ⟨rfl, HK8.out⟩
              · rw [if_neg hf] at hR
                obtain ⟨rfl, rfl⟩ := hR
                clear hf
                go_wp2_with fail
                refine (awake_any w5).mono ?_
                rintro e w6 ⟨rfl, hK⟩
                have HK6 : Hid (Keeps (fun _ => False) w w6) := HA5.out.one.keeps.trans hK fun _ _ h => h
                clear hK
                go_wp2
                go_ret
                exact ⟨rfl, HK6.out⟩
end Go.Proofs.Ytnkfdmlpjgmckab
