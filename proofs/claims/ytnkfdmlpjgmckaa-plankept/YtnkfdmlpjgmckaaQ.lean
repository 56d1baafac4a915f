import Derived.Test.YtnkfdmlpjgmckaaP
namespace Go.Proofs.Ytnkfdmlpjgmckaa
open Go.RowKit
set_option linter.unusedVariables false
set_option maxRecDepth 6000

set_option maxHeartbeats 2000000 in
theorem share_ok (x : Cfg) (p : Int) (w : World) (N : Nat) (hi : x.In w N) (hN : N ≤ w.heap.size) (hp : 0 ≤ p ∧ p < x.ps.length) (hf : fills x.major x.cs = true) (ht : tot x.cs x.cs.length ≤ 2147483647) :
    Calls Try.prog 27 #[x.v, .int .i64 p] w (ShP w x p) := by
  have hmj : 1 ≤ x.major ∧ x.major ≤ 16384 := by unfold fills at hf; simp at hf; exact hf.1
  obtain ⟨r, hr, hr2⟩ := shr_some (u := useAll p x.cs x.cs.length) hmj
  have HR : Hid (ShR x p r 0) := by unfold Hid ShR; rw [if_pos hp, if_pos hf]; exact ⟨hr, rfl⟩
  obtain ⟨W, hW⟩ : ∃ W, W = x.laid w := ⟨_, rfl⟩
  obtain ⟨C, hC⟩ : ∃ C, C = w.heap.size := ⟨_, rfl⟩
  have HO : Hid (One w x C N W) := by rw [hW, hC]; exact One.mk' hi hN
  have HC : Hid (Calls Try.prog 38 #[x.v, .int .i64 p] W fun e w' => e = .returned (.bool true) ∧ Keeps (fun _ => False) W w') := by
    have h := isPartition_any x p W
    rw [show (decide (0 ≤ p) && decide (p < (x.ps.length : Int))) = true from by simp; exact hp] at h
    exact h
  have HF : Hid (fills x.major x.cs = true ∧ tot x.cs x.cs.length ≤ 2147483647 ∧ shr (useAll p x.cs x.cs.length) x.major = some r) := ⟨hf, ht, hr⟩
  have hcc : (x.cs.length : Int) ≤ x.cc ∧ (x.cc : Int) ≤ 9223372036854775807 := by have := hi.clen; unfold maxLen at this; omega
  clear hi hN hp hf ht hr hr2
  go_enter Try.func27, Try.ntmps27
  go_wp2_with fail
  unfold Cfg.laid at hW
  rw [← hW, ← hC]
  clear hW hC
  refine HC.out.mono ?_
  rintro e w1 ⟨rfl, hK⟩
  have HO1 : Hid (One w x C N w1) := HO.out.kept hK
  clear hK HC
  obtain ⟨c0, c1, c2, c3, c4, c5, c6⟩ := HO1.out.cells
  go_wp2_with fail
  refine (allFill_any x w1 N HO1.out.cin HO1.out.nn).mono ?_
  rw [HF.out.1]
  rintro e w2 ⟨rfl, hK⟩
  have HO2 : Hid (One w x C N w2) := HO1.out.kept hK
  clear hK c0 c1 c2 c3 c4 c5 c6
  obtain ⟨c0, c1, c2, c3, c4, c5, c6⟩ := HO2.out.cells
  go_wp2_with fail
  refine (spansOf_any x p w2 N HO2.out.cin HO2.out.nn (fills_may HF.out.1) HF.out.2.1).mono ?_
  rintro e w3 ⟨u, rfl, hRow, hK⟩
  obtain ⟨ad, cp, rfl, hLst⟩ := hRow.lst
  obtain ⟨us, hu1, hu2, hu3⟩ := pickAll_use (p := p) (cs := x.cs) x.cs.length (Nat.le_refl _)
  obtain ⟨n, hn⟩ : ∃ n, (pickAll p x.cs x.cs.length).length = n := ⟨_, rfl⟩
  have hnt : n ≤ 2147483647 := by have := pickAll_len p x.cs x.cs.length; have := HF.out.2.1; omega
  have HU : Hid (us.length = n ∧ us.sum = useAll p x.cs x.cs.length ∧ (∀ (i : Nat) (s : Spn) (u : Int), (pickAll p x.cs x.cs.length)[i]? = some s → us[i]? = some u → SpOf p x.cs s u) ∧ (pickAll p x.cs x.cs.length).length = n) := ⟨by rw [hu1, hn], hu2, hu3, hn⟩
  have hcp : (n : Int) ≤ cp ∧ (cp : Int) ≤ 9223372036854775807 := by have := hLst.len; unfold maxLen at this; omega
  have HO3 : Hid (One w x C N w3 ∧ SegA Spn.vs 4 w3 ad (pickAll p x.cs x.cs.length)) := ⟨HO2.out.kept hK, hLst.seg⟩
  rw [hn]
  clear hK c0 c1 c2 c3 c4 c5 c6 hRow hLst hu1 hu2 hu3 hn
  go_wp2
  go_loopw [6, 20] (fun z i wr => ∃ j : Nat, j ≤ n ∧ i = .int .i64 j ∧ z = .int .i64 (us.take j).sum ∧ One w x C N wr ∧ SegA Spn.vs 4 wr ad (pickAll p x.cs x.cs.length)) (fun _ i _ => n - (intOf i).toNat)
  case atStart => exact ⟨0, by omega, rfl, rfl, HO3.out.1, HO3.out.2⟩
  case round =>
    obtain ⟨j, hj, rfl, rfl, hO, hS⟩ := hrel
    clear HO3
    have hbd := sum_bound (us := us) (fun i u hu => by
      obtain ⟨s, hs⟩ : ∃ s, (pickAll p x.cs x.cs.length)[i]? = some s := ⟨_, List.getElem?_eq_getElem (by have := (List.getElem?_eq_some_iff.1 hu).1; have := HU.out.1; have := HU.out.2.2.2; omega)⟩
      exact (HU.out.2.2.1 i s u hs hu).bound (fills_may HF.out.1)) j
    by_cases hlt : j < n
    · obtain ⟨s, hs⟩ : ∃ s, (pickAll p x.cs x.cs.length)[j]? = some s := ⟨_, List.getElem?_eq_getElem (by have := HU.out.2.2.2; omega)⟩
      obtain ⟨z, hz⟩ : ∃ u, us[j]? = some u := ⟨_, List.getElem?_eq_getElem (by have := HU.out.1; omega)⟩
      have hsp := HU.out.2.2.1 j s z hs hz
      have hzb := hsp.bound (fills_may HF.out.1)
      obtain ⟨k, i, X, y, rfl, hX, hy, hyp, rfl⟩ := hsp
      have hsu := sum_take_succ hz
      obtain ⟨g, o, rfl, hg⟩ := hS.at hs
      have s0 := hg 0 _ rfl
      have s1 := hg 1 _ rfl
      have s2 := hg 2 _ rfl
      have s3 := hg 3 _ rfl
      rw [Nat.add_zero] at s0
      obtain ⟨B, hB⟩ : ∃ B, beg X.ws i = B := ⟨_, rfl⟩
      obtain ⟨B', hB'⟩ : ∃ B, beg X.ws (i + 1) = B := ⟨_, rfl⟩
      dsimp only at s0 s1 s2 s3
      rw [hB] at s2
      rw [hB'] at s3
      obtain ⟨W1, hW1⟩ : ∃ W1, W1 = wr.alloc (.cells #[.int .i64 k, .int .i64 i, .int .i64 B, .int .i64 B'] 69) := ⟨_, rfl⟩
      obtain ⟨D, hD⟩ : ∃ D, D = wr.heap.size := ⟨_, rfl⟩
      have HW1 : Hid (Blk W1 D [.int .i64 k, .int .i64 i, .int .i64 B, .int .i64 B'] 69 ∧ One w x C N W1 ∧ SegA Spn.vs 4 W1 (some ⟨g, o, none⟩) (pickAll p x.cs x.cs.length)) := by
        rw [hW1, hD]; exact ⟨Blk.new _ _ _, hO.kept ((Keeps.refl _ _).alloc _), hS.kept ((Keeps.refl (fun _ => False) _).alloc _) fun _ _ _ h => h⟩
      have HX : Hid (x.cs[k]? = some X ∧ X.ws[i]? = some y) := ⟨hX, hy⟩
      obtain ⟨Z, hZ⟩ : ∃ Z, (us.take j).sum = Z := ⟨_, rfl⟩
      rw [hZ] at hbd hsu ⊢
      have HZ : Hid ((us.take (j + 1)).sum = Z + y.u) := hsu
      have hZb : 0 ≤ Z ∧ Z ≤ 35184372088832 := by omega
      have q1 : IntKind.i64.wrap (Z + y.u) = Z + y.u := by rw [IntKind.wrap_i64]; omega
      have hXk : (k : Int) < x.cs.length := by have := (List.getElem?_eq_some_iff.1 hX).1; omega
      have hil := (List.getElem?_eq_some_iff.1 hy).1
      clear hO hS hs hz hsu hB hB' hX hy hg hZ hbd
      go_upto_region 9 with fail
      rw [← hW1, ← hD]
      clear hW1 hD s0 s1 s2 s3
      have d0 := HW1.out.1.cell (i := 0) rfl
      have d1 := HW1.out.1.cell (i := 1) rfl
      obtain ⟨g2, o2, ha, hc⟩ := HW1.out.2.1.cin.core HX.out.1
      have c4 := HW1.out.2.1.cells.2.2.2.2.1
      rw [ha] at c4
      have hXin := HW1.out.2.1.cin.cin X (List.mem_of_getElem? HX.out.1)
      obtain ⟨g3, o3, ha3, hg3⟩ := hXin.seg.at HX.out.2
      have y1 := hg3 1 _ rfl
      have hxc : (X.ws.length : Int) ≤ X.c ∧ (X.c : Int) ≤ 9223372036854775807 := by have := hXin.len; unfold maxLen at this; omega
      obtain ⟨XL, hXL⟩ : ∃ XL, X.ws.length = XL := ⟨_, rfl⟩
      have hv : Core.v X = .slice (some ⟨g3, o3, none⟩) XL X.c := by unfold Core.v; rw [ha3, hXL]
      rw [hv] at hc
      rw [hXL] at hxc hil
      have hil' : (i : Int) < XL := by omega
      clear hXin hg3 ha3 hv ha hXL
      go_quiet (fail)
      clear hc y1 c4 d0 d1
      go_wp2
      go_roundw
      case rel => exact ⟨j + 1, by omega, by go_num, by rw [HZ.out], HW1.out.2.1.kept ((Keeps.refl _ _).drewN _), HW1.out.2.2.kept ((Keeps.refl (fun _ => False) _).drewN _) fun _ _ _ h => h⟩
      case measure => simp [intOf]; omega
    · obtain rfl : j = n := by omega
      have hz : (us.take j).sum = useAll p x.cs x.cs.length := by rw [List.take_of_length_le (by rw [HU.out.1]; exact Nat.le_refl _), HU.out.2.1]
      have c1 := hO.cells.2.1
      have HE : Hid (One w x C N wr) := hO
      have hsh := HF.out.2.2
      obtain ⟨Z, hZ⟩ : ∃ Z, useAll p x.cs x.cs.length = Z := ⟨_, rfl⟩
      rw [hz, hZ]
      rw [hZ] at hsh
      have hq : ∀ w, (binOp .quo 59 (.float .f64 (floatOfInt .f64 Z)) (.float .f64 (floatOfInt .f64 x.major))).run Try.prog w = .ok (.float .f64 r) w := fun w => run_float_arith w .quo 59 .f64 _ _ r hsh
      clear hO hS hbd hz hZ hsh
      go_wp2
      go_ret2
      exact ⟨r, 0, rfl, HR.out, HE.out.keeps⟩

theorem share_any (x : Cfg) (p : Int) (w : World) (N : Nat) (hi : x.In w N) (hN : N ≤ w.heap.size) (ht : tot x.cs x.cs.length ≤ 2147483647) :
    Calls Try.prog 27 #[x.v, .int .i64 p] w (ShP w x p) := by
  by_cases hp : 0 ≤ p ∧ p < x.ps.length
  · by_cases hf : fills x.major x.cs = true
    · exact share_ok x p w N hi hN hp hf ht
    · exact share_bad x p w N hi hN hp (by simpa using hf)
  · exact share_no x p w N hi hN hp
end Go.Proofs.Ytnkfdmlpjgmckaa
