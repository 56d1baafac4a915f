import Derived.Test.YtonjmknjjdnjkaaBegB
namespace Go.Proofs.Ytonjmknjjdnjkaa
open Go.RowKit
set_option linter.unusedVariables false
set_option linter.unusedSimpArgs false

theorem seg_rep {w : World} {G n : Nat} (h : Blk w G (List.replicate (n + 9) m78) 5) : Seg w (some ⟨G, 0, none⟩) (List.replicate n 78) := by
  refine seg_pre (zs := List.replicate 9 m78) ?_
  rw [bvs_rep]
  show Blk w G (List.replicate n m78 ++ List.replicate 9 m78) 5
  rw [List.replicate_append_replicate]
  exact h

set_option maxRecDepth 100000 in
set_option maxHeartbeats 4000000 in
theorem lists_7 (who a b : Int) (W V N : Nat) (pb : Option Addr) (xs : List UInt8) (cb : Nat) (pw : Option Addr) (lw cw : Nat) (str : ByteArray) (w0 w : World) (X T : Nat) (h : Game w0 w X T) (hx : Seg w0 pb xs) (hxl : xs.length ≤ 2147483647) :
    Calls Try.prog 13 #[.pointer (some ⟨X, 0, none⟩), .agg #[.int .i64 7, .int .i64 who, .int .i64 a, .int .i64 b, .int .u32 W, .int .u32 V, .int .u64 N, .slice pb xs.length cb, .slice pw lw cw, .string str]] w fun e w' => e = .returned (.bool true) ∧ Game w0 w' X (T + 8) := by
  obtain ⟨s, g, hH, hR, hS, rfl⟩ := h.out
  have H1 := has_box hH #[.int .i64 7, .int .i64 who, .int .i64 a, .int .i64 b, .int .u32 W, .int .u32 V, .int .u64 N, .slice pb xs.length cb, .slice pw lw cw, .string str]
  have R1 := hR.other 21 0 (by omega) (.blk w.heap.size (#[.int .i64 7, .int .i64 who, .int .i64 a, .int .i64 b, .int .u32 W, .int .u32 V, .int .u64 N, .slice pb xs.length cb, .slice pw lw cw, .string str] : Array Value).toList 41)
  obtain ⟨bo, hbo⟩ : ∃ bo, bo = w.heap.size := ⟨_, rfl⟩
  obtain ⟨w1, hw1⟩ : ∃ w1, w1 = w.alloc (.cells #[.int .i64 7, .int .i64 who, .int .i64 a, .int .i64 b, .int .u32 W, .int .u32 V, .int .u64 N, .slice pb xs.length cb, .slice pw lw cw, .string str] 41) := ⟨_, rfl⟩
  obtain ⟨s1, hs1⟩ : ∃ s1, s1 = upd s (21, 0) (.blk w.heap.size (#[.int .i64 7, .int .i64 who, .int .i64 a, .int .i64 b, .int .u32 W, .int .u32 V, .int .u64 N, .slice pb xs.length cb, .slice pw lw cw, .string str] : Array Value).toList 41) := ⟨_, rfl⟩
  have hO : s1 (21, 0) = .blk bo (#[.int .i64 7, .int .i64 who, .int .i64 a, .int .i64 b, .int .u32 W, .int .u32 V, .int .u64 N, .slice pb xs.length cb, .slice pw lw cw, .string str] : Array Value).toList 41 := by rw [hs1, hbo]; exact upd_self _ _ _
  rw [← hw1, ← hs1] at H1
  rw [← hs1] at R1
  clear hH hR hs1 h
  have HS : Hid (Src g w0 pb xs) := src_base hx
  have HG : Hid (Rel s1 g w0 ∧ Small g T) := ⟨R1, hS⟩
  have HH : Hid (Has s1 w1 ∧ s1 (21, 0) = _) := ⟨H1, hO⟩
  have HT : Hid (xs.length ≤ 17592186044416 ∧ xs.length ≤ maxLen) := by unfold Hid maxLen; omega
  have HL0 : Hid (Seg w1 pb xs) := (HS.out.out _ _ _ H1 R1 rfl rfl).1
  obtain ⟨X, hX⟩ : ∃ X, X = g.X := ⟨_, rfl⟩
  rw [← hX]
  have HX : Hid (X = g.X) := hX
  clear hX R1 H1 hO hS hx hxl
  go_enter Try.func13, Try.ntmps13
  go_wp2_with fail
  rw [← hbo, ← hw1]
  clear hbo hw1
  refine (lentBytes_any pb cb xs w1 HL0.out HT.out.1).mono ?_
  rintro e w2 ⟨rfl, hB2, hK2⟩
  obtain ⟨s2, H2, k2, n2⟩ := (HH.out.1.newBlk (20, 0) hB2 (Nat.le_refl _) hK2).name
  obtain ⟨G, hG⟩ : ∃ G, G = w1.heap.size := ⟨_, rfl⟩
  rw [← hG] at k2 hB2 ⊢
  obtain ⟨S1, hS1⟩ : ∃ S1, sumN xs = S1 := ⟨_, rfl⟩
  obtain ⟨S2, hS2⟩ : ∃ S2, sumN (List.replicate xs.length 78) = S2 := ⟨_, rfl⟩
  have HSG : Hid (Calls Try.prog 38 #[.slice (some ⟨G, 0, none⟩) xs.length (xs.length + 9)] w2 fun e w' => e = .returned (.int .u32 S1) ∧ w' = w2) := by
    have := sum_any (some ⟨G, 0, none⟩) (xs.length + 9) xs w2 (seg_pre hB2) HT.out.2
    rw [hS1] at this
    exact this
  have HSS : Hid (sumN xs = S1 ∧ sumN (List.replicate xs.length 78) = S2) := ⟨hS1, hS2⟩
  have o7 := (H2.blk ((n2 (21, 0) (by simp)).trans HH.out.2)).1.cell (i := 7) rfl
  have HH2 : Hid (Has s2 w2 ∧ s2 (20, 0) = _ ∧ ∀ o', o' ≠ (20, 0) → s2 o' = s1 o') := ⟨H2, k2, n2⟩
  clear H2 k2 n2 hG hB2 hK2 hS1 hS2
  go_wp2_with fail
  refine HSG.out.mono ?_
  rintro e w2' ⟨rfl, rfl⟩
  clear HSG
  go_wp2_with fail
  have R2 : Rel s2 g w0 := by
    have := HG.out.1.other 20 0 (by omega) (s2 (20, 0))
    have e : upd s1 (20, 0) (s2 (20, 0)) = s2 := by
      funext o
      by_cases ho : o = (20, 0)
      · rw [ho, upd_self]
      · rw [upd_ne _ _ _ _ ho, HH2.out.2.2 o ho]
    rw [e] at this
    exact this
  obtain ⟨hB3, next3⟩ := HH2.out.1.blk HH2.out.2.1
  obtain ⟨hsg, hne⟩ := HS.out.out _ _ _ HH2.out.1 R2 rfl rfl
  refine (backBytes_any G cb pb xs w2' hsg hB3 (hne _ _ _ HH2.out.2.1) HT.out.1).mono ?_
  rintro e w3 ⟨rfl, hB4, hK4⟩
  have H3 := next3 _ _ _ hB4 hK4
  have R3 := R2.other 20 0 (by omega) (.blk G (List.replicate (xs.length + 9) m78) 5)
  have o7' := (H3.blk (o := (21, 0)) ((upd_ne _ _ _ _ (by simp)).trans ((HH2.out.2.2 (21, 0) (by simp)).trans HH.out.2))).1.cell (i := 7) rfl
  have HSG : Hid (Calls Try.prog 38 #[.slice (some ⟨G, 0, none⟩) xs.length (xs.length + 9)] w3 fun e w' => e = .returned (.int .u32 S2) ∧ w' = w3) := by
    have := sum_any (some ⟨G, 0, none⟩) (xs.length + 9) (List.replicate xs.length 78) w3 (seg_rep hB4) (by rw [List.length_replicate]; exact HT.out.2)
    rw [List.length_replicate, HSS.out.2] at this
    exact this
  have HRG : Hid (Calls Try.prog 59 #[.slice (some ⟨G, 0, none⟩) xs.length (xs.length + 9)] w3 fun e w' => e = .returned (.int .u32 S2) ∧ w' = w3) := by
    have := refSum_any (some ⟨G, 0, none⟩) (xs.length + 9) (List.replicate xs.length 78) w3 (seg_rep hB4) (by rw [List.length_replicate]; exact HT.out.2)
    rw [List.length_replicate, HSS.out.2] at this
    exact this
  have HRS : Hid (Calls Try.prog 59 #[.slice pb xs.length cb] w3 fun e w' => e = .returned (.int .u32 S1) ∧ w' = w3) := by
    have := refSum_any pb cb xs w3 ((HS.out.out _ _ _ H3 R3 rfl rfl).1) HT.out.2
    rw [HSS.out.1] at this
    exact this
  have HF : Hid (Game w0 w3 X (T + 8)) := ⟨_, g, H3, R3, HG.out.2.more (by omega), HX.out.symm⟩
  clear H3 R3 R2 hB3 hB4 hK4 next3 hsg hne o7 HSS
  go_wp2_with fail
  refine HSG.out.mono ?_
  rintro e w4 ⟨rfl, rfl⟩
  clear HSG
  go_wp2_with fail
  refine HRS.out.mono ?_
  rintro e w5 ⟨rfl, rfl⟩
  clear HRS
  go_wp2_with fail
  refine HRG.out.mono ?_
  rintro e w6 ⟨rfl, rfl⟩
  clear HRG
  go_wp2
  go_ret
  exact ⟨rfl, HF.out⟩
end Go.Proofs.Ytonjmknjjdnjkaa
