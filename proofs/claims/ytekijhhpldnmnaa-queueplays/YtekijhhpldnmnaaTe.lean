import Derived.Test.YtekijhhpldnmnaaTd
import Derived.Deep.CutBlock
import Derived.Deep.CutRange
namespace Go.Proofs.Ytekijhhpldnmnaa
open Go.RowKit
set_option linter.unusedVariables false
set_option linter.unusedSimpArgs false

set_option maxRecDepth 20000 in
set_option maxHeartbeats 4000000 in
theorem row_any (D M c q n d f mm : Nat) (xs : List UInt32) (P : Nat → List UInt32) (w : World) (hP : P = fun i => win xs (q + pos d f i * (1 + n)) (1 + n)) (hB : Blk w D (wvs xs) 52) (hM : M = xs.length) (hm : M ≤ 256) (hd : 1 ≤ d ∧ d ≤ 8) (hn : n ≤ 16) (hf : f < d) (hq : q + d * (1 + n) ≤ M) (hmm : mm ≤ d) :
    Calls Try.prog 67 #[.slice (some ⟨D, 0, none⟩) M c, .int .i64 q, .int .i64 n, .int .i64 d, .int .i64 f, .int .i64 mm] w fun e w' =>
      RowP w (rowB d mm P) f ((List.range mm).map fun i => msgO (P i)) e w' := by
  obtain ⟨W1, hW1, hK1, hB1, hs1⟩ := zrow3 w
  obtain ⟨W2, hW2⟩ : ∃ W2, W2 = W1.alloc (.cells #[.int .i64 f, .slice none 0 0, .int .u32 0] 92) := ⟨_, rfl⟩
  obtain ⟨O, hO⟩ : ∃ O, O = w.heap.size := ⟨_, rfl⟩
  obtain ⟨R, hR⟩ : ∃ R, R = W1.heap.size := ⟨_, rfl⟩
  have hK2 : Keeps (fun _ => False) W1 W2 := by rw [hW2]; exact (Keeps.refl _ W1).alloc _
  have hI : RoI w R O d f mm P 0 W2 (.slice none 0 0) := by
    refine ⟨hK1.trans hK2 fun _ _ e => e, by rw [hO]; exact hB1.kept hK2 fun e => e, by rw [hR, hW2]; exact Blk.new W1 _ 92, ?_, fun i hi => absurd hi (by omega)⟩
    rw [Nat.zero_min]; exact MsR.nil _ _
  have HI : Hid (RoI w R O d f mm P 0 W2 (.slice none 0 0)) := hI
  have HRO : Hid (O = w.heap.size ∧ R = w.heap.size + 1) := ⟨hO, by omega⟩
  have HW : Hid (W1 = w.alloc (.cells zc3 92) ∧ O = w.heap.size ∧ W2 = W1.alloc (.cells #[.int .i64 f, .slice none 0 0, .int .u32 0] 92) ∧ R = O + 1) := ⟨hW1, hO, hW2, by omega⟩
  obtain ⟨GR, hGR⟩ : ∃ GR, GR = rowB d mm P := ⟨_, rfl⟩
  obtain ⟨MS, hMS⟩ : ∃ MS, MS = (List.range mm).map fun i => msgO (P i) := ⟨_, rfl⟩
  rw [← hGR, ← hMS]
  have HMS : Hid (MS = (List.range mm).map fun i => msgO (P i)) := hMS
  have HGN : Hid (∀ i, i < d → rpB (P i) (decide (i < mm)) = false → GR = false) := fun i h1 h2 => by rw [hGR]; exact rowB_no h1 h2
  have HGY : Hid ((∀ i, i < d → rpB (P i) (decide (i < mm)) = true) → GR = true) := fun h => by rw [hGR]; exact rowB_yes h
  -- the call at a place
  have HPL : Hid (∀ wr j, Keeps (fun _ => False) w wr → j < d → ∃ K T : Nat, Int.tmod ((f : Int) + (j : Int)) (d : Int) = (K : Int) ∧ (K : Int) * (1 + (n : Int)) = (T : Int) ∧ (q : Int) + (T : Int) + 1 + (n : Int) ≤ (M : Int) ∧ (K : Int) < 8 ∧
      Calls Try.prog 72 #[.slice (some ⟨D, 0, none⟩) M c, .int .i64 ((q : Int) + (T : Int)), .int .i64 n] wr fun e w' => PlP wr (goodB n (P j)) (msgO (P j)) (wd (P j) 0).toNat e w') := fun wr j hk hj => by
    have hp := pos_lt hf hj
    have e1 := Nat.mul_le_mul hp (Nat.le_refl (1 + n))
    rw [Nat.succ_mul] at e1
    refine ⟨pos d f j, pos d f j * (1 + n), ?_, by simp, by omega, by omega, ?_⟩
    · rw [Int.tmod_eq_emod_of_nonneg (by omega), ← pos_mod hf hj]; simp
    · have := rplace_any D M c (q + pos d f j * (1 + n)) n xs wr (hB.kept hk fun e => e) hM hm (by omega) hn
      have e2 : wd (P j) 0 = wd xs (q + pos d f j * (1 + n)) := by rw [hP]; show wd (win _ _ _) 0 = _; rw [wd_win (by omega), Nat.add_zero]
      rw [e2, hP]
      simp only [Int.natCast_add] at this
      exact this
  have HRP : Hid (∀ j b, j < d → rpB (P j) b = (goodB n (P j) && decide (b = decide (0 < (wd (P j) 0).toNat)))) := fun j b hj => by
    refine good_rp ?_ b
    have hp := pos_lt hf hj
    have e1 := Nat.mul_le_mul hp (Nat.le_refl (1 + n))
    rw [Nat.succ_mul] at e1
    rw [hP]; exact win_length _ _ _ (by omega)
  have hd0 : ¬ (d : Int) = 0 := by omega
  have z1 : (d : Int) ≤ 8 := by omega
  have z2 : (f : Int) < (d : Int) := by omega
  have z3 : (mm : Int) ≤ (d : Int) := by omega
  have z4 : (n : Int) ≤ 16 := by omega
  have z5 : (M : Int) ≤ 256 := by omega
  clear hP hB hM hm hq hW1 hK1 hB1 hs1 hW2 hO hR hK2 hI hGR hMS
  go_enter Try.func67, Try.ntmps67
  go_wp2
  rw [← HW.out.1, ← HW.out.2.1, ← HW.out.2.2.1, ← HW.out.2.2.2]
  go_loopw [15] (fun i wr => ∃ (j : Nat) (v : Value), j ≤ d ∧ i = .int .i64 j ∧ RoI w R O d f mm P j wr v) (fun i _ => d - (intOf i).toNat)
  case atStart => exact ⟨0, _, by omega, rfl, HI.out⟩
  case round =>
    obtain ⟨j, v, hj, rfl, hI⟩ := hrel
    by_cases hlt : j < d
    · have hlt' : (j : Int) < d := by omega
      obtain ⟨K, T, x1, x2, x3, x4, hcall⟩ := HPL.out wr j hI.1 hlt
      have HC : Hid (Calls _ _ _ _ _) := hcall
      have HIv : Hid (RoI w R O d f mm P j wr v) := hI
      clear hcall hI
      go_wp2_with fail
      refine HC.out.mono ?_
      intro e w1 hpp
      have hE := HRP.out j
      rcases hpp with ⟨hg, B, hBl, rfl, hbk, hml, hk⟩ | ⟨hg, rfl, rfl⟩
      · have hI1 := HIv.out.call hk
        obtain ⟨L0, hL0⟩ : ∃ L0, L0 = (wd (P j) 0).toNat := ⟨_, rfl⟩
        have hE1 : ∀ b, rpB (P j) b = decide (b = decide (0 < L0)) := fun b => by rw [hE b hlt, hg, Bool.true_and, hL0]
        rw [← hL0] at hml ⊢
        have nn : ¬ (L0 : Int) < 0 := by omega
        by_cases h1 : j < mm
        · have h1' : (j : Int) < mm := by omega
          by_cases h2 : 0 < L0
          · have h2' : 0 < (L0 : Int) := by omega
            obtain ⟨v', W', r1, r2, r3, r4⟩ := hI1.more h1 (by rw [hE1, decide_eq_true h1, decide_eq_true h2]; rfl) hbk (by have := HIv.out.1.size; omega) (by have := HRO.out; omega) (by have := HRO.out; omega) (by omega)
            obtain ⟨_, _, c0, c1, c2⟩ := hI1.facts
            rw [hml] at r1
            have HAP : Hid (∀ ty, _) := r1
            have HF : Hid (RoI w R O d f mm P (j + 1) (W'.setCell ⟨R, 1, none⟩ v') v') := r4
            obtain ⟨a, cc, hv, hcc, hlc⟩ := HIv.out.2.2.2.1.form
            obtain ⟨LL, hLL⟩ : ∃ LL, LL = ((List.range (min j mm)).map fun i => msgO (P i)).length := ⟨_, rfl⟩
            rw [← hLL] at hv hlc
            subst hv
            obtain ⟨a2, cc2, hv2, hcc2, hlc2⟩ := r4.2.2.2.1.form
            obtain ⟨L2, hL2⟩ : ∃ L2, L2 = ((List.range (min (j + 1) mm)).map fun i => msgO (P i)).length := ⟨_, rfl⟩
            rw [← hL2] at hv2 hlc2
            subst hv2
            clear hI1 hbk hml hk hE hE1 hg hL0 r1 r4 HC HIv hLL hL2
            go_wp2_with (at_builtin; go_must (refine wpList_append_run rfl _ _ 43 43 rfl (.slice a LL cc) (.slice (some ⟨w1.heap.size, 0, none⟩) 1 1) (.slice a2 L2 cc2) W' rfl rfl HAP.out ?_))
            go_roundw
            case rel => exact ⟨j + 1, _, by omega, by go_num, HF.out⟩
            case measure => simp [intOf]; omega
          · obtain h2' : L0 = 0 := by omega
            subst h2'
            have e00 : ((0 : Nat) : Int) = 0 := rfl
            rw [e00]
            clear nn e00
            have HR : Hid (GR = false) := HGN.out j hlt (by rw [hE1, decide_eq_true h1, decide_eq_false h2]; rfl)
            obtain ⟨⟨c0, c1, c2⟩, ⟨f0, f1, f2⟩, _⟩ := hI1.facts
            have HIx : Hid (RoI w R O d f mm P j w1 v) := hI1
            clear hI1 hbk hml hk hE hE1 hg hL0 HC HIv
            go_wp2
            obtain ⟨W6, hW6, hB6, hk6, _⟩ := HIx.out.out (by have := HRO.out; omega) (by have := HRO.out; omega) (.int .i64 0) (.slice none 0 0) (.int .u32 0)
            rw [← hW6]
            have d0 := hB6.cell (i := 0) rfl
            have d1 := hB6.cell (i := 1) rfl
            have d2 := hB6.cell (i := 2) rfl
            refine bodyPost_ret (by simp [results, Try.results67, go_sem, d0, d1, d2]; try rfl) rfl ?_
            exact .inr ⟨HR.out, rfl, hk6⟩
        · have h1' : ¬ (j : Int) < mm := by omega
          by_cases h2 : 0 < L0
          · have h2' : 0 < (L0 : Int) := by omega
            have HR : Hid (GR = false) := HGN.out j hlt (by rw [hE1, decide_eq_false h1, decide_eq_true h2]; rfl)
            obtain ⟨⟨c0, c1, c2⟩, ⟨f0, f1, f2⟩, _⟩ := hI1.facts
            have HIx : Hid (RoI w R O d f mm P j w1 v) := hI1
            clear hI1 hbk hml hk hE hE1 hg hL0 HC HIv
            go_wp2
            obtain ⟨W6, hW6, hB6, hk6, _⟩ := HIx.out.out (by have := HRO.out; omega) (by have := HRO.out; omega) (.int .i64 0) (.slice none 0 0) (.int .u32 0)
            rw [← hW6]
            have d0 := hB6.cell (i := 0) rfl
            have d1 := hB6.cell (i := 1) rfl
            have d2 := hB6.cell (i := 2) rfl
            refine bodyPost_ret (by simp [results, Try.results67, go_sem, d0, d1, d2]; try rfl) rfl ?_
            exact .inr ⟨HR.out, rfl, hk6⟩
          · obtain h2' : L0 = 0 := by omega
            subst h2'
            have e00 : ((0 : Nat) : Int) = 0 := rfl
            rw [e00]
            clear nn e00
            have HF : Hid (RoI w R O d f mm P (j + 1) w1 v) := hI1.same h1 (by rw [hE1, decide_eq_false h1, decide_eq_false h2]; rfl)
            clear hI1 hbk hml hk hE hE1 hg hL0 HC HIv
            go_wp2
            go_roundw
            case rel => exact ⟨j + 1, v, by omega, by go_num, HF.out⟩
            case measure => simp [intOf]; omega
      · have HR : Hid (GR = false) := HGN.out j hlt (by rw [hE _ hlt, hg, Bool.false_and])
        obtain ⟨⟨c0, c1, c2⟩, ⟨f0, f1, f2⟩, _⟩ := HIv.out.facts
        clear hE hg HC
        go_wp2
        obtain ⟨W6, hW6, hB6, hk6, _⟩ := HIv.out.out (by have := HRO.out; omega) (by have := HRO.out; omega) (.int .i64 0) (.slice none 0 0) (.int .u32 0)
        rw [← hW6]
        have d0 := hB6.cell (i := 0) rfl
        have d1 := hB6.cell (i := 1) rfl
        have d2 := hB6.cell (i := 2) rfl
        refine bodyPost_ret (by simp [results, Try.results67, go_sem, d0, d1, d2]; try rfl) rfl ?_
        exact .inr ⟨HR.out, rfl, hk6⟩
    · obtain rfl : d = j := by omega
      have HR : Hid (GR = true) := HGY.out hI.2.2.2.2
      obtain ⟨⟨c0, c1, c2⟩, ⟨f0, f1, f2⟩, e0, e1, e2⟩ := hI.facts
      have HIx : Hid (RoI w R O d f mm P d wr v) := hI
      have hmin : min d mm = mm := Nat.min_eq_right (by omega)
      have HMI : Hid (min d mm = mm) := hmin
      obtain ⟨a, cc, hv, hcc, hlc⟩ := hI.2.2.2.1.form
      obtain ⟨LL, hLL⟩ : ∃ LL, LL = ((List.range (min d mm)).map fun i => msgO (P i)).length := ⟨_, rfl⟩
      rw [← hLL] at hv hlc
      subst hv
      clear hI hmin hLL
      go_wp2
      obtain ⟨W6, hW6, hB6, hk6, hm6⟩ := HIx.out.out (by have := HRO.out; omega) (by have := HRO.out; omega) (.int .i64 f) (.slice a LL cc) (.int .u32 0)
      rw [← hW6]
      have d0 := hB6.cell (i := 0) rfl
      have d1 := hB6.cell (i := 1) rfl
      have d2 := hB6.cell (i := 2) rfl
      refine bodyPost_ret (by simp [results, Try.results67, go_sem, d0, d1, d2]; try rfl) rfl ?_
      rw [HMI.out, ← HMS.out] at hm6
      exact .inl ⟨HR.out, _, rfl, hm6, hk6⟩

end Go.Proofs.Ytekijhhpldnmnaa
