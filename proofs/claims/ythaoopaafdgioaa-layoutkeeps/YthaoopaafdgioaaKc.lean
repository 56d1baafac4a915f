import Derived.Test.YthaoopaafdgioaaKa
namespace Go.Proofs.Ythaoopaafdgioaa
open Go.RowKit
set_option linter.unusedVariables false
set_option linter.unusedSimpArgs false
set_option maxRecDepth 8000

set_option maxHeartbeats 8000000 in
theorem outer_any (A En B Fn : Int) (a1 a2 d1 d2 : Option Addr) (n m n2 m2 : Nat) (vP vH vQ vI : List Value) (hn : n ≤ 1000 ∧ m ≤ 1000 ∧ n2 ≤ 1000 ∧ m2 ≤ 1000) (w : World)
    (hP : w.ownsRow 0 55 5 (.slice a1 n n) n vP) (hH : w.ownsRow 0 59 5 (.slice a2 m m) m vH) (hQ : w.ownsRow 0 55 5 (.slice d1 n2 n2) n2 vQ) (hI : w.ownsRow 0 59 5 (.slice d2 m2 m2) m2 vI) :
    Calls Try.prog 28 #[.agg #[.int .i64 A, .slice a1 n n, .slice a2 m m, .int .i64 En], .agg #[.int .i64 B, .slice d1 n2 n2, .slice d2 m2 m2, .int .i64 Fn]] w fun e w' => e = .returned (.bool true) ∧ Keeps (fun _ => False) w w' := by
  obtain ⟨W, hW⟩ : ∃ W, W = (w.alloc (.cells #[.int .i64 A, .slice a1 n n, .slice a2 m m, .int .i64 En] 30)).alloc (.cells #[.int .i64 B, .slice d1 n2 n2, .slice d2 m2 m2, .int .i64 Fn] 30) := ⟨_, rfl⟩
  obtain ⟨C, hC⟩ : ∃ C, C = w.heap.size := ⟨_, rfl⟩
  obtain ⟨C1, hC1⟩ : ∃ C1, C1 = C + 1 := ⟨_, rfl⟩
  have HO : Hid (Keeps (fun _ => False) w W ∧ Blk W C [.int .i64 A, .slice a1 n n, .slice a2 m m, .int .i64 En] 30 ∧ Blk W C1 [.int .i64 B, .slice d1 n2 n2, .slice d2 m2 m2, .int .i64 Fn] 30) := by
    rw [hW, hC1, hC]
    refine ⟨((Keeps.refl _ _).alloc _).alloc _, (Blk.new _ _ _).alloc _, ?_⟩
    have := Blk.new (w.alloc (.cells #[.int .i64 A, .slice a1 n n, .slice a2 m m, .int .i64 En] 30)) #[.int .i64 B, .slice d1 n2 n2, .slice d2 m2 m2, .int .i64 Fn] 30
    simpa using this
  have HR : Hid (W.ownsRow 0 55 5 (.slice a1 n n) n vP ∧ W.ownsRow 0 59 5 (.slice a2 m m) m vH ∧ W.ownsRow 0 55 5 (.slice d1 n2 n2) n2 vQ ∧ W.ownsRow 0 59 5 (.slice d2 m2 m2) m2 vI) :=
    ⟨owns_kept hP HO.out.1 fun _ _ h => h, owns_kept hH HO.out.1 fun _ _ h => h, owns_kept hQ HO.out.1 fun _ _ h => h, owns_kept hI HO.out.1 fun _ _ h => h⟩
  obtain ⟨hn1, hn2, hn3, hn4⟩ := hn
  obtain ⟨M, hM⟩ : ∃ M : Nat, M = 17 := ⟨_, rfl⟩
  have HM : Hid (M = 17) := hM
  clear hM
  clear hP hH hQ hI
  go_enter Try.func28, Try.ntmps28
  go_upto_region 1 with fail
  rw [← hW, ← hC, ← hC1]
  clear hW hC hC1
  have s1 := HO.out.2.1.cell (i := 1) rfl
  have s2 := HO.out.2.1.cell (i := 2) rfl
  go_wp2
  clear s1 s2
  go_loopw [5, 6, 16] (fun p h i wr => ∃ k : Nat, k ≤ M ∧ i = .int .i64 k ∧ Gr W 55 a1 n vP (-1) k p wr ∧ Gr W 59 a2 m vH (-1) k h wr ∧ Keeps (fun _ => False) W wr) (fun _ _ i _ => M - (intOf i).toNat)
  case atStart => exact ⟨0, by omega, rfl, ⟨by simpa [lkN] using HR.out.1, .inl ⟨rfl, rfl⟩⟩, ⟨by simpa [lkN] using HR.out.2.1, .inl ⟨rfl, rfl⟩⟩, Keeps.refl _ _⟩
  case round =>
    obtain ⟨k, hk, rfl, hP, hH, hK⟩ := hrel
    by_cases hlt : k < M

    · have hlt' : (k : Int) < 17 := by have := HM.out; omega
      obtain ⟨p1, W1, A1, g1, k1, kk1⟩ := hP.step 27 55 Try.underlying27 Try.info55 hK (by have := HM.out; omega)
      have hH1 := hH.other hP (by decide) kk1
      obtain ⟨h2, W2, A2, g2, k2, kk2⟩ := hH1.step 28 59 Try.underlying28 Try.info59 k1 (by have := HM.out; omega)
      have hP2 := g1.other hH1 (by decide) kk2
      obtain ⟨ck, hck⟩ : ∃ ck, (-1 : Int) - (k : Int) = ck := ⟨_, rfl⟩
      rw [hck] at A1 A2
      have wk : IntKind.i64.wrap (-1 - (k : Int)) = ck := by rw [IntKind.wrap_i64]; omega
      have HN : Hid (Gr W 55 a1 n vP (-1) (k + 1) p1 W2 ∧ Gr W 59 a2 m vH (-1) (k + 1) h2 W2 ∧ Keeps (fun _ => False) W W2) := ⟨hP2, g2, k2⟩
      have HA1 : Hid (∀ ty, (Builtin.append_ #[27, 27] ty #[u5, .slice (some ⟨wr.heap.size, 0, none⟩) 1 1]).run Try.prog (wr.alloc (.cells #[.int .i64 ck, .int .i64 0, .int .i64 0, .int .i64 0, .slice none 0 0] 55)) = .ok p1 W1) := A1
      have HA2 : Hid (∀ ty, (Builtin.append_ #[28, 28] ty #[u6, .slice (some ⟨W1.heap.size, 0, none⟩) 1 1]).run Try.prog (W1.alloc (.cells #[.int .i64 ck, .int .i64 0, .int .i64 0, .int .i64 0, .slice none 0 0] 59)) = .ok h2 W2) := A2
      clear A1 A2 g1 g2 k1 k2 kk1 kk2 hH1 hP2 hP hH hK hck
      go_wp2_with (at_builtin; go_must (refine wpList_append_run rfl (.tmp 19) (.tmp 23) 27 27 rfl u5 (.slice (some ⟨wr.heap.size, 0, none⟩) 1 1) p1 W1 rfl rfl HA1.out ?_; refine Hid.out ?_))
      unfold Hid
      clear HA1
      go_wp2_with (at_builtin; go_must (refine wpList_append_run rfl (.tmp 25) (.tmp 29) 28 28 rfl u6 (.slice (some ⟨W1.heap.size, 0, none⟩) 1 1) h2 W2 rfl rfl HA2.out ?_; refine Hid.out ?_))
      unfold Hid
      clear HA2
      go_wp2
      go_roundw
      case rel => exact ⟨k + 1, by omega, by go_num, HN.out.1, HN.out.2.1, HN.out.2.2⟩
      case measure => simp [intOf]; omega
    · obtain rfl : M = k := by omega
      have hM1 : ¬ (M : Int) < 17 := by have := HM.out; omega
      obtain ⟨p, hp⟩ : ∃ p, p = u5 := ⟨_, rfl⟩
      obtain ⟨h, hh⟩ : ∃ h, h = u6 := ⟨_, rfl⟩
      obtain ⟨WL, hWL⟩ : ∃ WL, WL = wr := ⟨_, rfl⟩
      subst hWL
      have HP : Hid (Gr W 55 a1 n vP (-1) M u5 WL ∧ Gr W 59 a2 m vH (-1) M u6 WL ∧ Keeps (fun _ => False) W WL) := ⟨hP, hH, hK⟩
      have s1 := (HO.out.2.2.kept hK fun e => e).cell (i := 1) rfl
      have s2 := (HO.out.2.2.kept hK fun e => e).cell (i := 2) rfl
      clear hP hH hK hk hlt hp hh
      go_wp2
      clear s1 s2
      go_loopw [8, 9, 36] (fun p h i wr => ∃ k : Nat, k ≤ M ∧ i = .int .i64 k ∧ Gr WL 55 d1 n2 vQ (-100) k p wr ∧ Gr WL 59 d2 m2 vI (-100) k h wr ∧ Keeps (fun _ => False) WL wr) (fun _ _ i _ => M - (intOf i).toNat)
      case atStart => exact ⟨0, by omega, rfl, ⟨by simpa [lkN] using owns_kept HR.out.2.2.1 HP.out.2.2 fun _ _ h => h, .inl ⟨rfl, rfl⟩⟩, ⟨by simpa [lkN] using owns_kept HR.out.2.2.2 HP.out.2.2 fun _ _ h => h, .inl ⟨rfl, rfl⟩⟩, Keeps.refl _ _⟩
      case round =>
        obtain ⟨k, hk, rfl, hP, hH, hK⟩ := hrel
        by_cases hlt : k < M

        · have hlt' : (k : Int) < 17 := by have := HM.out; omega
          obtain ⟨p1, W1, A1, g1, k1, kk1⟩ := hP.step 27 55 Try.underlying27 Try.info55 hK (by have := HM.out; omega)
          have hH1 := hH.other hP (by decide) kk1
          obtain ⟨h2, W2, A2, g2, k2, kk2⟩ := hH1.step 28 59 Try.underlying28 Try.info59 k1 (by have := HM.out; omega)
          have hP2 := g1.other hH1 (by decide) kk2
          obtain ⟨ck, hck⟩ : ∃ ck, (-100 : Int) - (k : Int) = ck := ⟨_, rfl⟩
          rw [hck] at A1 A2
          have wk : IntKind.i64.wrap (-100 - (k : Int)) = ck := by rw [IntKind.wrap_i64]; omega
          have HN : Hid (Gr WL 55 d1 n2 vQ (-100) (k + 1) p1 W2 ∧ Gr WL 59 d2 m2 vI (-100) (k + 1) h2 W2 ∧ Keeps (fun _ => False) WL W2) := ⟨hP2, g2, k2⟩
          have HA1 : Hid (∀ ty, (Builtin.append_ #[27, 27] ty #[u8, .slice (some ⟨wr.heap.size, 0, none⟩) 1 1]).run Try.prog (wr.alloc (.cells #[.int .i64 ck, .int .i64 0, .int .i64 0, .int .i64 0, .slice none 0 0] 55)) = .ok p1 W1) := A1
          have HA2 : Hid (∀ ty, (Builtin.append_ #[28, 28] ty #[u9, .slice (some ⟨W1.heap.size, 0, none⟩) 1 1]).run Try.prog (W1.alloc (.cells #[.int .i64 ck, .int .i64 0, .int .i64 0, .int .i64 0, .slice none 0 0] 59)) = .ok h2 W2) := A2
          clear A1 A2 g1 g2 k1 k2 kk1 kk2 hH1 hP2 hP hH hK hck
          go_wp2_with (at_builtin; go_must (refine wpList_append_run rfl (.tmp 39) (.tmp 43) 27 27 rfl u8 (.slice (some ⟨wr.heap.size, 0, none⟩) 1 1) p1 W1 rfl rfl HA1.out ?_; refine Hid.out ?_))
          unfold Hid
          clear HA1
          go_wp2_with (at_builtin; go_must (refine wpList_append_run rfl (.tmp 45) (.tmp 49) 28 28 rfl u9 (.slice (some ⟨W1.heap.size, 0, none⟩) 1 1) h2 W2 rfl rfl HA2.out ?_; refine Hid.out ?_))
          unfold Hid
          clear HA2
          go_wp2
          go_roundw
          case rel => exact ⟨k + 1, by omega, by go_num, HN.out.1, HN.out.2.1, HN.out.2.2⟩
          case measure => simp [intOf]; omega
        · obtain rfl : M = k := by omega
          have hM1 : ¬ (M : Int) < 17 := by have := HM.out; omega
          obtain ⟨WM, hWM⟩ : ∃ WM, WM = wr := ⟨_, rfl⟩
          subst hWM
          have oP := owns_kept HP.out.1.own hK fun _ _ h => h
          have oH := owns_kept HP.out.2.1.own hK fun _ _ h => h
          obtain ⟨gp, cp, rfl, cp1, cp2⟩ := own_form oP (by have := HM.out; omega)
          obtain ⟨gh, ch, rfl, ch1, ch2⟩ := own_form oH (by have := HM.out; omega)
          obtain ⟨gq, cq, rfl, cq1, cq2⟩ := own_form hP.own (by have := HM.out; omega)
          obtain ⟨gi, ci, rfl, ci1, ci2⟩ := own_form hH.own (by have := HM.out; omega)
          have HF : Hid (Keeps (fun _ => False) w WM) := (HO.out.1.trans HP.out.2.2 fun _ _ e => e).trans hK fun _ _ e => e
          have cellOf : ∀ {e : TypeId} {g N cap : Nat} {vs : List Value} {c : Int} {k : Nat}, WM.ownsRow 0 e 5 (.slice (some ⟨g, 0, none⟩) (N + M) cap) (N + M) (vs ++ lkN c M) → vs.length = N * 5 → k < M → WM.cell? ⟨g, (N + k) * 5, none⟩ = some (.int .i64 (c - k)) := fun h hv hk => own_cell h (by
            rw [List.getElem?_append_right (by rw [hv]; exact Nat.mul_le_mul_right _ (by omega)), hv, ← Nat.sub_mul, Nat.add_sub_cancel_left]
            exact lkN_get _ hk)
          have HCE : Hid (∀ k : Nat, k < M → WM.cell? ⟨gp, (n + k) * 5, none⟩ = some (.int .i64 (-1 - k)) ∧ WM.cell? ⟨gh, (m + k) * 5, none⟩ = some (.int .i64 (-1 - k)) ∧ WM.cell? ⟨gq, (n2 + k) * 5, none⟩ = some (.int .i64 (-100 - k)) ∧ WM.cell? ⟨gi, (m2 + k) * 5, none⟩ = some (.int .i64 (-100 - k))) := fun k hk =>
            ⟨cellOf oP HR.out.1.1 hk, cellOf oH HR.out.2.1.1 hk, cellOf hP.own HR.out.2.2.1.1 hk, cellOf hH.own HR.out.2.2.2.1 hk⟩
          have kL : Keeps (fun _ => False) W WM := HP.out.2.2.trans hK fun _ _ e => e
          have HS : Hid (Blk WM C [.int .i64 A, .slice a1 n n, .slice a2 m m, .int .i64 En] 30 ∧ Blk WM C1 [.int .i64 B, .slice d1 n2 n2, .slice d2 m2 m2, .int .i64 Fn] 30) := ⟨HO.out.2.1.kept kL fun e => e, HO.out.2.2.kept kL fun e => e⟩
          unfold maxLen at cp2 ch2 cq2 ci2
          have hcp : ((n + M : Nat) : Int) ≤ cp ∧ (cp : Int) ≤ 9223372036854775807 := by omega
          have hch : ((m + M : Nat) : Int) ≤ ch ∧ (ch : Int) ≤ 9223372036854775807 := by omega
          have hcq : ((n2 + M : Nat) : Int) ≤ cq ∧ (cq : Int) ≤ 9223372036854775807 := by omega
          have hci : ((m2 + M : Nat) : Int) ≤ ci ∧ (ci : Int) ≤ 9223372036854775807 := by omega
          clear hP hH hK oP oH cellOf kL HP HR HO hk hlt cp1 cp2 ch1 ch2 cq1 cq2 ci1 ci2
          go_wp2
          go_loopw [52] (fun i wr => ∃ k : Nat, k ≤ M ∧ i = .int .i64 k ∧ wr = WM) (fun i _ => M - (intOf i).toNat)
          case atStart => exact ⟨0, by omega, rfl, rfl⟩
          case round =>
            obtain ⟨k, hk, rfl, rfl⟩ := hrel
            by_cases hlt : k < M
            · obtain ⟨z1, z2, z3, z4⟩ := HCE.out k hlt
              have hlt' : (k : Int) < 17 := by have := HM.out; omega
              have s1 := HS.out.1.cell (i := 1) rfl
              have s2 := HS.out.1.cell (i := 2) rfl
              have t1 := HS.out.2.cell (i := 1) rfl
              have t2 := HS.out.2.cell (i := 2) rfl
              obtain ⟨ck, hck⟩ : ∃ ck, (-1 : Int) - (k : Int) = ck := ⟨_, rfl⟩
              obtain ⟨dk, hdk⟩ : ∃ dk, (-100 : Int) - (k : Int) = dk := ⟨_, rfl⟩
              rw [hck] at z1 z2
              rw [hdk] at z3 z4
              have wk : IntKind.i64.wrap (-1 - (k : Int)) = ck := by rw [IntKind.wrap_i64]; omega
              have wd : IntKind.i64.wrap (-100 - (k : Int)) = dk := by rw [IntKind.wrap_i64]; omega
              have e1 : IntKind.i64.wrap ((n : Int) + (k : Int)) = ((n + k : Nat) : Int) := by rw [IntKind.wrap_i64]; omega
              have e2 : IntKind.i64.wrap ((m : Int) + (k : Int)) = ((m + k : Nat) : Int) := by rw [IntKind.wrap_i64]; omega
              have e3 : IntKind.i64.wrap ((n2 : Int) + (k : Int)) = ((n2 + k : Nat) : Int) := by rw [IntKind.wrap_i64]; omega
              have e4 : IntKind.i64.wrap ((m2 : Int) + (k : Int)) = ((m2 + k : Nat) : Int) := by rw [IntKind.wrap_i64]; omega
              clear hck hdk
              go_wp2
              go_roundw
              case rel => exact ⟨k + 1, by omega, by go_num, trivial⟩
              case measure => simp [intOf]; omega
            · have hM1 : ¬ (k : Int) < 17 := by have := HM.out; omega
              go_wp2
              go_ret
              exact ⟨rfl, HF.out⟩
end Go.Proofs.Ythaoopaafdgioaa
