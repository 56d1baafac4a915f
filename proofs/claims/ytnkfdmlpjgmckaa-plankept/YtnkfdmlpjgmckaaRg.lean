import Derived.Test.YtnkfdmlpjgmckaaRs
namespace Go.Proofs.Ytnkfdmlpjgmckaa
open Go.RowKit
set_option linter.unusedVariables false
set_option linter.unusedSimpArgs false
set_option maxRecDepth 6000

theorem gapL_step {l : List Spn} {g0 : Int} {j : Nat} {c d : Spn} (hc : l[j]? = some c) (hd : l[j + 1]? = some d) : gapL l g0 (j + 2) = max (gapL l g0 (j + 1)) (d.fr - c.til) := by
  show max (gapL l g0 (j + 1)) ((l[j + 1]?.getD ⟨0, 0, 0, 0⟩).fr - (l[j]?.getD ⟨0, 0, 0, 0⟩).til) = _
  rw [hc, hd]; rfl

set_option maxHeartbeats 4000000 in
theorem rgap_any (x : Cfg) (p : Int) (w : World) (N : Nat) (hi : x.In w N) (hN : N ≤ w.heap.size) (ht : tot x.cs x.cs.length ≤ 2147483647) :
    Calls Try.prog 30 #[x.v, .int .i64 p] w (GpP w x p) := by
  obtain ⟨W, hW⟩ : ∃ W, W = x.laid w := ⟨_, rfl⟩
  obtain ⟨C, hC⟩ : ∃ C, C = w.heap.size := ⟨_, rfl⟩
  have HO : Hid (One w x C N W ∧ tot x.cs x.cs.length ≤ 2147483647) := by rw [hW, hC]; exact ⟨One.mk' hi hN, ht⟩
  clear hi hN ht
  unfold Cfg.laid at hW
  go_enter Try.func30, Try.ntmps30
  go_wp2_with fail
  rw [← hW, ← hC]
  clear hW hC
  refine (usable_any x p W N HO.out.1.cin HO.out.1.nn HO.out.2).mono ?_
  rintro e w1 ⟨r, er, rfl, hR, hK⟩
  have HO1 : Hid (One w x C N w1) := HO.out.1.kept hK
  clear hK
  unfold UsR at hR
  by_cases hp : 0 ≤ p ∧ p < x.ps.length
  · rw [if_pos hp] at hR
    by_cases hf : fills x.major x.cs = true
    · rw [if_pos hf] at hR
      obtain ⟨rfl, rfl⟩ := hR
      have hmj : 1 ≤ x.major ∧ x.major ≤ 16384 := by unfold fills at hf; simp at hf; exact hf.1
      have HR : Hid (∀ r e, GpL (pickAll p x.cs x.cs.length) x.major r e → GpR x p r e) := by intro r e h; unfold GpR; rw [if_pos hp, if_pos hf]; exact h
      obtain ⟨U, hU⟩ : ∃ U, useAll p x.cs x.cs.length = U := ⟨_, rfl⟩
      rw [hU]
      have HF : Hid (fills x.major x.cs = true ∧ (0 ≤ p ∧ p < x.ps.length)) := ⟨hf, hp⟩
      obtain ⟨c0, c1, c2, c3, c4, c5, c6⟩ := HO1.out.cells
      clear hp hf hU
      go_wp2_with fail
      refine (rspans_any x p w1 N HO1.out.cin HO1.out.nn HO.out.2).mono ?_
      rintro e w3 ⟨hK, hsp⟩
      rcases hsp with ⟨hn, _⟩ | ⟨_, ⟨hn, _⟩ | ⟨_, u, rfl, hRow⟩⟩
      · exact (hn HF.out.2).elim
      · rw [fills_may HF.out.1] at hn; cases hn
      obtain ⟨ad, cp, rfl, hLst⟩ := hRow.lst
      obtain ⟨l, hl⟩ : ∃ l, pickAll p x.cs x.cs.length = l := ⟨_, rfl⟩
      have hsm := fun i s => pickAll_small (p := p) (fills_may HF.out.1) (i := i) (s := s)
      have hso := fun i j a b => pickAll_sorted (p := p) (cs := x.cs) x.cs.length (i := i) (j := j) (a := a) (b := b)
      have hnt : l.length ≤ 2147483647 := by have h1 := pickAll_len p x.cs x.cs.length; have := HO.out.2; rw [hl] at h1; omega
      rw [hl] at hLst HR hsm hso ⊢
      obtain ⟨n, hn⟩ : ∃ n, l.length = n := ⟨_, rfl⟩
      have HU : Hid (l.length = n ∧ (∀ (i : Nat) (s : Spn), l[i]? = some s → 0 ≤ s.fr ∧ s.fr ≤ 524288 ∧ 0 ≤ s.til ∧ s.til ≤ 524288) ∧ (∀ (i j : Nat) (a b : Spn), i ≤ j → l[i]? = some a → l[j]? = some b → a.core ≤ b.core)) := ⟨hn, hsm, hso⟩
      have hcp : (n : Int) ≤ cp ∧ (cp : Int) ≤ 9223372036854775807 := by have := hLst.len; unfold maxLen at this; omega
      have HO3 : Hid (One w x C N w3 ∧ SegA Spn.vs 4 w3 ad l) := ⟨HO1.out.kept hK, hLst.seg⟩
      rw [hn] at hnt ⊢
      clear hK c0 c1 c2 c3 c4 c5 c6 hRow hLst hn hsm hso hl
      have c1 := HO3.out.1.cells.2.1
      by_cases h0 : n = 0
      · subst h0
        go_wp2
        go_ret2
        exact ⟨x.major, 0, rfl, HR.out _ _ (.inl ⟨List.eq_nil_of_length_eq_zero HU.out.1, rfl, rfl⟩), HO3.out.1.keeps⟩
      · have h0' : ((n : Int) == 0) = false := by simp; omega
        obtain ⟨a, ha⟩ : ∃ a, l[0]? = some a := ⟨_, List.getElem?_eq_getElem (by have := HU.out.1; omega)⟩
        obtain ⟨b, hb⟩ : ∃ b, l[n - 1]? = some b := ⟨_, List.getElem?_eq_getElem (by have := HU.out.1; omega)⟩
        have HAB : Hid (l[0]? = some a ∧ l[n - 1]? = some b) := ⟨ha, hb⟩
        obtain ⟨g, o, rfl, h1⟩ := HO3.out.2.at ha
        obtain ⟨g1, o1, e1, h2⟩ := HO3.out.2.at hb
        cases e1
        have a2 := h1 2 _ rfl
        have b3 := h2 3 _ rfl
        simp only [Nat.zero_mul, Nat.add_zero] at a2
        have hsa := HU.out.2.1 0 a ha
        have hsb := HU.out.2.1 (n - 1) b hb
        have q0 : IntKind.i64.wrap ((n : Int) - 1) = ((n - 1 : Nat) : Int) := by rw [IntKind.wrap_i64]; omega
        have q1 : IntKind.i64.wrap (a.fr + x.major) = a.fr + x.major := by rw [IntKind.wrap_i64]; omega
        obtain ⟨G0, hG0⟩ : ∃ G0, a.fr + x.major - b.til = G0 := ⟨_, rfl⟩
        have q2 : IntKind.i64.wrap (a.fr + x.major - b.til) = G0 := by rw [hG0, IntKind.wrap_i64]; omega
        have HG0 : Hid (a.fr + x.major - b.til = G0) := hG0
        have hx1 : ((n - 1 : Nat) : Int) < n := by omega
        have hx3 : (0 : Int) < n := by omega
        clear ha hb h1 h2 hG0
        go_upto_region 7 with fail
        go_quiet (fail)
        clear a2 b3 c1 q0 q1 q2
        obtain ⟨W4, hW4⟩ : ∃ W4, W4 = w3.drewN nq := ⟨_, rfl⟩
        have HO4 : Hid (One w x C N W4 ∧ SegA Spn.vs 4 W4 (some ⟨g, o, none⟩) l) := by rw [hW4]; exact ⟨HO3.out.1.kept ((Keeps.refl _ _).drewN _), HO3.out.2.kept ((Keeps.refl (fun _ => False) _).drewN _) (fun _ _ _ h => h)⟩
        rw [← hW4]
        clear hW4 HO3
        go_wp2
        go_loopw [10, 11] (fun z i wr => ∃ j : Nat, j ≤ n ∧ i = .int .i64 j ∧ z = .int .i64 (gapL l G0 j) ∧ (∀ (i : Nat) (c : Spn), i < j → l[i]? = some c → c.core = a.core) ∧ One w x C N wr ∧ SegA Spn.vs 4 wr (some ⟨g, o, none⟩) l) (fun _ i _ => n - (intOf i).toNat)
        case atStart => exact ⟨0, by omega, rfl, rfl, fun i c h => absurd h (Nat.not_lt_zero _), HO4.out.1, HO4.out.2⟩
        case round =>
          obtain ⟨j, hj, rfl, rfl, hall, hO, hS⟩ := hrel
          clear HO4
          by_cases hlt : j < n
          · obtain ⟨c, hc⟩ : ∃ c, l[j]? = some c := ⟨_, List.getElem?_eq_getElem (by have := HU.out.1; omega)⟩
            have hsc := HU.out.2.1 j c hc
            obtain ⟨g1, o1, e1, h1⟩ := hS.at hc
            cases e1
            obtain ⟨g1, o1, e1, h2⟩ := hS.at HAB.out.1
            cases e1
            have s0 := h1 0 _ rfl
            have z0 := h2 0 _ rfl
            simp only [Nat.zero_mul, Nat.add_zero] at s0 z0
            have HK : Hid (One w x C N wr ∧ SegA Spn.vs 4 wr (some ⟨g, o, none⟩) l ∧ l[j]? = some c ∧ (∀ (i : Nat) (c : Spn), i < j → l[i]? = some c → c.core = a.core)) := ⟨hO, hS, hc, hall⟩
            have hlt' : (j : Int) < n := by omega
            clear hO hS hc hall h1 h2
            by_cases hca : c.core = a.core
            · have hca' : (c.core != a.core) = false := by simp [hca]
              go_upto_region 11 with fail
              go_quiet (fail)
              clear s0 z0
              obtain ⟨W5, hW5⟩ : ∃ W5, W5 = wr.drewN nq := ⟨_, rfl⟩
              have HO5 : Hid (One w x C N W5 ∧ SegA Spn.vs 4 W5 (some ⟨g, o, none⟩) l) := by rw [hW5]; exact ⟨HK.out.1.kept ((Keeps.refl _ _).drewN _), HK.out.2.1.kept ((Keeps.refl (fun _ => False) _).drewN _) (fun _ _ _ h => h)⟩
              rw [← hW5]
              clear hW5
              have HALL : Hid (∀ (i : Nat) (c : Spn), i < j + 1 → l[i]? = some c → c.core = a.core) := by
                intro i d hi hd
                by_cases e : i = j
                · subst e
                  have := HK.out.2.2.1
                  rw [hd] at this
                  cases this
                  exact hca
                · exact HK.out.2.2.2 i d (by omega) hd
              obtain ⟨M, hM⟩ : ∃ M, gapL l G0 j = M := ⟨_, rfl⟩
              rw [hM]
              cases j with
              | zero =>
                have HM : Hid (gapL l G0 1 = M) := hM
                have hjz : decide ((0 : Int) < ((0 : Nat) : Int)) = false := by simp
                go_upto_region 13 with fail
                go_quiet (fail)
                go_wp2
                go_roundw
                case rel => exact ⟨1, by omega, by go_num, by rw [HM.out], HALL.out, HO5.out.1.kept ((Keeps.refl _ _).drewN _), HO5.out.2.kept ((Keeps.refl (fun _ => False) _).drewN _) (fun _ _ _ h => h)⟩
                case measure => simp [intOf]; omega
              | succ j =>
                obtain ⟨d, hd⟩ : ∃ d, l[j]? = some d := ⟨_, List.getElem?_eq_getElem (by have := HU.out.1; omega)⟩
                have hsd := HU.out.2.1 j d hd
                have HM : Hid (gapL l G0 (j + 2) = max M (c.fr - d.til)) := by rw [← hM]; exact gapL_step hd HK.out.2.2.1
                obtain ⟨g1, o1, e1, h1⟩ := HO5.out.2.at HK.out.2.2.1
                cases e1
                obtain ⟨g1, o1, e1, h2⟩ := HO5.out.2.at hd
                cases e1
                have s2 := h1 2 _ rfl
                have z3 := h2 3 _ rfl
                have q3 : IntKind.i64.wrap (c.fr - d.til) = c.fr - d.til := by rw [IntKind.wrap_i64]; omega
                obtain ⟨J, hJ⟩ : ∃ J, j + 1 = J := ⟨_, rfl⟩
                have q4 : IntKind.i64.wrap ((J : Int) - 1) = (j : Int) := by rw [IntKind.wrap_i64]; omega
                have hJ1 : decide (0 < J) = true := by simp; omega
                have hJ2 : 0 < J := by omega
                have HJ : Hid (j + 1 = J) := hJ
                have hj1 : (j : Int) < n := by omega
                have hj2 : (J : Int) < n := by omega
                have HD : Hid (l[j]? = some d) := hd
                rw [hJ] at s2
                have hjJ : j + 1 + 1 = J + 1 := by omega
                rw [hJ]
                clear h1 h2 hM hd hJ hjJ
                by_cases hgt : M < c.fr - d.til
                · have hgt' : decide (M < c.fr - d.til) = true := by simp [hgt]
                  go_upto_region 13 with fail
                  go_quiet (fail)
                  obtain ⟨W6, hW6⟩ : ∃ W6, W6 = W5.drewN nq := ⟨_, rfl⟩
                  have HO6 : Hid (One w x C N W6 ∧ SegA Spn.vs 4 W6 (some ⟨g, o, none⟩) l) := by rw [hW6]; exact ⟨HO5.out.1.kept ((Keeps.refl _ _).drewN _), HO5.out.2.kept ((Keeps.refl (fun _ => False) _).drewN _) (fun _ _ _ h => h)⟩
                  rw [← hW6]
                  clear hW6 s2 z3
                  obtain ⟨g1, o1, e1, h1⟩ := HO6.out.2.at HK.out.2.2.1
                  cases e1
                  obtain ⟨g1, o1, e1, h2⟩ := HO6.out.2.at HD.out
                  cases e1
                  have s2 := h1 2 _ rfl
                  have z3 := h2 3 _ rfl
                  rw [HJ.out] at s2
                  clear h1 h2
                  go_upto_region 14 with fail
                  go_quiet (fail)
                  clear s2 z3
                  go_wp2
                  go_roundw
                  case rel => exact ⟨J + 1, by omega, by go_num, by rw [← HJ.out, HM.out]; congr 1; omega, by rw [← HJ.out]; exact HALL.out, HO6.out.1.kept ((Keeps.refl _ _).drewN _), HO6.out.2.kept ((Keeps.refl (fun _ => False) _).drewN _) (fun _ _ _ h => h)⟩
                  case measure => simp [intOf]; have := HJ.out; omega
                · have hgt' : decide (M < c.fr - d.til) = false := by simp [hgt]
                  go_upto_region 13 with fail
                  go_quiet (fail)
                  clear s2 z3
                  go_wp2
                  go_roundw
                  case rel => exact ⟨J + 1, by omega, by go_num, by rw [← HJ.out, HM.out]; congr 1; omega, by rw [← HJ.out]; exact HALL.out, HO5.out.1.kept ((Keeps.refl _ _).drewN _), HO5.out.2.kept ((Keeps.refl (fun _ => False) _).drewN _) (fun _ _ _ h => h)⟩
                  case measure => simp [intOf]; have := HJ.out; omega
            · have hca' : (c.core != a.core) = true := by simp [hca]
              have HG : Hid (GpL l x.major 0 1) := by
                have h1 := HU.out.2.2 0 j a c (by omega) HAB.out.1 HK.out.2.2.1
                have h2 := HU.out.2.2 j (n - 1) c b (by omega) HK.out.2.2.1 HAB.out.2
                exact .inr ⟨a, b, HAB.out.1, by rw [HU.out.1]; exact HAB.out.2, .inr ⟨by omega, rfl, rfl⟩⟩
              go_upto_region 11 with fail
              go_quiet (fail)
              clear s0 z0
              go_wp2
              go_ret2
              exact ⟨0, 1, rfl, HR.out _ _ HG.out, HK.out.1.keeps.drewN _⟩
          · obtain rfl : j = n := by omega
            obtain ⟨M, hM⟩ : ∃ M, gapL l G0 j = M := ⟨_, rfl⟩
            have HG : Hid (GpL l x.major M 0) := by
              have h1 := hall (j - 1) b (by omega) HAB.out.2
              exact .inr ⟨a, b, HAB.out.1, by rw [HU.out.1]; exact HAB.out.2, .inl ⟨h1.symm, by rw [HG0.out, HU.out.1]; exact hM.symm, rfl⟩⟩
            rw [hM]
            have HO5 : Hid (One w x C N wr) := hO
            clear hO hS hall hM
            go_wp2
            go_ret2
            exact ⟨M, 0, rfl, HR.out _ _ HG.out, HO5.out.keeps⟩
    · rw [if_neg hf] at hR
      obtain ⟨rfl, rfl⟩ := hR
      have HR : Hid (GpR x p 0 1) := by unfold Hid GpR; rw [if_pos hp, if_neg hf]; exact ⟨rfl, rfl⟩
      clear hp hf
      go_wp2
      go_ret2
      exact ⟨0, 1, rfl, HR.out, HO1.out.keeps⟩
  · rw [if_neg hp] at hR
    obtain ⟨rfl, rfl⟩ := hR
    have HR : Hid (GpR x p 0 142) := by unfold Hid GpR; rw [if_neg hp]; exact ⟨rfl, rfl⟩
    clear hp
    go_wp2
    go_ret2
    exact ⟨0, 142, rfl, HR.out, HO1.out.keeps⟩
end Go.Proofs.Ytnkfdmlpjgmckaa
