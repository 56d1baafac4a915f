import Derived.Test.YtnkfdmlpjgmckaaAq
namespace Go.Proofs.Ytnkfdmlpjgmckaa
open Go.RowKit
set_option linter.unusedVariables false
set_option maxRecDepth 6000

theorem markS_step {m : Spn} {L j : Nat} {x : List Spn} (hx : x.length = L) (hj : j < L) : (List.replicate j m ++ x.drop j).set j m = List.replicate (j + 1) m ++ x.drop (j + 1) := by
  have hl : (List.replicate j m).length = j := by simp
  rw [List.set_append_right _ _ (by omega), hl, Nat.sub_self, List.drop_eq_getElem_cons (by omega : j < x.length)]
  simp only [List.set_cons_zero]
  rw [List.replicate_succ']
  simp

set_option maxHeartbeats 4000000 in
theorem apartS_any (a1 a2 : Option Addr) (c1 c2 n1 n2 : Nat) (xs1 xs2 : List Spn) (hl1 : xs1.length = n1) (hl2 : xs2.length = n2) (hn1 : n1 ≤ 2147483647) (hn2 : n2 ≤ 2147483647) (w : World) (h1 : OwnS w (Value.slice a1 n1 c1) xs1) (h2 : OwnS w (Value.slice a2 n2 c2) xs2)
    (hd : ∀ k, (Value.slice a1 n1 c1).ownBlock = some k → (Value.slice a2 n2 c2).ownBlock ≠ some k) :
    Calls Try.prog 20 #[Value.slice a1 n1 c1, Value.slice a2 n2 c2] w fun e w' => e = .returned (.bool true) ∧ Keeps (fun k => some k = (Value.slice a1 n1 c1).ownBlock ∨ some k = (Value.slice a2 n2 c2).ownBlock) w w' := by
  have HH : Hid (xs1.length = n1 ∧ xs2.length = n2) := ⟨hl1, hl2⟩
  have HD : Hid (∀ k, (Value.slice a1 n1 c1).ownBlock = some k → (Value.slice a2 n2 c2).ownBlock ≠ some k) := hd
  have HP : Hid (OwnS w (Value.slice a1 n1 c1) xs1 ∧ OwnS w (Value.slice a2 n2 c2) xs2) := ⟨h1, h2⟩
  have hb1 : (n1 : Int) ≤ c1 ∧ (c1 : Int) ≤ 9223372036854775807 := by obtain ⟨a', c', e', hc, _⟩ := ownS_seg h1; rw [hl1] at e' hc; cases e'; unfold maxLen at hc; omega
  have hb2 : (n2 : Int) ≤ c2 ∧ (c2 : Int) ≤ 9223372036854775807 := by obtain ⟨a', c', e', hc, _⟩ := ownS_seg h2; rw [hl2] at e' hc; cases e'; unfold maxLen at hc; omega
  clear h1 h2 hd hl1 hl2
  go_enter Try.func20, Try.ntmps20
  go_wp2
  go_loopw [5] (fun k wr => ∃ j : Nat, j ≤ n1 ∧ k = .int .i64 j ∧ OwnS wr (Value.slice a1 n1 c1) (List.replicate j ⟨-1, 0, 0, 0⟩ ++ xs1.drop j) ∧ OwnS wr (Value.slice a2 n2 c2) (xs2) ∧ Keeps (fun k => some k = (Value.slice a1 n1 c1).ownBlock ∨ some k = (Value.slice a2 n2 c2).ownBlock) w wr) (fun k _ => n1 - (intOf k).toNat)
  case atStart => exact ⟨0, by omega, rfl, by simpa using HP.out.1, HP.out.2, Keeps.refl _ _⟩
  case round =>
    obtain ⟨j, hj, rfl, hO1, hO2, hK⟩ := hrel
    clear HP
    by_cases hlt : j < n1
    · have hlen : (List.replicate j (⟨-1, 0, 0, 0⟩ : Spn) ++ xs1.drop j).length = n1 := by rw [List.length_append, List.length_replicate, List.length_drop]; have := HH.out.1; omega
      obtain ⟨a', c', e', _, _, hg'⟩ := ownS_seg hO1
      rw [hlen] at e'
      cases e'
      obtain ⟨g, rfl⟩ := hg' (by intro h0; rw [h0] at hlen; simp at hlen; omega)
      obtain ⟨l, hB, hln⟩ := ownS_blk hlen hO1
      have cc : ∀ k, k < 4 → ∃ v, wr.cell? ⟨g, j * 4 + k, none⟩ = some v := fun k hk => ⟨_, hB.cell (List.getElem?_eq_getElem (by omega))⟩
      obtain ⟨v0, d0⟩ := cc 0 (by omega)
      obtain ⟨v1, d1⟩ := cc 1 (by omega)
      obtain ⟨v2, d2⟩ := cc 2 (by omega)
      obtain ⟨v3, d3⟩ := cc 3 (by omega)
      rw [Nat.add_zero] at d0
      have f0 := hB.frozen (j * 4)
      have f1 := hB.frozen (j * 4 + 1)
      have f2 := hB.frozen (j * 4 + 2)
      have f3 := hB.frozen (j * 4 + 3)
      have hN1 := ownS_set hlen hO1 j ⟨-1, 0, 0, 0⟩ hlt
      rw [show (List.replicate j (⟨-1, 0, 0, 0⟩ : Spn) ++ xs1.drop j).set j ⟨-1, 0, 0, 0⟩ = List.replicate (j + 1) ⟨-1, 0, 0, 0⟩ ++ xs1.drop (j + 1) from markS_step HH.out.1 hlt] at hN1
      have hK0 : Keeps (fun b => b = g) wr wr := Keeps.refl _ _
      have hK1 := hK0.setCell ⟨g, j * 4, none⟩ (.int .i64 (-1)) (fun _ => rfl)
      have hK2 := hK1.setCell ⟨g, j * 4 + 1, none⟩ (.int .i64 0) (fun _ => rfl)
      have hK3 := hK2.setCell ⟨g, j * 4 + 2, none⟩ (.int .i64 0) (fun _ => rfl)
      have hKs := hK3.setCell ⟨g, j * 4 + 3, none⟩ (.int .i64 0) (fun _ => rfl)
      clear hK0 hK1 hK2 hK3
      have hN2 := owns_kept hO2 hKs fun k hk e => by subst e; exact HD.out k rfl hk
      have hN3 := hK.trans hKs fun b _ e => by exact Or.inl (by rw [e]; rfl)
      have HN : Hid (_ ∧ _ ∧ _) := ⟨hN1, hN2, hN3⟩
      clear hO1 hO2 hK hB hln cc hN1 hN2 hN3 hKs hlen
      go_wp2
      go_roundw
      case rel => exact ⟨j + 1, by omega, by go_num, HN.out.1, HN.out.2.1, HN.out.2.2⟩
      case measure => simp [intOf]; omega
    · obtain rfl : j = n1 := by omega
      rw [List.drop_of_length_le (by rw [HH.out.1]; exact Nat.le_refl _), List.append_nil] at hO1
      have HP : Hid (OwnS wr (Value.slice a1 j c1) (List.replicate j ⟨-1, 0, 0, 0⟩) ∧ OwnS wr (Value.slice a2 n2 c2) xs2 ∧ Keeps (fun k => some k = (Value.slice a1 j c1).ownBlock ∨ some k = (Value.slice a2 n2 c2).ownBlock) w wr) := ⟨hO1, hO2, hK⟩
      clear hO1 hO2 hK
      obtain ⟨n1, rfl⟩ : ∃ n1, n1 = j := ⟨_, rfl⟩
      obtain ⟨wz, hwz⟩ : ∃ wz, wz = wr := ⟨_, rfl⟩
      subst hwz
      go_wp2
      go_loopw [6] (fun k wr => ∃ j : Nat, j ≤ n2 ∧ k = .int .i64 j ∧ OwnS wr (Value.slice a2 n2 c2) (List.replicate j ⟨-2, 0, 0, 0⟩ ++ xs2.drop j) ∧ OwnS wr (Value.slice a1 n1 c1) (List.replicate n1 ⟨-1, 0, 0, 0⟩) ∧ Keeps (fun k => some k = (Value.slice a1 n1 c1).ownBlock ∨ some k = (Value.slice a2 n2 c2).ownBlock) w wr) (fun k _ => n2 - (intOf k).toNat)
      case atStart => exact ⟨0, by omega, rfl, by simpa using HP.out.2.1, HP.out.1, HP.out.2.2⟩
      case round =>
        obtain ⟨j, hj, rfl, hO1, hO2, hK⟩ := hrel
        clear HP
        by_cases hlt : j < n2
        · have hlen : (List.replicate j (⟨-2, 0, 0, 0⟩ : Spn) ++ xs2.drop j).length = n2 := by rw [List.length_append, List.length_replicate, List.length_drop]; have := HH.out.2; omega
          obtain ⟨a', c', e', _, _, hg'⟩ := ownS_seg hO1
          rw [hlen] at e'
          cases e'
          obtain ⟨g, rfl⟩ := hg' (by intro h0; rw [h0] at hlen; simp at hlen; omega)
          obtain ⟨l, hB, hln⟩ := ownS_blk hlen hO1
          have cc : ∀ k, k < 4 → ∃ v, wr.cell? ⟨g, j * 4 + k, none⟩ = some v := fun k hk => ⟨_, hB.cell (List.getElem?_eq_getElem (by omega))⟩
          obtain ⟨v0, d0⟩ := cc 0 (by omega)
          obtain ⟨v1, d1⟩ := cc 1 (by omega)
          obtain ⟨v2, d2⟩ := cc 2 (by omega)
          obtain ⟨v3, d3⟩ := cc 3 (by omega)
          rw [Nat.add_zero] at d0
          have f0 := hB.frozen (j * 4)
          have f1 := hB.frozen (j * 4 + 1)
          have f2 := hB.frozen (j * 4 + 2)
          have f3 := hB.frozen (j * 4 + 3)
          have hN1 := ownS_set hlen hO1 j ⟨-2, 0, 0, 0⟩ hlt
          rw [show (List.replicate j (⟨-2, 0, 0, 0⟩ : Spn) ++ xs2.drop j).set j ⟨-2, 0, 0, 0⟩ = List.replicate (j + 1) ⟨-2, 0, 0, 0⟩ ++ xs2.drop (j + 1) from markS_step HH.out.2 hlt] at hN1
          have hK0 : Keeps (fun b => b = g) wr wr := Keeps.refl _ _
          have hK1 := hK0.setCell ⟨g, j * 4, none⟩ (.int .i64 (-2)) (fun _ => rfl)
          have hK2 := hK1.setCell ⟨g, j * 4 + 1, none⟩ (.int .i64 0) (fun _ => rfl)
          have hK3 := hK2.setCell ⟨g, j * 4 + 2, none⟩ (.int .i64 0) (fun _ => rfl)
          have hKs := hK3.setCell ⟨g, j * 4 + 3, none⟩ (.int .i64 0) (fun _ => rfl)
          clear hK0 hK1 hK2 hK3
          have hN2 := owns_kept hO2 hKs fun k hk e => by subst e; exact HD.out k hk rfl
          have hN3 := hK.trans hKs fun b _ e => by exact Or.inr (by rw [e]; rfl)
          have HN : Hid (_ ∧ _ ∧ _) := ⟨hN1, hN2, hN3⟩
          clear hO1 hO2 hK hB hln cc hN1 hN2 hN3 hKs hlen
          go_wp2
          go_roundw
          case rel => exact ⟨j + 1, by omega, by go_num, HN.out.1, HN.out.2.1, HN.out.2.2⟩
          case measure => simp [intOf]; omega
        · obtain rfl : j = n2 := by omega
          rw [List.drop_of_length_le (by rw [HH.out.2]; exact Nat.le_refl _), List.append_nil] at hO1
          have HP : Hid (OwnS wr (Value.slice a1 n1 c1) (List.replicate n1 ⟨-1, 0, 0, 0⟩) ∧ OwnS wr (Value.slice a2 j c2) (List.replicate j ⟨-2, 0, 0, 0⟩) ∧ Keeps (fun k => some k = (Value.slice a1 n1 c1).ownBlock ∨ some k = (Value.slice a2 j c2).ownBlock) w wr) := ⟨hO2, hO1, hK⟩
          clear hO1 hO2 hK
          obtain ⟨n2, rfl⟩ : ∃ n2, n2 = j := ⟨_, rfl⟩
          have sg : ∀ (w' : World) (a : Option Addr) (n c : Nat) (m : Spn), OwnS w' (Value.slice a n c) (List.replicate n m) → SegA Spn.vs 4 w' a (List.replicate n m) := by
            intro w' a n c m ho
            obtain ⟨a', c', e', _, hs, _⟩ := ownS_seg ho
            rw [List.length_replicate] at e'
            cases e'
            exact hs
          have HM1 : Hid (Calls Try.prog 41 #[Value.slice a1 n1 c1, .int .i64 (-3)] wr fun e w' => ∃ u', e = .returned u' ∧ OwnS w' u' (List.replicate n1 ⟨-1, 0, 0, 0⟩ ++ List.replicate 17 ⟨-3, 0, 0, 0⟩) ∧ Grew wr (Value.slice a1 n1 c1) w' u' ∧ SegA Spn.vs 4 w' a1 (List.replicate n1 ⟨-1, 0, 0, 0⟩)) := by
            have h := marked_any a1 c1 (List.replicate n1 ⟨-1, 0, 0, 0⟩) (-3) wr (by rw [List.length_replicate]; exact HP.out.1) (sg _ _ _ _ _ HP.out.1) (by rw [List.length_replicate]; exact hn1)
            rw [List.length_replicate] at h
            exact h
          have HSG : Hid (∀ (w' : World) (a : Option Addr) (n c : Nat) (m : Spn), OwnS w' (Value.slice a n c) (List.replicate n m) → SegA Spn.vs 4 w' a (List.replicate n m)) := sg
          clear sg
          go_wp2_with fail
          refine HM1.out.mono ?_
          rintro e w4 ⟨u1, rfl, ho1, hg1, hs1⟩
          have hk2 : OwnS w4 (Value.slice a2 n2 c2) (List.replicate n2 ⟨-2, 0, 0, 0⟩) := owns_kept HP.out.2.1 hg1.keeps fun k hk e => HD.out k e.symm hk
          have H4 : Hid (OwnS w4 u1 (List.replicate n1 ⟨-1, 0, 0, 0⟩ ++ List.replicate 17 ⟨-3, 0, 0, 0⟩) ∧ Grew wr (Value.slice a1 n1 c1) w4 u1 ∧ SegA Spn.vs 4 w4 a1 (List.replicate n1 ⟨-1, 0, 0, 0⟩) ∧ OwnS w4 (Value.slice a2 n2 c2) (List.replicate n2 ⟨-2, 0, 0, 0⟩)) := ⟨ho1, hg1, hs1, hk2⟩
          clear ho1 hg1 hs1 hk2 HM1
          have HM2 : Hid (Calls Try.prog 41 #[Value.slice a2 n2 c2, .int .i64 (-4)] w4 fun e w' => ∃ u', e = .returned u' ∧ OwnS w' u' (List.replicate n2 ⟨-2, 0, 0, 0⟩ ++ List.replicate 17 ⟨-4, 0, 0, 0⟩) ∧ Grew w4 (Value.slice a2 n2 c2) w' u' ∧ SegA Spn.vs 4 w' a2 (List.replicate n2 ⟨-2, 0, 0, 0⟩)) := by
            have h := marked_any a2 c2 (List.replicate n2 ⟨-2, 0, 0, 0⟩) (-4) w4 (by rw [List.length_replicate]; exact H4.out.2.2.2) (HSG.out _ _ _ _ _ H4.out.2.2.2) (by rw [List.length_replicate]; exact hn2)
            rw [List.length_replicate] at h
            exact h
          go_wp2_with fail
          refine HM2.out.mono ?_
          rintro e w5 ⟨u2, rfl, ho2, hg2, hs2⟩
          have hne : ∀ k, u1.ownBlock = some k → (Value.slice a2 n2 c2).ownBlock ≠ some k := by
            intro k hk hk2
            rcases H4.out.2.1.fresh with e1 | ⟨m, e1, hm⟩
            · rw [e1] at hk; exact HD.out k hk hk2
            · rw [e1] at hk; cases hk
              have := (World.ownsRow.lt HP.out.2.1 _ hk2).2
              omega
          have hk1 : OwnS w5 u1 (List.replicate n1 ⟨-1, 0, 0, 0⟩ ++ List.replicate 17 ⟨-3, 0, 0, 0⟩) := owns_kept H4.out.1 hg2.keeps fun k hk e => hne k hk e.symm
          have hks : SegA Spn.vs 4 w5 a1 (List.replicate n1 ⟨-1, 0, 0, 0⟩) := H4.out.2.2.1.kept hg2.keeps fun _ y hy e => by
            rw [hy] at HD; exact HD.out y.block rfl e.symm
          have hKK : Keeps (fun k => some k = (Value.slice a1 n1 c1).ownBlock ∨ some k = (Value.slice a2 n2 c2).ownBlock) w w5 := (HP.out.2.2.trans H4.out.2.1.keeps fun b _ e => Or.inl e).trans hg2.keeps fun b _ e => Or.inr e
          have hgt : ∀ (n : Nat) (p q : Spn) (i : Nat) (s : Spn), n ≤ i → (List.replicate n p ++ List.replicate 17 q)[i]? = some s → s = q := by
            intro n p q i s hi hs
            rw [List.getElem?_append_right (by simpa using hi)] at hs
            exact List.eq_of_mem_replicate (List.mem_of_getElem? hs)
          have hgt1 := hgt n1 ⟨-1, 0, 0, 0⟩ ⟨-3, 0, 0, 0⟩
          have hgt2 := hgt n2 ⟨-2, 0, 0, 0⟩ ⟨-4, 0, 0, 0⟩
          have hln1 : (List.replicate n1 (⟨-1, 0, 0, 0⟩ : Spn) ++ List.replicate 17 (⟨-3, 0, 0, 0⟩ : Spn)).length = n1 + 17 := by rw [List.length_append, List.length_replicate, List.length_replicate]
          have hln2 : (List.replicate n2 (⟨-2, 0, 0, 0⟩ : Spn) ++ List.replicate 17 (⟨-4, 0, 0, 0⟩ : Spn)).length = n2 + 17 := by rw [List.length_append, List.length_replicate, List.length_replicate]
          generalize (List.replicate n1 (⟨-1, 0, 0, 0⟩ : Spn) ++ List.replicate 17 (⟨-3, 0, 0, 0⟩ : Spn)) = ls1 at hk1 hgt1 hln1
          generalize (List.replicate n2 (⟨-2, 0, 0, 0⟩ : Spn) ++ List.replicate 17 (⟨-4, 0, 0, 0⟩ : Spn)) = ls2 at ho2 hgt2 hln2
          obtain ⟨a3, c3, e3, hc3, hs3, _⟩ := ownS_seg hk1
          obtain ⟨a4, c4, e4, hc4, hs4, _⟩ := ownS_seg ho2
          have B1 : Hid (Calls Try.prog 42 #[Value.slice a1 n1 c1, .int .i64 (0 : Nat), .int .i64 n1, .int .i64 (-1)] w5 fun e w' => e = .returned (.bool true) ∧ w' = w5) := by
            have h := allS_any a1 c1 (List.replicate n1 ⟨-1, 0, 0, 0⟩) 0 n1 (-1) w5 hks (by rw [List.length_replicate]; unfold maxLen; omega) (by omega) (by simp) (fun i s _ _ hs => by rw [List.eq_of_mem_replicate (List.mem_of_getElem? hs)])
            rw [List.length_replicate] at h
            exact h
          have B2 : Hid (Calls Try.prog 42 #[Value.slice a2 n2 c2, .int .i64 (0 : Nat), .int .i64 n2, .int .i64 (-2)] w5 fun e w' => e = .returned (.bool true) ∧ w' = w5) := by
            have h := allS_any a2 c2 (List.replicate n2 ⟨-2, 0, 0, 0⟩) 0 n2 (-2) w5 hs2 (by rw [List.length_replicate]; unfold maxLen; omega) (by omega) (by simp) (fun i s _ _ hs => by rw [List.eq_of_mem_replicate (List.mem_of_getElem? hs)])
            rw [List.length_replicate] at h
            exact h
          have B3 : Hid (Calls Try.prog 42 #[Value.slice a3 (n1 + 17) c3, .int .i64 n1, .int .i64 ((n1 + 17 : Nat) : Int), .int .i64 (-3)] w5 fun e w' => e = .returned (.bool true) ∧ w' = w5) := by
            have h := allS_any a3 c3 ls1 n1 (n1 + 17) (-3) w5 hs3 hc3 (by omega) (by omega) (fun i s h1 _ hs => by rw [hgt1 i s h1 hs])
            rw [hln1] at h
            exact h
          have B4 : Hid (Calls Try.prog 42 #[Value.slice a4 (n2 + 17) c4, .int .i64 n2, .int .i64 ((n2 + 17 : Nat) : Int), .int .i64 (-4)] w5 fun e w' => e = .returned (.bool true) ∧ w' = w5) := by
            have h := allS_any a4 c4 ls2 n2 (n2 + 17) (-4) w5 hs4 hc4 (by omega) (by omega) (fun i s h1 _ hs => by rw [hgt2 i s h1 hs])
            rw [hln2] at h
            exact h
          rw [hln1] at e3
          rw [hln2] at e4
          have e3' : u1 = .slice a3 (n1 + 17) c3 := e3
          have e4' : u2 = .slice a4 (n2 + 17) c4 := e4
          have HKK : Hid (Keeps (fun k => some k = (Value.slice a1 n1 c1).ownBlock ∨ some k = (Value.slice a2 n2 c2).ownBlock) w w5) := hKK
          clear hKK hk1 hks hs3 hs4 ho2 hg2 hs2 hne hgt hgt1 hgt2 hln1 hln2 hc3 hc4 e3 e4 H4 HM2 HSG
          subst e3' e4'
          go_wp2_with fail
          refine B1.out.mono ?_
          rintro e w6 ⟨rfl, hw⟩
          obtain rfl := hw.symm
          go_wp2_with fail
          refine B2.out.mono ?_
          rintro e w6 ⟨rfl, hw⟩
          obtain rfl := hw.symm
          go_wp2_with fail
          refine B3.out.mono ?_
          rintro e w6 ⟨rfl, hw⟩
          obtain rfl := hw.symm
          go_wp2_with fail
          refine B4.out.mono ?_
          rintro e w6 ⟨rfl, hw⟩
          obtain rfl := hw.symm
          go_wp2
          go_ret
          exact ⟨rfl, HKK.out⟩
end Go.Proofs.Ytnkfdmlpjgmckaa
