import Derived.Test.YtfcgpjojjehkiaaF
namespace Go.Proofs.Ytfcgpjojjehkiaa
open Go.RowKit
set_option linter.unusedVariables false

theorem box_new (w : World) (p h n : Int) : ∃ W, W = w.alloc (.cells #[.int .i64 p, .int .i64 h, .int .i64 n] 69) ∧ Keeps (fun _ => False) w W ∧ Blk W w.heap.size [.int .i64 p, .int .i64 h, .int .i64 n] 69 :=
  ⟨_, rfl, (Keeps.refl _ w).alloc _, Blk.new w _ 69⟩

set_option maxHeartbeats 400000 in
theorem right_zero (p : Int) (h n B : Nat) (l : List UInt32) (w : World) (hs : SegW w (some ⟨B, 0, none⟩) l) (hl : l.length = h + n) (hh : h = 2 ∨ h = 3) (h1 : 1 ≤ n) (h2 : n ≤ 16) (h0 : wd l 0 = 0) :
    Calls Try.prog 41 #[bxv p h n, .slice (some ⟨B, 0, none⟩) l.length l.length] w fun e w' => e = .returned (.bool (zeroB l)) ∧ Keeps (fun _ => False) w w' := by
  obtain ⟨W, hW, hK, hB⟩ := box_new w p h n
  have hs2 := hs.kept hK (fun _ _ e => e)
  have c0 := hs2.wd (j := 0) (by omega)
  have HE := empty_any (some ⟨B, 0, none⟩) l.length l W hs2 (by omega)
  have e0 : ((wd l 0).toNat : Int) = 0 := by rw [h0]; rfl
  rw [e0] at c0
  obtain ⟨L, hL⟩ : ∃ L, L = l.length := ⟨_, rfl⟩
  rw [← hL] at HE hl ⊢
  have hL0 : 0 < (L : Int) := by omega
  have HE : Hid (Calls _ _ _ _ _) := HE
  have HW : Hid (W = _ ∧ Keeps (fun _ => False) w W) := ⟨hW, hK⟩
  clear hs hs2 hK hB hl hh h1 h2 h0 e0 hL
  have c0' : (w.alloc (.cells #[.int .i64 p, .int .i64 (h : Int), .int .i64 (n : Int)] 69)).cell? ⟨B, 0, none⟩ = some (.int .u32 0) := by rw [← hW]; exact c0
  clear hW c0
  go_enter Try.func41, Try.ntmps41
  go_wp2_with fail
  rw [← HW.out.1]
  refine HE.out.mono ?_
  rintro e w1 ⟨rfl, hw⟩
  obtain rfl := hw.symm
  clear hw HE
  go_wp2
  go_ret
  exact ⟨rfl, HW.out.2⟩

/-- What the rest of right asks. -/
def restB (h n : Nat) (l : List UInt32) : Bool :=
  if wd l 0 ≠ 1 ∨ (wd l (h - 1)).toNat < 1 ∨ n < (wd l (h - 1)).toNat then false
  else zeroB (l.drop (h + (wd l (h - 1)).toNat))

set_option maxRecDepth 20000 in
set_option maxHeartbeats 1000000 in
theorem right_rest2 (p : Int) (n B : Nat) (l : List UInt32) (w : World) (hs : SegW w (some ⟨B, 0, none⟩) l) (hl : l.length = 2 + n) (h1 : 1 ≤ n) (h2 : n ≤ 16) (h0 : wd l 0 ≠ 0) :
    Calls Try.prog 41 #[bxv p 2 n, .slice (some ⟨B, 0, none⟩) l.length l.length] w fun e w' => e = .returned (.bool (restB 2 n l)) ∧ Keeps (fun _ => False) w w' := by
  obtain ⟨W, hW, hK, hB⟩ := box_new w p 2 n
  have hs2 := hs.kept hK (fun _ _ e => e)
  have c0 := hs2.wd (j := 0) (by omega)
  have c1 := hs2.wd (j := 1) (by omega)
  have cl := hs2.wd (j := 1) (by omega)
  have d1 : W.cell? ⟨w.heap.size, 1, none⟩ = some (.int .i64 2) := hB.cell rfl
  have d2 : W.cell? ⟨w.heap.size, 2, none⟩ = some (.int .i64 (n : Int)) := hB.cell rfl
  rw [Nat.zero_add] at c0 c1 cl
  have hv0 : ((wd l 0).toNat : Int) ≠ 0 := by
    have : (wd l 0).toNat ≠ 0 := fun e => h0 (UInt32.toNat_inj.1 (by simpa using e))
    omega
  have HR : Hid (restB 2 n l = (if (wd l 0).toNat ≠ 1 ∨ (wd l 1).toNat < 1 ∨ n < (wd l 1).toNat then false else zeroB (l.drop (2 + (wd l 1).toNat)))) := by
    show restB 2 n l = _
    unfold restB
    have : (wd l 0 ≠ 1) ↔ (wd l 0).toNat ≠ 1 := by
      constructor
      · intro a e; exact a (UInt32.toNat_inj.1 (by simpa using e))
      · intro a e; rw [e] at a; exact a rfl
    simp only [this]
  have HZ : ∀ k : Nat, k ≤ n → Calls Try.prog 59 #[.slice (some ⟨B, at0 (2 + n) (2 + k), none⟩) (n - k) (n - k)] W fun e w' => e = .returned (.bool (zeroB (l.drop (2 + k)))) ∧ w' = W := by
    intro k hk
    have hlen : (l.drop (2 + k)).length = n - k := by rw [List.length_drop]; omega
    have hsg : SegW W (some ⟨B, at0 (2 + n) (2 + k), none⟩) (l.drop (2 + k)) := by
      by_cases hkn : k < n
      · rw [show at0 (2 + n) (2 + k) = 2 + k from if_pos (by omega)]
        refine .inr ⟨B, 2 + k, rfl, fun j hj => ?_⟩
        rw [List.length_drop] at hj
        have := hs2.wd (j := 2 + k + j) (by omega)
        rw [Nat.zero_add] at this
        rw [this, wd_get (by omega)]
        simp
      · exact .inl (List.eq_nil_of_length_eq_zero (by omega))
    have := empty_any (some ⟨B, at0 (2 + n) (2 + k), none⟩) (n - k) _ W hsg (by omega)
    rw [hlen] at this
    exact this
  obtain ⟨v0, hv⟩ : ∃ v : Nat, v = (wd l 0).toNat := ⟨_, rfl⟩
  obtain ⟨v1, hv1⟩ : ∃ v : Nat, v = (wd l 1).toNat := ⟨_, rfl⟩
  obtain ⟨k, hk⟩ : ∃ v : Nat, v = (wd l 1).toNat := ⟨_, rfl⟩
  rw [← hv] at c0 hv0 HR
  rw [← hv1] at c1 
  rw [← hk] at cl HR
  have q0 : ((v0 : Int) == 0) = false := beq_eq_false_iff_ne.2 hv0
  rw [hl]
  obtain ⟨O, hO⟩ : ∃ O, O = w.heap.size := ⟨_, rfl⟩
  rw [← hO] at d1 d2
  have HW : Hid (W = _ ∧ Keeps (fun _ => False) w W ∧ O = w.heap.size) := ⟨hW, hK, hO⟩
  have HC : Hid (W.cell? ⟨B, 0, none⟩ = some (.int .u32 (v0 : Int)) ∧ W.cell? ⟨B, 1, none⟩ = some (.int .u32 (v1 : Int)) ∧ W.cell? ⟨B, 1, none⟩ = some (.int .u32 (k : Int)) ∧ W.cell? ⟨O, 1, none⟩ = some (.int .i64 2) ∧ W.cell? ⟨O, 2, none⟩ = some (.int .i64 (n : Int))) := ⟨c0, c1, cl, d1, d2⟩
  have c0' : (w.alloc (.cells #[.int .i64 p, .int .i64 2, .int .i64 (n : Int)] 69)).cell? ⟨B, 0, none⟩ = some (.int .u32 (v0 : Int)) := by rw [← hW]; exact c0
  have HZ : Hid (∀ k : Nat, k ≤ n → Calls Try.prog 59 #[.slice (some ⟨B, at0 (2 + n) (2 + k), none⟩) (n - k) (n - k)] W fun e w' => e = .returned (.bool (zeroB (l.drop (2 + k)))) ∧ w' = W) := HZ
  have hz4 : 1 ≤ (n : Int) := by omega
  have hz5 : (n : Int) ≤ 16 := by omega
  skip
  clear hs hs2 hK hB hl h1 h2 h0 hv0 hv hv1 hk hO hW c0 c1 cl d1 d2 
  go_enter Try.func41, Try.ntmps41
  go_wp2
  rw [← HW.out.1, ← HW.out.2.2]
  go_loopw [20] (fun i wr => ∃ j : Nat, j ≤ 0 ∧ i = .int .i64 j ∧ wr = W) (fun i _ => 0 - (intOf i).toNat)
  case atStart => exact ⟨0, by omega, rfl, rfl⟩
  case round =>
    obtain ⟨j, hj, rfl, hwr⟩ := hrel
    obtain rfl := hwr.symm
    clear hwr
    obtain ⟨c0, c1, cl, d1, d2⟩ := HC.out
    obtain rfl : j = 0 := by omega
    · skip
      clear c0' c1
      by_cases g1 : v0 = 1
      · have g1' : (v0 : Int) = 1 := by omega
        by_cases g2 : k < 1
        · have g2' : (k : Int) < 1 := by omega
          go_wp2
          go_ret
          exact ⟨ret_bool (by rw [HR.out, if_pos (.inr (.inl g2))]), HW.out.2.1⟩
        · have g2' : ¬ (k : Int) < 1 := by omega
          by_cases g3 : n < k
          · have g3' : (n : Int) < (k : Int) := by omega
            go_wp2
            go_ret
            exact ⟨ret_bool (by rw [HR.out, if_pos (.inr (.inr g3))]), HW.out.2.1⟩
          · have g3' : ¬ (n : Int) < (k : Int) := by omega
            have g4 : (k : Int) ≤ 16 := by omega
            have HF : Hid (restB 2 n l = zeroB (l.drop (2 + k))) := by rw [HR.out, if_neg (by omega)]; exact rfl
            have hE := HZ.out k (by omega)
            by_cases g6 : k < n
            · rw [show at0 (2 + n) (2 + k) = 2 + k from if_pos (by omega), show n - k = 2 + n - (2 + k) by omega] at hE
              have HE : Hid (Calls _ _ _ _ _) := hE
              have g5 : (2 : Int) + (k : Int) ≤ 2 + (n : Int) := by omega
              have g7 : ¬ 2 + n = 2 + k := by omega
              clear hE
              go_wp2_with fail
              refine HE.out.mono ?_
              rintro e w1 ⟨rfl, hw⟩
              obtain rfl := hw.symm
              clear hw HE
              go_wp2
              go_ret
              exact ⟨ret_bool HF.out.symm, HW.out.2.1⟩
            · obtain rfl : k = n := by omega
              rw [show at0 (2 + k) (2 + k) = 0 from if_neg (by omega), Nat.sub_self] at hE
              have HE : Hid (Calls _ _ _ _ _) := hE
              clear hE
              go_wp2_with fail
              refine HE.out.mono ?_
              rintro e w1 ⟨rfl, hw⟩
              obtain rfl := hw.symm
              clear hw HE
              go_wp2
              go_ret
              exact ⟨ret_bool HF.out.symm, HW.out.2.1⟩
      · have g1' : ((v0 : Int) != 1) = true := bne_iff_ne.2 (by omega)
        go_wp2
        go_ret
        exact ⟨ret_bool (by rw [HR.out, if_pos (.inl g1)]), HW.out.2.1⟩


set_option maxRecDepth 20000 in
set_option maxHeartbeats 1000000 in
theorem right_rest3 (p : Int) (n B : Nat) (l : List UInt32) (w : World) (hs : SegW w (some ⟨B, 0, none⟩) l) (hl : l.length = 3 + n) (h1 : 1 ≤ n) (h2 : n ≤ 16) (h0 : wd l 0 ≠ 0) (hmk : (wd l 1).toNat ≤ 1) :
    Calls Try.prog 41 #[bxv p 3 n, .slice (some ⟨B, 0, none⟩) l.length l.length] w fun e w' => e = .returned (.bool (restB 3 n l)) ∧ Keeps (fun _ => False) w w' := by
  obtain ⟨W, hW, hK, hB⟩ := box_new w p 3 n
  have hs2 := hs.kept hK (fun _ _ e => e)
  have c0 := hs2.wd (j := 0) (by omega)
  have c1 := hs2.wd (j := 1) (by omega)
  have cl := hs2.wd (j := 2) (by omega)
  have d1 : W.cell? ⟨w.heap.size, 1, none⟩ = some (.int .i64 3) := hB.cell rfl
  have d2 : W.cell? ⟨w.heap.size, 2, none⟩ = some (.int .i64 (n : Int)) := hB.cell rfl
  rw [Nat.zero_add] at c0 c1 cl
  have hv0 : ((wd l 0).toNat : Int) ≠ 0 := by
    have : (wd l 0).toNat ≠ 0 := fun e => h0 (UInt32.toNat_inj.1 (by simpa using e))
    omega
  have HR : Hid (restB 3 n l = (if (wd l 0).toNat ≠ 1 ∨ (wd l 2).toNat < 1 ∨ n < (wd l 2).toNat then false else zeroB (l.drop (3 + (wd l 2).toNat)))) := by
    show restB 3 n l = _
    unfold restB
    have : (wd l 0 ≠ 1) ↔ (wd l 0).toNat ≠ 1 := by
      constructor
      · intro a e; exact a (UInt32.toNat_inj.1 (by simpa using e))
      · intro a e; rw [e] at a; exact a rfl
    simp only [this]
  have HZ : ∀ k : Nat, k ≤ n → Calls Try.prog 59 #[.slice (some ⟨B, at0 (3 + n) (3 + k), none⟩) (n - k) (n - k)] W fun e w' => e = .returned (.bool (zeroB (l.drop (3 + k)))) ∧ w' = W := by
    intro k hk
    have hlen : (l.drop (3 + k)).length = n - k := by rw [List.length_drop]; omega
    have hsg : SegW W (some ⟨B, at0 (3 + n) (3 + k), none⟩) (l.drop (3 + k)) := by
      by_cases hkn : k < n
      · rw [show at0 (3 + n) (3 + k) = 3 + k from if_pos (by omega)]
        refine .inr ⟨B, 3 + k, rfl, fun j hj => ?_⟩
        rw [List.length_drop] at hj
        have := hs2.wd (j := 3 + k + j) (by omega)
        rw [Nat.zero_add] at this
        rw [this, wd_get (by omega)]
        simp
      · exact .inl (List.eq_nil_of_length_eq_zero (by omega))
    have := empty_any (some ⟨B, at0 (3 + n) (3 + k), none⟩) (n - k) _ W hsg (by omega)
    rw [hlen] at this
    exact this
  obtain ⟨v0, hv⟩ : ∃ v : Nat, v = (wd l 0).toNat := ⟨_, rfl⟩
  obtain ⟨v1, hv1⟩ : ∃ v : Nat, v = (wd l 1).toNat := ⟨_, rfl⟩
  obtain ⟨k, hk⟩ : ∃ v : Nat, v = (wd l 2).toNat := ⟨_, rfl⟩
  rw [← hv] at c0 hv0 HR
  rw [← hv1] at c1 hmk
  rw [← hk] at cl HR
  have q0 : ((v0 : Int) == 0) = false := beq_eq_false_iff_ne.2 hv0
  rw [hl]
  obtain ⟨O, hO⟩ : ∃ O, O = w.heap.size := ⟨_, rfl⟩
  rw [← hO] at d1 d2
  have HW : Hid (W = _ ∧ Keeps (fun _ => False) w W ∧ O = w.heap.size) := ⟨hW, hK, hO⟩
  have HC : Hid (W.cell? ⟨B, 0, none⟩ = some (.int .u32 (v0 : Int)) ∧ W.cell? ⟨B, 1, none⟩ = some (.int .u32 (v1 : Int)) ∧ W.cell? ⟨B, 2, none⟩ = some (.int .u32 (k : Int)) ∧ W.cell? ⟨O, 1, none⟩ = some (.int .i64 3) ∧ W.cell? ⟨O, 2, none⟩ = some (.int .i64 (n : Int))) := ⟨c0, c1, cl, d1, d2⟩
  have c0' : (w.alloc (.cells #[.int .i64 p, .int .i64 3, .int .i64 (n : Int)] 69)).cell? ⟨B, 0, none⟩ = some (.int .u32 (v0 : Int)) := by rw [← hW]; exact c0
  have HZ : Hid (∀ k : Nat, k ≤ n → Calls Try.prog 59 #[.slice (some ⟨B, at0 (3 + n) (3 + k), none⟩) (n - k) (n - k)] W fun e w' => e = .returned (.bool (zeroB (l.drop (3 + k)))) ∧ w' = W) := HZ
  have hz4 : 1 ≤ (n : Int) := by omega
  have hz5 : (n : Int) ≤ 16 := by omega
  have HM : Hid (v1 ≤ 1) := hmk
  clear hs hs2 hK hB hl h1 h2 h0 hv0 hv hv1 hk hO hW c0 c1 cl d1 d2 hmk
  go_enter Try.func41, Try.ntmps41
  go_wp2
  rw [← HW.out.1, ← HW.out.2.2]
  go_loopw [20] (fun i wr => ∃ j : Nat, j ≤ 1 ∧ i = .int .i64 j ∧ wr = W) (fun i _ => 1 - (intOf i).toNat)
  case atStart => exact ⟨0, by omega, rfl, rfl⟩
  case round =>
    obtain ⟨j, hj, rfl, hwr⟩ := hrel
    obtain rfl := hwr.symm
    clear hwr
    obtain ⟨c0, c1, cl, d1, d2⟩ := HC.out
    by_cases hlt : j < 1
    · obtain rfl : j = 0 := by omega
      have hv1 : ¬ (1 < (v1 : Int)) := by have := HM.out; omega
      clear hlt hj c0' cl c0
      go_wp2
      go_roundw
      case rel => exact ⟨1, by omega, by go_num, trivial⟩
      case measure => simp [intOf]
    · obtain rfl : j = 1 := by omega
      clear c0' c1
      by_cases g1 : v0 = 1
      · have g1' : (v0 : Int) = 1 := by omega
        by_cases g2 : k < 1
        · have g2' : (k : Int) < 1 := by omega
          go_wp2
          go_ret
          exact ⟨ret_bool (by rw [HR.out, if_pos (.inr (.inl g2))]), HW.out.2.1⟩
        · have g2' : ¬ (k : Int) < 1 := by omega
          by_cases g3 : n < k
          · have g3' : (n : Int) < (k : Int) := by omega
            go_wp2
            go_ret
            exact ⟨ret_bool (by rw [HR.out, if_pos (.inr (.inr g3))]), HW.out.2.1⟩
          · have g3' : ¬ (n : Int) < (k : Int) := by omega
            have g4 : (k : Int) ≤ 16 := by omega
            have HF : Hid (restB 3 n l = zeroB (l.drop (3 + k))) := by rw [HR.out, if_neg (by omega)]; exact rfl
            have hE := HZ.out k (by omega)
            by_cases g6 : k < n
            · rw [show at0 (3 + n) (3 + k) = 3 + k from if_pos (by omega), show n - k = 3 + n - (3 + k) by omega] at hE
              have HE : Hid (Calls _ _ _ _ _) := hE
              have g5 : (3 : Int) + (k : Int) ≤ 3 + (n : Int) := by omega
              have g7 : ¬ 3 + n = 3 + k := by omega
              clear hE
              go_wp2_with fail
              refine HE.out.mono ?_
              rintro e w1 ⟨rfl, hw⟩
              obtain rfl := hw.symm
              clear hw HE
              go_wp2
              go_ret
              exact ⟨ret_bool HF.out.symm, HW.out.2.1⟩
            · obtain rfl : k = n := by omega
              rw [show at0 (3 + k) (3 + k) = 0 from if_neg (by omega), Nat.sub_self] at hE
              have HE : Hid (Calls _ _ _ _ _) := hE
              clear hE
              go_wp2_with fail
              refine HE.out.mono ?_
              rintro e w1 ⟨rfl, hw⟩
              obtain rfl := hw.symm
              clear hw HE
              go_wp2
              go_ret
              exact ⟨ret_bool HF.out.symm, HW.out.2.1⟩
      · have g1' : ((v0 : Int) != 1) = true := bne_iff_ne.2 (by omega)
        go_wp2
        go_ret
        exact ⟨ret_bool (by rw [HR.out, if_pos (.inl g1)]), HW.out.2.1⟩


end Go.Proofs.Ytfcgpjojjehkiaa
