import Derived.Test.YtegediccgnoecabDoorLawWOne
import Derived.Test.YtegediccgnoecabDoorLawWSeven
import Derived.Test.YtegediccgnoecabDoorLawWMid
import Derived.Test.YtegediccgnoecabDoorLawWTop
namespace Go.Proofs.YtegediccgnoecabDoor
open Go.RowKit
set_option linter.unusedVariables false

set_option maxHeartbeats 1000000 in
theorem width_bad (x : Nat) (hx : x < 4294967296) (a imm : Int) (w : World) (h : Tabs w) (hd : decOk x = false) : Calls Tryd.prog 3 #[.int .u32 x, .int .i64 a, .int .i64 imm] w fun e w' => e = .returned (.bool true) ∧ Below w.heap.size w w' := by
  have D := fun w h => dec_bad x hx hd w h
  unfold insV at D
  have HD : Hid (∀ w h, Calls _ _ _ w _) := D
  have HT : Hid (Tabs w) := h
  clear D h hd
  go_enter Tryd.func3, Tryd.ntmps3
  go_wp2_with fail
  refine (HD.out _ HT.out).mono ?_
  rintro e w1 ⟨rfl, hb⟩
  have HB : Hid (Below _ _ _) := below_all hb (below_new w1 (.cells #[.int .i64 0, .int .i64 0, .int .i64 0, .int .i64 0, .int .i64 0] 24))
  have HT1 : Hid (Tabs _) := HT.out.keep hb
  clear hb HT
  go_wp2_with fail
  refine (awake_any _ (HT1.out.keep (below_new w1 _))).mono ?_
  rintro e w2 ⟨rfl, hb⟩
  have HB2 : Hid (Below _ _ _) := below_all HB.out hb
  clear hb
  go_wp2
  go_ret
  exact ⟨rfl, HB2.out⟩

theorem enc_er (op a b c imm : Int) (er : Int) (h : encE op a b c imm = er) (w : World) (ht : Tabs w) : Calls Tryd.prog 7 #[insV op a b c imm] w fun e w' => e = .returned (.tuple #[.int .u32 (encW op a b c imm), .int .i64 er]) ∧ Below w.heap.size w w' := by
  have := enc_any op a b c imm w ht
  rw [h] at this
  exact this

theorem isaWidth_any (x : Nat) (hx : x < 4294967296) (a imm : Int) (w : World) (h : Tabs w) : Calls Tryd.prog 3 #[.int .u32 x, .int .i64 a, .int .i64 imm] w fun e w' => e = .returned (.bool true) ∧ Below w.heap.size w w' := by
  cases hd : decOk x
  · exact width_bad x hx a imm w h hd
  have hok : okI (rdOp x) (rdA x) (rdB x) (rdC x) (rdI x) = true := by
    simp only [decOk, Bool.and_eq_true] at hd
    exact hd.1
  have D := fun w h => dec_ok x hx hd w h
  have F := fun w h => form_any (rdOp x) w h
  have EA := fun er he w h => enc_er (rdOp x) a (rdB x) (rdC x) (rdI x) er he w h
  have EI := fun er he w h => enc_er (rdOp x) (rdA x) (rdB x) (rdC x) imm er he w h
  have ea := a_fits hok a
  have ei := i_fits hok imm
  have h0 : formOf (rdOp x) ≠ 0 := by
    intro h0
    simp [okI, h0] at hok
  obtain ⟨k, hk, hk8⟩ := formOf_nat (rdOp x)
  rw [hk] at ea ei h0 F
  rw [ea] at EA
  rw [ei] at EI
  clear hok hd ea ei
  by_cases k1 : k = 1
  · subst k1
    have A : ∀ er, (if a = 0 then (0 : Int) else 21) = er → (if aFits ((1 : Nat) : Int) a = true then (0 : Int) else 21) = er := fun er h => by rw [← h]; simp [aFits]
    have I : ∀ er, (if imm = 0 then (0 : Int) else 21) = er → (if iFits ((1 : Nat) : Int) imm = true then (0 : Int) else 21) = er := fun er h => by rw [← h]; simp [iFits]
    rcases (by omega : a = 0 ∨ (a ≠ 0 ∧ a < 0) ∨ (a ≠ 0 ∧ 0 < a)) with ha | ⟨ha0, ha⟩ | ⟨ha0, ha⟩ <;> rcases (by omega : imm = 0 ∨ (imm ≠ 0 ∧ imm < -131072) ∨ (imm ≠ 0 ∧ -131072 ≤ imm)) with hi | ⟨hi0, hi⟩ | ⟨hi0, hi⟩
    · exact width_one_zz x a imm _ _ _ _ _ _ _ _ w h rfl ha hi D F (EA 0 (A 0 (if_pos ha))) (EI 0 (I 0 (if_pos hi)))
    · exact width_one_zn x a imm _ _ _ _ _ _ _ _ w h rfl ha hi D F (EA 0 (A 0 (if_pos ha))) (EI 21 (I 21 (if_neg hi0)))
    · exact width_one_zp x a imm _ _ _ _ _ _ _ _ w h rfl ha hi (by simpa using hi0) D F (EA 0 (A 0 (if_pos ha))) (EI 21 (I 21 (if_neg hi0)))
    · exact width_one_nz x a imm _ _ _ _ _ _ _ _ w h rfl ha hi D F (EA 21 (A 21 (if_neg ha0))) (EI 0 (I 0 (if_pos hi)))
    · exact width_one_nn x a imm _ _ _ _ _ _ _ _ w h rfl ha hi D F (EA 21 (A 21 (if_neg ha0))) (EI 21 (I 21 (if_neg hi0)))
    · exact width_one_np x a imm _ _ _ _ _ _ _ _ w h rfl ha hi (by simpa using hi0) D F (EA 21 (A 21 (if_neg ha0))) (EI 21 (I 21 (if_neg hi0)))
    · exact width_one_pz x a imm _ _ _ _ _ _ _ _ w h rfl ha hi D F (EA 21 (A 21 (if_neg ha0))) (EI 0 (I 0 (if_pos hi)))
    · exact width_one_pn x a imm _ _ _ _ _ _ _ _ w h rfl ha hi D F (EA 21 (A 21 (if_neg ha0))) (EI 21 (I 21 (if_neg hi0)))
    · exact width_one_pp x a imm _ _ _ _ _ _ _ _ w h rfl ha hi (by simpa using hi0) D F (EA 21 (A 21 (if_neg ha0))) (EI 21 (I 21 (if_neg hi0)))
  by_cases k7 : k = 7
  · subst k7
    have A : ∀ er, (if a = 0 then (0 : Int) else 21) = er → (if aFits ((7 : Nat) : Int) a = true then (0 : Int) else 21) = er := fun er h => by rw [← h]; simp [aFits]
    have I : ∀ er, (if -131072 ≤ imm ∧ imm ≤ 131071 then (0 : Int) else 21) = er → (if iFits ((7 : Nat) : Int) imm = true then (0 : Int) else 21) = er := fun er h => by rw [← h]; simp [iFits]
    rcases (by omega : a = 0 ∨ (a ≠ 0 ∧ a < 0) ∨ (a ≠ 0 ∧ 0 < a)) with ha | ⟨ha0, ha⟩ | ⟨ha0, ha⟩ <;> rcases (by omega : imm < -131072 ∨ (-131072 ≤ imm ∧ imm ≤ 131071) ∨ 131071 < imm) with hi | ⟨hi, hi2⟩ | hi
    · exact width_seven_zl x a imm _ _ _ _ _ _ _ _ w h rfl ha hi D F (EA 0 (A 0 (if_pos ha))) (EI 21 (I 21 (if_neg (by omega))))
    · exact width_seven_zi x a imm _ _ _ _ _ _ _ _ w h rfl ha hi hi2 D F (EA 0 (A 0 (if_pos ha))) (EI 0 (I 0 (if_pos ⟨hi, hi2⟩)))
    · exact width_seven_zh x a imm _ _ _ _ _ _ _ _ w h rfl ha hi D F (EA 0 (A 0 (if_pos ha))) (EI 21 (I 21 (if_neg (by omega))))
    · exact width_seven_nl x a imm _ _ _ _ _ _ _ _ w h rfl ha hi D F (EA 21 (A 21 (if_neg ha0))) (EI 21 (I 21 (if_neg (by omega))))
    · exact width_seven_ni x a imm _ _ _ _ _ _ _ _ w h rfl ha hi hi2 D F (EA 21 (A 21 (if_neg ha0))) (EI 0 (I 0 (if_pos ⟨hi, hi2⟩)))
    · exact width_seven_nh x a imm _ _ _ _ _ _ _ _ w h rfl ha hi D F (EA 21 (A 21 (if_neg ha0))) (EI 21 (I 21 (if_neg (by omega))))
    · exact width_seven_pl x a imm _ _ _ _ _ _ _ _ w h rfl ha hi D F (EA 21 (A 21 (if_neg ha0))) (EI 21 (I 21 (if_neg (by omega))))
    · exact width_seven_pi x a imm _ _ _ _ _ _ _ _ w h rfl ha hi hi2 D F (EA 21 (A 21 (if_neg ha0))) (EI 0 (I 0 (if_pos ⟨hi, hi2⟩)))
    · exact width_seven_ph x a imm _ _ _ _ _ _ _ _ w h rfl ha hi D F (EA 21 (A 21 (if_neg ha0))) (EI 21 (I 21 (if_neg (by omega))))
  have f1 : ((k : Int) == 1) = false := by simp only [beq_eq_false_iff_ne]; omega
  have f7 : ((k : Int) == 7) = false := by simp only [beq_eq_false_iff_ne]; omega
  have A : ∀ er, (if 0 ≤ a ∧ a ≤ 15 then (0 : Int) else 21) = er → (if aFits (k : Int) a = true then (0 : Int) else 21) = er := fun er h => by rw [← h]; simp [aFits, f1, f7]
  by_cases k4 : (k : Int) ≤ 4
  · have I : ∀ er, (if imm = 0 then (0 : Int) else 21) = er → (if iFits (k : Int) imm = true then (0 : Int) else 21) = er := fun er h => by rw [← h]; simp [iFits, k4]
    rcases (by omega : a < 0 ∨ (0 ≤ a ∧ a ≤ 15) ∨ 15 < a) with ha | ⟨ha, ha2⟩ | ha <;> rcases (by omega : imm = 0 ∨ (imm ≠ 0 ∧ imm < -131072) ∨ (imm ≠ 0 ∧ -131072 ≤ imm)) with hi | ⟨hi0, hi⟩ | ⟨hi0, hi⟩
    · exact width_mid_lz x a imm _ _ _ _ _ _ _ _ w h f1 f7 k4 ha hi D F (EA 21 (A 21 (if_neg (by omega)))) (EI 0 (I 0 (if_pos hi)))
    · exact width_mid_ln x a imm _ _ _ _ _ _ _ _ w h f1 f7 k4 ha hi D F (EA 21 (A 21 (if_neg (by omega)))) (EI 21 (I 21 (if_neg hi0)))
    · exact width_mid_lp x a imm _ _ _ _ _ _ _ _ w h f1 f7 k4 ha hi (by simpa using hi0) D F (EA 21 (A 21 (if_neg (by omega)))) (EI 21 (I 21 (if_neg hi0)))
    · exact width_mid_iz x a imm _ _ _ _ _ _ _ _ w h f1 f7 k4 ha ha2 hi D F (EA 0 (A 0 (if_pos ⟨ha, ha2⟩))) (EI 0 (I 0 (if_pos hi)))
    · exact width_mid_in x a imm _ _ _ _ _ _ _ _ w h f1 f7 k4 ha ha2 hi D F (EA 0 (A 0 (if_pos ⟨ha, ha2⟩))) (EI 21 (I 21 (if_neg hi0)))
    · exact width_mid_ip x a imm _ _ _ _ _ _ _ _ w h f1 f7 k4 ha ha2 hi (by simpa using hi0) D F (EA 0 (A 0 (if_pos ⟨ha, ha2⟩))) (EI 21 (I 21 (if_neg hi0)))
    · exact width_mid_hz x a imm _ _ _ _ _ _ _ _ w h f1 f7 k4 ha hi D F (EA 21 (A 21 (if_neg (by omega)))) (EI 0 (I 0 (if_pos hi)))
    · exact width_mid_hn x a imm _ _ _ _ _ _ _ _ w h f1 f7 k4 ha hi D F (EA 21 (A 21 (if_neg (by omega)))) (EI 21 (I 21 (if_neg hi0)))
    · exact width_mid_hp x a imm _ _ _ _ _ _ _ _ w h f1 f7 k4 ha hi (by simpa using hi0) D F (EA 21 (A 21 (if_neg (by omega)))) (EI 21 (I 21 (if_neg hi0)))
  · have I : ∀ er, (if -131072 ≤ imm ∧ imm ≤ 131071 then (0 : Int) else 21) = er → (if iFits (k : Int) imm = true then (0 : Int) else 21) = er := fun er h => by rw [← h]; simp [iFits, k4]
    have k5 : 4 < (k : Int) := by omega
    rcases (by omega : a < 0 ∨ (0 ≤ a ∧ a ≤ 15) ∨ 15 < a) with ha | ⟨ha, ha2⟩ | ha <;> rcases (by omega : imm < -131072 ∨ (-131072 ≤ imm ∧ imm ≤ 131071) ∨ 131071 < imm) with hi | ⟨hi, hi2⟩ | hi
    · exact width_top_ll x a imm _ _ _ _ _ _ _ _ w h f1 f7 k5 ha hi D F (EA 21 (A 21 (if_neg (by omega)))) (EI 21 (I 21 (if_neg (by omega))))
    · exact width_top_li x a imm _ _ _ _ _ _ _ _ w h f1 f7 k5 ha hi hi2 D F (EA 21 (A 21 (if_neg (by omega)))) (EI 0 (I 0 (if_pos ⟨hi, hi2⟩)))
    · exact width_top_lh x a imm _ _ _ _ _ _ _ _ w h f1 f7 k5 ha hi D F (EA 21 (A 21 (if_neg (by omega)))) (EI 21 (I 21 (if_neg (by omega))))
    · exact width_top_il x a imm _ _ _ _ _ _ _ _ w h f1 f7 k5 ha ha2 hi D F (EA 0 (A 0 (if_pos ⟨ha, ha2⟩))) (EI 21 (I 21 (if_neg (by omega))))
    · exact width_top_ii x a imm _ _ _ _ _ _ _ _ w h f1 f7 k5 ha ha2 hi hi2 D F (EA 0 (A 0 (if_pos ⟨ha, ha2⟩))) (EI 0 (I 0 (if_pos ⟨hi, hi2⟩)))
    · exact width_top_ih x a imm _ _ _ _ _ _ _ _ w h f1 f7 k5 ha ha2 hi D F (EA 0 (A 0 (if_pos ⟨ha, ha2⟩))) (EI 21 (I 21 (if_neg (by omega))))
    · exact width_top_hl x a imm _ _ _ _ _ _ _ _ w h f1 f7 k5 ha hi D F (EA 21 (A 21 (if_neg (by omega)))) (EI 21 (I 21 (if_neg (by omega))))
    · exact width_top_hi x a imm _ _ _ _ _ _ _ _ w h f1 f7 k5 ha hi hi2 D F (EA 21 (A 21 (if_neg (by omega)))) (EI 0 (I 0 (if_pos ⟨hi, hi2⟩)))
    · exact width_top_hh x a imm _ _ _ _ _ _ _ _ w h f1 f7 k5 ha hi D F (EA 21 (A 21 (if_neg (by omega)))) (EI 21 (I 21 (if_neg (by omega))))
end Go.Proofs.YtegediccgnoecabDoor
