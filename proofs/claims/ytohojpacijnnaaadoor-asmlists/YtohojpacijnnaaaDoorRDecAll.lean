import Derived.Test.YtohojpacijnnaaaDoorRDec
namespace Go.Proofs.YtohojpacijnnaaaDoor.Is
open Go.RowKit
set_option linter.unusedVariables false

theorem dec_of (x : Nat) : (if encE (rdOp x) (rdA x) (rdB x) (rdC x) (rdI x) = 0 ∧ encW (rdOp x) (rdA x) (rdB x) (rdC x) (rdI x) = (x : Int) then Value.tuple #[insV (rdOp x) (rdA x) (rdB x) (rdC x) (rdI x), .int .i64 0] else .tuple #[zeroV, .int .i64 20]) = .tuple #[decV x, .int .i64 (decE x)] := by
  rcases enc_cases (rdOp x) (rdA x) (rdB x) (rdC x) (rdI x) with ⟨e0, ok, e1⟩ | ⟨e0, ok⟩
  · by_cases hw : wordI (rdOp x) (rdA x) (rdB x) (rdC x) (rdI x) = x
    · have hd : decOk x = true := by simp [decOk, ok, hw]
      rw [e1]
      simp [decV, decE, hd, e0, hw]
    · have hd : decOk x = false := by simp [decOk, ok, hw]
      rw [e1]
      simp [decV, decE, hd, hw]
  · have hd : decOk x = false := by simp [decOk, ok]
    simp [decV, decE, hd, e0]
theorem enc_two (op a b c imm : Int) : encE op a b c imm = 0 ∨ encE op a b c imm = 21 := by
  rcases enc_cases op a b c imm with h | h
  · exact .inl h.1
  · exact .inr h.1

/-- What the document's Decode answers: the same. -/
theorem rdec_any (x : Nat) (hx : x < 4294967296) (w : World) :
    Calls Tryd.prog 15 #[.int .u32 x] w fun e w' => e = .returned (.tuple #[decV x, .int .i64 (decE x)]) ∧ Below w.heap.size w w' := by
  obtain ⟨k, hk, hk8⟩ := formOf_nat ((x : Int) / 67108864)
  rw [← dec_of x]
  have e : k = 0 ∨ k = 1 ∨ k = 2 ∨ k = 3 ∨ k = 4 ∨ k = 5 ∨ k = 6 ∨ k = 7 := by omega
  rcases e with rfl | rfl | rfl | rfl | rfl | rfl | rfl | rfl
  · have := rdec_none x hx w 0 hk (by omega) rfl rfl rfl rfl _ _ (fun w => renc_any ((x : Int) / 67108864) 0 0 0 0 w) (enc_two _ _ _ _ _)
    simp only [rdOp, rdA, rdB, rdC, rdI, hk]
    exact this
  · have := rdec_none x hx w 1 hk (by omega) rfl rfl rfl rfl _ _ (fun w => renc_any ((x : Int) / 67108864) 0 0 0 0 w) (enc_two _ _ _ _ _)
    simp only [rdOp, rdA, rdB, rdC, rdI, hk]
    exact this
  · have := rdec_a x hx w 2 hk (by omega) rfl rfl rfl rfl _ _ (fun w => renc_any ((x : Int) / 67108864) ((x : Int) / 4194304 % 16) 0 0 0 w) (enc_two _ _ _ _ _)
    simp only [rdOp, rdA, rdB, rdC, rdI, hk]
    exact this
  · have := rdec_ab x hx w 3 hk (by omega) rfl rfl rfl rfl _ _ (fun w => renc_any ((x : Int) / 67108864) ((x : Int) / 4194304 % 16) ((x : Int) / 262144 % 16) 0 0 w) (enc_two _ _ _ _ _)
    simp only [rdOp, rdA, rdB, rdC, rdI, hk]
    exact this
  · have := rdec_abc x hx w 4 hk (by omega) rfl rfl rfl rfl _ _ (fun w => renc_any ((x : Int) / 67108864) ((x : Int) / 4194304 % 16) ((x : Int) / 262144 % 16) ((x : Int) / 16384 % 16) 0 w) (enc_two _ _ _ _ _)
    simp only [rdOp, rdA, rdB, rdC, rdI, hk]
    exact this
  · by_cases hs : 131071 < (x : Int) % 262144
    · have := rdec_ain x hx w 5 hk (by omega) rfl rfl rfl rfl hs _ _ (fun w => renc_any ((x : Int) / 67108864) ((x : Int) / 4194304 % 16) 0 0 ((x : Int) % 262144 - 262144) w) (enc_two _ _ _ _ _)
      have e : sgn18 ((x : Int) % 262144) = (x : Int) % 262144 - 262144 := by unfold sgn18; rw [if_pos hs]
      simp only [rdOp, rdA, rdB, rdC, rdI, hk, e]
      exact this
    · have := rdec_aip x hx w 5 hk (by omega) rfl rfl rfl rfl (by omega) _ _ (fun w => renc_any ((x : Int) / 67108864) ((x : Int) / 4194304 % 16) 0 0 ((x : Int) % 262144) w) (enc_two _ _ _ _ _)
      have e : sgn18 ((x : Int) % 262144) = (x : Int) % 262144 := by unfold sgn18; rw [if_neg hs]
      simp only [rdOp, rdA, rdB, rdC, rdI, hk, e]
      exact this
  · by_cases hs : 131071 < (x : Int) % 262144
    · have := rdec_abin x hx w 6 hk (by omega) rfl rfl rfl rfl hs _ _ (fun w => renc_any ((x : Int) / 67108864) ((x : Int) / 4194304 % 16) ((x : Int) / 262144 % 16) 0 ((x : Int) % 262144 - 262144) w) (enc_two _ _ _ _ _)
      have e : sgn18 ((x : Int) % 262144) = (x : Int) % 262144 - 262144 := by unfold sgn18; rw [if_pos hs]
      simp only [rdOp, rdA, rdB, rdC, rdI, hk, e]
      exact this
    · have := rdec_abip x hx w 6 hk (by omega) rfl rfl rfl rfl (by omega) _ _ (fun w => renc_any ((x : Int) / 67108864) ((x : Int) / 4194304 % 16) ((x : Int) / 262144 % 16) 0 ((x : Int) % 262144) w) (enc_two _ _ _ _ _)
      have e : sgn18 ((x : Int) % 262144) = (x : Int) % 262144 := by unfold sgn18; rw [if_neg hs]
      simp only [rdOp, rdA, rdB, rdC, rdI, hk, e]
      exact this
  · by_cases hs : 131071 < (x : Int) % 262144
    · have := rdec_in x hx w 7 hk (by omega) rfl rfl rfl rfl hs _ _ (fun w => renc_any ((x : Int) / 67108864) 0 0 0 ((x : Int) % 262144 - 262144) w) (enc_two _ _ _ _ _)
      have e : sgn18 ((x : Int) % 262144) = (x : Int) % 262144 - 262144 := by unfold sgn18; rw [if_pos hs]
      simp only [rdOp, rdA, rdB, rdC, rdI, hk, e]
      exact this
    · have := rdec_ip x hx w 7 hk (by omega) rfl rfl rfl rfl (by omega) _ _ (fun w => renc_any ((x : Int) / 67108864) 0 0 0 ((x : Int) % 262144) w) (enc_two _ _ _ _ _)
      have e : sgn18 ((x : Int) % 262144) = (x : Int) % 262144 := by unfold sgn18; rw [if_neg hs]
      simp only [rdOp, rdA, rdB, rdC, rdI, hk, e]
      exact this
end Go.Proofs.YtohojpacijnnaaaDoor.Is
