import Derived.Test.YtohojpacijnnaaaDoorREnc
namespace Go.Proofs.YtohojpacijnnaaaDoor.Is
open Go.RowKit
set_option linter.unusedVariables false

/-- What the document's Encode answers: the same. -/
theorem renc_any (op a b c imm : Int) (w : World) :
    Calls Tryd.prog 28 #[insV op a b c imm] w fun e w' => e = .returned (.tuple #[.int .u32 (encW op a b c imm), .int .i64 (encE op a b c imm)]) ∧ Below w.heap.size w w' := by
  obtain ⟨k, hk, hk8⟩ := formOf_nat op
  have no : okI op a b c imm = false → encW op a b c imm = 0 ∧ encE op a b c imm = 21 := fun h => by simp [encW, encE, h]
  by_cases hk0 : k = 0
  · obtain ⟨e1, e2⟩ := no (by simp [okI, hk, hk0])
    rw [e1, e2]
    exact renc_zero op a b c imm w k hk hk8 hk0
  have hkn : formOf op ≠ 0 := by omega
  have hkn' : ((k : Int) != 0) = true := by simp; omega
  cases FA : fitB (hasA k) a
  · obtain ⟨e1, e2⟩ := no (by simp [okI, hk, FA])
    rw [e1, e2]
    exact renc_a op a b c imm w k hk hk8 hk0 FA
  cases FB : fitB (hasB k) b
  · obtain ⟨e1, e2⟩ := no (by simp [okI, hk, FB])
    rw [e1, e2]
    exact renc_b op a b c imm w k hk hk8 hk0 FA FB
  cases FC : fitB (hasC k) c
  · obtain ⟨e1, e2⟩ := no (by simp [okI, hk, FC])
    rw [e1, e2]
    exact renc_c op a b c imm w k hk hk8 hk0 FA FB FC
  have hop := formOf_bd hkn
  have ba := fitB_bd FA
  have bb := fitB_bd FB
  have bc := fitB_bd FC
  cases FI : hasI k
  · by_cases hm : imm = 0
    · have y : okI op a b c imm = true := by simp [okI, hk, hkn', FA, FB, FC, FI, hm]
      have := renc_nil op a b c imm w k hk hk8 hk0 FA FB FC FI hm hop.1 hop.2 ba.1 ba.2 bb.1 bb.2 bc.1 bc.2
      simpa [encW, encE, y] using this
    · obtain ⟨e1, e2⟩ := no (by simp [okI, hk, FI, hm])
      rw [e1, e2]
      exact renc_i op a b c imm w k hk hk8 hk0 FA FB FC FI hm
  · by_cases hr : imm < -131072 ∨ 131071 < imm
    · obtain ⟨e1, e2⟩ := no (by simp only [okI]; rw [show decide (-131072 ≤ imm ∧ imm < 131072) = false by simp; omega]; simp)
      rw [e1, e2]
      rcases hr with hr | hr
      · exact renc_lo op a b c imm w k hk hk8 hk0 FA FB FC FI hr
      · exact renc_hi op a b c imm w k hk hk8 hk0 FA FB FC FI hr
    · have y : okI op a b c imm = true := by simp [okI, hk, hkn', FA, FB, FC, FI]; omega
      by_cases h0 : 0 ≤ imm
      · have := renc_pos op a b c imm w k hk hk8 hk0 FA FB FC FI h0 (by omega) hop.1 hop.2 ba.1 ba.2 bb.1 bb.2 bc.1 bc.2
        simpa [encW, encE, y] using this
      · have := renc_neg op a b c imm w k hk hk8 hk0 FA FB FC FI (by omega) (by omega) hop.1 hop.2 ba.1 ba.2 bb.1 bb.2 bc.1 bc.2
        simpa [encW, encE, y] using this
end Go.Proofs.YtohojpacijnnaaaDoor.Is
