import Derived.Test.YtfcgpjojjehkiaaAf
namespace Go.Proofs.Ytfcgpjojjehkiaa
open Go.RowKit
set_option linter.unusedVariables false
set_option linter.unusedSectionVars false

/-- What a port tells that holds this. -/
theorem port_tells {xs : List UInt32} {p n : Nat} {hd : List UInt32} {f : Bool} (hn : n ≤ 16) (hl : hd.length ≤ n) (he : hd ≠ []) (ht : tkE false xs.length p 3 n = 0) (hw : win xs p (3 + n) = chP n hd f) :
    lkE false xs p 3 n = 0 ∧ rdT false xs p n = true ∧ rdM false xs p n = hd := by
  have h1 : lkE false xs p 3 n = 0 := by
    unfold lkE
    rw [if_neg (by simpa using ht), Int.toNat_natCast, Int.toNat_natCast, hw, chP_right hl hn]
    rfl
  have h2 : wd xs p = 1 := by rw [wd_win0 (m := 3 + n) (by omega), hw]; unfold chP; rw [if_neg he]; rfl
  have h3 : rdT false xs p n = true := by unfold rdT; rw [h1, Int.toNat_natCast, h2]; rfl
  refine ⟨h1, h3, ?_⟩
  unfold rdM
  rw [h3, if_pos rfl, Int.toNat_natCast]
  have h4 : (wd xs (p + 2)).toNat = hd.length := by
    rw [← win_wd xs p (3 + n) 2 (by omega), hw]; unfold chP; rw [if_neg he]
    show (UInt32.ofNat hd.length).toNat = _
    exact ofNat_len (by omega)
  have e : win xs (p + 3) hd.length = ((win xs p (3 + n)).drop 3).take hd.length := by
    unfold win
    rw [List.drop_take, List.drop_drop, List.take_take, show 3 + n - 3 = n by omega, Nat.min_eq_left hl]
  rw [h4, e, hw]; unfold chP; rw [if_neg he]
  simp

def ks0 : List UInt32 := List.replicate (4 * 16) 0
def ks1 (ms : List UInt32) : List UInt32 := putX false ks0 0 16 ms
def ks2 (ms : List UInt32) : List UInt32 := dlX false (ks1 ms) 0 16 [20, 40]

section
variable {ms : List UInt32} (h1 : 1 ≤ ms.length) (h2 : ms.length ≤ 16)
include h1 h2
theorem ks_ne : ms ≠ [] := fun e => by rw [e] at h1; simp at h1
theorem ks_fill2 : (fillW 2 16 ms).length = 18 := fillW_length 2 16 ms (by omega) h2
theorem ks_fill3 : (fillW 3 16 ms).length = 19 := fillW_length 3 16 ms (by omega) h2
theorem ks_put : putE false ks0 0 16 ms.length = 0 := by
  unfold putE
  rw [if_neg (by simp only [ne_eq, Decidable.not_not]; decide), if_neg (by omega)]
  have : rightB 2 (16 : Int).toNat (win ks0 (0 : Int).toNat (2 + (16 : Int).toNat)) = true := by decide
  rw [this]; rfl
theorem ks1_eq : ks1 ms = lay ks0 0 (fillW 2 16 ms) := by
  unfold ks1 putX; rw [if_pos (ks_put h1 h2)]; rfl
theorem ks1_len : (ks1 ms).length = 64 := by
  rw [ks1_eq h1 h2, lay_length _ _ _ (by rw [ks_fill2 h1 h2]; decide)]; rfl
theorem ks1_stage : win (ks1 ms) 0 18 = chS 16 ms := by
  rw [ks1_eq h1 h2, chS_fill (ks_ne h1 h2)]
  have := win_lay_same ks0 0 (fillW 2 16 ms) (by rw [ks_fill2 h1 h2]; decide)
  rw [ks_fill2 h1 h2] at this
  exact this
theorem ks1_port (q : Nat) (hq : 18 ≤ q) (hq2 : q + 19 ≤ 64) : win (ks1 ms) q 19 = chP 16 [] false := by
  rw [ks1_eq h1 h2, win_lay_apart _ _ _ _ _ (by rw [ks_fill2 h1 h2]; decide) (by rw [ks_fill2 h1 h2]; omega)]
  unfold win chP ks0
  rw [List.drop_replicate, List.take_replicate, if_pos rfl]; congr 1; omega
theorem ks_deliver : dlE false (ks1 ms) 0 16 [20, 40] = 0 := by
  unfold dlE
  rw [if_neg (by simp), if_neg (by decide)]
  unfold laE
  have hT : takesE (ks1 ms).length (boxes 0 16 [20, 40]) = 0 := by rw [ks1_len h1 h2]; decide
  have r0 : rtB (ks1 ms) ⟨0, 2, 16⟩ = true := by
    show rightB 2 16 (win (ks1 ms) 0 18) = true
    rw [ks1_stage h1 h2]; exact chS_right h2 (by omega)
  have r1 : rtB (ks1 ms) ⟨20, 3, 16⟩ = true := by
    show rightB 3 16 (win (ks1 ms) 20 19) = true
    rw [ks1_port h1 h2 20 (by omega) (by omega)]; decide
  have r2 : rtB (ks1 ms) ⟨40, 3, 16⟩ = true := by
    show rightB 3 16 (win (ks1 ms) 40 19) = true
    rw [ks1_port h1 h2 40 (by omega) (by omega)]; decide
  have hF : formB (ks1 ms) (boxes 0 16 [20, 40]) = true := by
    unfold formB
    rw [List.all_eq_true]
    intro i hi
    have hi3 : i < 3 := by simpa [boxes_length] using hi
    unfold okAt
    have : i = 0 ∨ i = 1 ∨ i = 2 := by omega
    rcases this with rfl | rfl | rfl
    · show (rtB (ks1 ms) ⟨0, 2, 16⟩ && _) = true
      rw [r0]; decide
    · show (rtB (ks1 ms) ⟨20, 3, 16⟩ && _) = true
      rw [r1]; decide
    · show (rtB (ks1 ms) ⟨40, 3, 16⟩ && _) = true
      rw [r2]; decide
  rw [if_neg (by simpa using hT), hF]; rfl
theorem ks_read : lkE false (ks2 ms) 20 3 16 = 0 ∧ rdT false (ks2 ms) 20 16 = true ∧ rdM false (ks2 ms) 20 16 = ms := by
  have hl1 := ks1_len h1 h2
  have hf3 := ks_fill3 h1 h2
  have hw0 : wd (ks1 ms) 0 = 1 := by rw [wd_win0 (m := 18) (by omega), ks1_stage h1 h2]; unfold chS; rw [if_neg (ks_ne h1 h2)]; rfl
  have hw1 : (wd (ks1 ms) 1).toNat = ms.length := by
    rw [show (1 : Nat) = 0 + 1 from rfl, ← win_wd (ks1 ms) 0 18 1 (by omega), ks1_stage h1 h2]; unfold chS; rw [if_neg (ks_ne h1 h2)]
    show (UInt32.ofNat ms.length).toNat = _
    exact ofNat_len h2
  have hms : win (ks1 ms) 2 ms.length = ms := by
    have e2 : win (ks1 ms) 2 ms.length = ((win (ks1 ms) 0 18).drop 2).take ms.length := by
      unfold win
      rw [List.drop_take, List.drop_drop, List.take_take, show 18 - 2 = 16 by omega, Nat.min_eq_left h2]
    rw [e2, ks1_stage h1 h2]; unfold chS; rw [if_neg (ks_ne h1 h2)]
    simp
  have e : ks2 ms = lay (lay (lay (ks1 ms) 20 (fillW 3 16 ms)) 40 (fillW 3 16 ms)) 0 (List.replicate 18 0) := by
    unfold ks2 dlX
    rw [if_pos (ks_deliver h1 h2), show (0 : Int).toNat = 0 from rfl, hw0, if_neg (by decide), Nat.zero_add, Nat.zero_add, hw1, hms]
    rfl
  have l1 : (lay (ks1 ms) 20 (fillW 3 16 ms)).length = 64 := by rw [lay_length _ _ _ (by omega)]; exact hl1
  have l2 : (lay (lay (ks1 ms) 20 (fillW 3 16 ms)) 40 (fillW 3 16 ms)).length = 64 := by rw [lay_length _ _ _ (by omega)]; exact l1
  have l3 : (ks2 ms).length = 64 := by rw [e, lay_length _ _ _ (by rw [List.length_replicate]; omega)]; exact l2
  have hwp : win (ks2 ms) 20 (3 + 16) = chP 16 ms true := by
    rw [e, win_lay_apart _ _ _ _ _ (by rw [List.length_replicate]; omega) (by rw [List.length_replicate]; omega), win_lay_apart _ _ _ _ _ (by omega) (by omega), chP_fill (ks_ne h1 h2)]
    have := win_lay_same (ks1 ms) 20 (fillW 3 16 ms) (by omega)
    rw [hf3] at this
    exact this
  exact port_tells (p := 20) (n := 16) (by omega) h2 (ks_ne h1 h2) (by rw [l3]; decide) hwp
end

end Go.Proofs.Ytfcgpjojjehkiaa
