import Derived.Test.YtekijhhpldnmnaaPw
import Derived.Handy
namespace Go.Proofs.Ytekijhhpldnmnaa
open Go.RowKit
set_option linter.unusedVariables false
set_option linter.unusedSimpArgs false

def fitE (nil : Bool) (n d : Int) : Int := if nil then 3 else if n < 1 ∨ 16 < n ∨ d < 1 ∨ 8 < d then 1 else 0
def rsz (h : Nat) (n d : Int) : Nat := h + d.toNat * (1 + n.toNat)
def tkE (nil : Bool) (N : Nat) (p : Int) (h : Nat) (n d : Int) : Int :=
  if fitE nil n d ≠ 0 then fitE nil n d else if 0 ≤ p ∧ p + (rsz h n d : Int) ≤ N then 0 else 51
abbrev rw0 : Value := .agg #[.int .i64 0, .int .i64 0, .int .i64 0, .int .i64 0, .slice none 0 0]

theorem fit_ok {nil : Bool} {n d : Int} (h : fitE nil n d = 0) : nil = false ∧ 1 ≤ n ∧ n ≤ 16 ∧ 1 ≤ d ∧ d ≤ 8 := by
  unfold fitE at h
  cases nil
  · rw [if_neg (by decide)] at h
    by_cases h1 : n < 1 ∨ 16 < n ∨ d < 1 ∨ 8 < d
    · rw [if_pos h1] at h; omega
    · exact ⟨rfl, by omega, by omega, by omega, by omega⟩
  · rw [if_pos rfl] at h; omega

set_option maxHeartbeats 400000 in
theorem fits_any (nil : Bool) (b : Nat) (n d : Int) (w : World) :
    Calls Try.prog 38 #[mpv nil b, .int .i64 n, .int .i64 d] w fun e w' => e = .returned (.int .i64 (fitE nil n d)) ∧ w' = w := by
  unfold fitE
  cases nil
  · simp only [Bool.false_eq_true, if_false, mpv]
    by_cases h1 : n < 1 ∨ 16 < n ∨ d < 1 ∨ 8 < d
    · rw [if_pos h1]
      by_cases a1 : n < 1
      · clear h1
        go_enter Try.func38, Try.ntmps38
        go_wp2
        go_ret
        exact ⟨rfl, rfl⟩
      · by_cases a2 : 16 < n
        · clear h1
          go_enter Try.func38, Try.ntmps38
          go_wp2
          go_ret
          exact ⟨rfl, rfl⟩
        · by_cases a3 : d < 1
          · clear h1
            go_enter Try.func38, Try.ntmps38
            go_wp2
            go_ret
            exact ⟨rfl, rfl⟩
          · have a4 : 8 < d := by omega
            clear h1
            go_enter Try.func38, Try.ntmps38
            go_wp2
            go_ret
            exact ⟨rfl, rfl⟩
    · rw [if_neg h1]
      have a1 : ¬ n < 1 := by omega
      have a2 : ¬ 16 < n := by omega
      have a3 : ¬ d < 1 := by omega
      have a4 : ¬ 8 < d := by omega
      clear h1
      go_enter Try.func38, Try.ntmps38
      go_wp2
      go_ret
      exact ⟨rfl, rfl⟩
  · simp only [if_true, mpv]
    go_enter Try.func38, Try.ntmps38
    go_wp2
    go_ret
    exact ⟨rfl, rfl⟩

set_option maxRecDepth 20000 in
set_option maxHeartbeats 1000000 in
theorem take_fit (nil : Bool) (b : Nat) (p h n d : Int) (w : World) (he : fitE nil n d ≠ 0) :
    Calls Try.prog 44 #[mpv nil b, .int .i64 p, .int .i64 h, .int .i64 n, .int .i64 d] w fun e w' => e = .returned (.tuple #[rw0, .int .i64 (fitE nil n d)]) ∧ Keeps (fun _ => False) w w' := by
  obtain ⟨W, hW⟩ : ∃ W, W = w.alloc (.cells #[.int .i64 0, .int .i64 0, .int .i64 0, .int .i64 0, .slice none 0 0] 75) := ⟨_, rfl⟩
  have hK : Keeps (fun _ => False) w W := by rw [hW]; exact (Keeps.refl _ w).alloc _
  have HC : Hid (Calls _ _ _ _ _) := fits_any nil b n d W
  obtain ⟨E, hE⟩ : ∃ E, E = fitE nil n d := ⟨_, rfl⟩
  rw [← hE] at HC he ⊢
  have hE0 : (E != 0) = true := bne_iff_ne.2 he
  obtain ⟨v, hv⟩ : ∃ v, v = (if nil then (none : Option Addr) else some ⟨b, 0, none⟩) := ⟨_, rfl⟩
  unfold mpv at HC ⊢
  rw [← hv] at HC ⊢
  have HW : Hid (W = _ ∧ Keeps (fun _ => False) w W) := ⟨hW, hK⟩
  clear hE he hv hK
  go_enter Try.func44, Try.ntmps44
  go_wp2_with fail
  rw [← HW.out.1]
  refine HC.out.mono ?_
  rintro e w1 ⟨rfl, hw⟩
  obtain rfl := hw.symm
  clear hw HC
  rw [hW]
  clear hW
  go_wp2
  go_returns
  exact ⟨rfl, HW.out.1 ▸ HW.out.2⟩

end Go.Proofs.Ytekijhhpldnmnaa
