import Derived.Test.YtfbapgcopidbpaaGreatQeRgn
import Derived.Test.YtfbapgcopidbpaaGreatQePar
import Derived.Test.YtfbapgcopidbpaaGreatQeCore
import Derived.Test.YtfbapgcopidbpaaGreatQeWin
namespace Go.Proofs.YtfbapgcopidbpaaGreat
open Go.RowKit
set_option linter.unusedVariables false
set_option linter.unusedSimpArgs false
set_option maxRecDepth 6000

/-- How long windows are together. -/
def cyc : List Win → Int
  | [] => 0
  | y :: ys => y.u + y.s + cyc ys
def Win.In2 (y : Win) : Prop := 1 ≤ y.u ∧ y.u ≤ 1000000 ∧ 82 ≤ y.s ∧ y.s ≤ 1000000
theorem cyc_take {ws : List Win} {k : Nat} {y : Win} (h : ws[k]? = some y) : cyc (ws.take (k + 1)) = cyc (ws.take k) + (y.u + y.s) := by
  induction ws generalizing k with
  | nil => simp at h
  | cons z ws ih =>
    cases k with
    | zero => simp at h; subst h; simp [cyc]
    | succ k =>
      simp only [List.take_succ_cons, cyc]
      rw [ih (by simpa using h)]
      omega
theorem cyc_bd {ws : List Win} (h : ∀ y ∈ ws, y.In2) : 0 ≤ cyc ws ∧ cyc ws ≤ 2000000 * ws.length := by
  induction ws with
  | nil => simp [cyc]
  | cons z ws ih =>
    have h1 := ih fun y hy => h y (List.mem_cons_of_mem _ hy)
    have h2 := h z (List.mem_cons_self ..)
    unfold Win.In2 at h2
    simp only [cyc, List.length_cons]
    omega
set_option maxHeartbeats 4000000 in
theorem cycles_any (ws : List Win) (a : Option Addr) (cap : Nat) (w : World) (hS : SegA Win.vs 3 w a ws) (hlen : ws.length ≤ cap ∧ cap ≤ maxLen) (h16 : ws.length ≤ 1000) (hin : ∀ y ∈ ws, y.In2) :
    Calls Tryz.prog 129 #[.slice a ws.length cap] w fun e w' => e = .returned (.int .i64 (cyc ws)) ∧ Keeps (fun _ => False) w w' := by
  have HS : Hid (SegA Win.vs 3 w a ws ∧ (∀ y ∈ ws, y.In2)) := ⟨hS, hin⟩
  obtain ⟨L, hL⟩ : ∃ L, ws.length = L := ⟨_, rfl⟩
  have HL : Hid (ws.length = L) := hL
  have hcc : (L : Int) ≤ cap ∧ (cap : Int) ≤ 9223372036854775807 := by unfold maxLen at hlen; omega
  rw [hL] at h16 ⊢
  clear hS hin hL hlen
  go_enter Tryz.func129, Tryz.ntmps129
  go_wp2
  go_loopw [3, 8] (fun s i wr => ∃ j : Nat, j ≤ L ∧ i = .int .i64 j ∧ s = .int .i64 (cyc (ws.take j)) ∧ Keeps (fun _ => False) w wr) (fun _ i _ => L - (intOf i).toNat)
  case atStart => exact ⟨0, by omega, rfl, rfl, Keeps.refl _ _⟩
  case round =>
    obtain ⟨k, hk, rfl, rfl, hO⟩ := hrel
    by_cases hlt : k < L
    · obtain ⟨X, hX⟩ : ∃ X, ws[k]? = some X := ⟨_, List.getElem?_eq_getElem (by have := HL.out; omega)⟩
      have hXb := HS.out.2 X (List.mem_of_getElem? hX)
      unfold Win.In2 at hXb
      have hb := cyc_bd (ws := ws.take k) fun y hy => HS.out.2 y (List.mem_of_mem_take hy)
      have hl : (ws.take k).length ≤ 1000 := by rw [List.length_take]; omega
      obtain ⟨g, o, ha, hc⟩ := (HS.out.1.kept hO fun _ _ _ h => h).at hX
      have c0 := hc 0 _ rfl
      rw [Nat.add_zero] at c0
      have c1 := hc 1 _ rfl
      have c2 := hc 2 _ rfl
      obtain ⟨s, hs⟩ : ∃ s, cyc (ws.take k) = s := ⟨_, rfl⟩
      have HK : Hid (Keeps (fun _ => False) w wr ∧ cyc (ws.take (k + 1)) = s + (X.u + X.s)) := ⟨hO, by rw [cyc_take hX, hs]⟩
      rw [hs] at hb ⊢
      clear hs
      have q1 : IntKind.i64.wrap (X.u + X.s) = X.u + X.s := by rw [IntKind.wrap_i64]; omega
      have q2 : IntKind.i64.wrap (s + (X.u + X.s)) = s + (X.u + X.s) := by rw [IntKind.wrap_i64]; omega
      clear hO hX hc hl hXb hb
      subst ha
      go_wp2
      go_roundw
      case rel => exact ⟨k + 1, by omega, by go_num, by rw [HK.out.2], HK.out.1.alloc _⟩
      case measure => simp [intOf]; omega
    · have hkL : k = L := by omega
      subst hkL
      have HK : Hid (Keeps (fun _ => False) w wr) := hO
      clear hO
      rw [List.take_of_length_le (by rw [HL.out]; omega)]
      go_wp2
      go_ret
      exact ⟨rfl, HK.out⟩
end Go.Proofs.YtfbapgcopidbpaaGreat
