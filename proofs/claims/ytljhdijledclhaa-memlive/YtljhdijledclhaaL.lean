import Derived.Test.YtljhdijledclhaaI
import Derived.Test.YtljhdijledclhaaF
import Derived.Deep.CutBlock
import Derived.Deep.CutRange
namespace Go.Proofs.Ytljhdijledclhaa
open Go.RowKit Go.Shelf
attribute [local go_sem] Oper.semAt_some func_nil57 func_nil58
set_option linter.unusedVariables false

/-- Two memories, and the lists of what they should hold. -/
structure Tw (W : World) (T a ga b gb gx gy : Nat) (xs ys : List UInt32) : Prop where
  t : Blk W T [.pointer (some ⟨a, 0, none⟩), .pointer (some ⟨b, 0, none⟩), .slice (some ⟨gx, 0, none⟩) xs.length xs.length, .slice (some ⟨gy, 0, none⟩) ys.length ys.length] 67
  ma : Mm W a ga xs
  mb : Mm W b gb ys
  x : Blk W gx (wvs xs) 26
  y : Blk W gy (wvs ys) 26

/-- The blocks that a write may change. -/
def Hot (ga gb gx gy : Nat) : Nat → Prop := fun k => k = ga ∨ k = gb ∨ k = gx ∨ k = gy

structure Far (T a ga b gb gx gy : Nat) : Prop where
  t : ¬ Hot ga gb gx gy T
  a : ¬ Hot ga gb gx gy a
  b : ¬ Hot ga gb gx gy b
  d1 : ga ≠ gb
  d2 : ga ≠ gx
  d3 : ga ≠ gy
  d4 : gb ≠ gx
  d5 : gb ≠ gy
  d6 : gx ≠ gy

theorem Tw.kept {S : Nat → Prop} {W W' : World} {T a ga b gb gx gy : Nat} {xs ys : List UInt32} (h : Tw W T a ga b gb gx gy xs ys) (hK : Keeps S W W') (hS : ∀ k, S k → k ≠ T ∧ k ≠ a ∧ k ≠ ga ∧ k ≠ b ∧ k ≠ gb ∧ k ≠ gx ∧ k ≠ gy) :
    Tw W' T a ga b gb gx gy xs ys :=
  ⟨h.t.kept hK fun e => (hS _ e).1 rfl, h.ma.kept hK (fun e => (hS _ e).2.1 rfl) (fun e => (hS _ e).2.2.1 rfl), h.mb.kept hK (fun e => (hS _ e).2.2.2.1 rfl) (fun e => (hS _ e).2.2.2.2.1 rfl),
    h.x.kept hK fun e => (hS _ e).2.2.2.2.2.1 rfl, h.y.kept hK fun e => (hS _ e).2.2.2.2.2.2 rfl⟩
theorem Tw.grown {W W' : World} {T a ga b gb gx gy : Nat} {xs ys : List UInt32} (h : Tw W T a ga b gb gx gy xs ys) (hK : Keeps (fun _ => False) W W') : Tw W' T a ga b gb gx gy xs ys := h.kept hK fun _ e => e.elim

set_option maxRecDepth 20000 in
set_option maxHeartbeats 1000000 in
theorem of_in (a : Option Addr) (c n : Nat) (xs : List UInt32) (w : World) (hx : SegW w a xs) (hn : xs.length = n * 16) (h1 : 1 ≤ n) (h2 : n ≤ 1024) :
    Calls Try.prog 32 #[.slice a xs.length c] w fun e w' => ∃ b', w.heap.size < b' ∧ e = .returned (.tuple #[.pointer (some ⟨b', 0, none⟩), .int .i64 0]) ∧ Mm w' b' w.heap.size xs ∧ Keeps (fun _ => False) w w' := by
  have HC : Hid (Calls _ _ _ _ _) := copied_any a c xs w hx (by omega)
  have HS : Hid (xs.length ≤ 16384) := by show xs.length ≤ 16384; omega
  obtain ⟨L, hL⟩ : ∃ L, L = xs.length := ⟨_, rfl⟩
  have HL : Hid (L = xs.length) := hL
  rw [← hL] at HC hn ⊢
  have q1 : ¬ ((16384 : Int) < (L : Int)) := by omega
  have q2 : ((L : Int) == 0) = false := by simp; omega
  have q3 : (Int.tmod (L : Int) 16 != 0) = false := by
    have : Int.tmod (L : Int) 16 = 0 := by rw [Int.tmod_eq_emod_of_nonneg (by omega)]; omega
    simp [this]
  have q4 : ((L : Int) % 16 != 0) = false := by
    have : (L : Int) % 16 = 0 := by omega
    simp [this]
  clear hn h1 h2 hL hx
  go_enter Try.func32, Try.ntmps32
  go_wp2_with fail
  refine HC.out.mono ?_
  rintro e w1 ⟨rfl, h1, h2⟩
  have H1 : Hid (Blk _ _ _ _) := h1
  have H2 : Hid (Keeps _ _ _) := h2
  clear h1 h2 HC
  go_wp2
  go_ret2
  have hlt : w.heap.size < w1.heap.size := H1.out.lt
  refine ⟨_, hlt, rfl, ⟨by omega, ?_, H1.out.alloc _, HS.out⟩, H2.out.alloc _⟩
  rw [← HL.out]; exact Blk.new w1 _ 104

set_option maxHeartbeats 2000000 in
theorem tunlike_any (T a ga b gb gx gy : Nat) (xs ys : List UInt32) (p : Nat) (w : World) (h : Tw w T a ga b gb gx gy xs ys) (hp : p ≤ 16384) :
    Calls Try.prog 57 #[.pointer (some ⟨T, 0, none⟩), .int .i64 p] w fun e w' => e = .returned (.bool (decide (Unl xs ys p))) ∧ ∃ k, w' = w.drewN k := by
  have c2 := h.t.cell (i := 2) rfl
  have c3 := h.t.cell (i := 3) rfl
  have s1 := h.ma.small
  have s2 := h.mb.small
  by_cases h1 : xs.length ≤ p
  · rw [show decide (Unl xs ys p) = true from decide_eq_true (.inl h1)]
    obtain ⟨L, hL⟩ : ∃ L, L = xs.length := ⟨_, rfl⟩
    rw [← hL] at c2 h1 s1
    have g1 : decide ((L : Int) ≤ (p : Int)) = true := decide_eq_true (by omega)
    clear h hL s2 c3
    go_enter Try.func57, Try.ntmps57
    go_wp2
    go_quiet (fail)
    go_wp2
    go_ret
    exact ⟨ret_bool (by simp <;> omega), _, rfl⟩
  · by_cases h2 : ys.length ≤ p
    · rw [show decide (Unl xs ys p) = true from decide_eq_true (.inr (.inl h2))]
      obtain ⟨L, hL⟩ : ∃ L, L = xs.length := ⟨_, rfl⟩
      obtain ⟨M, hM⟩ : ∃ M, M = ys.length := ⟨_, rfl⟩
      rw [← hL] at c2 h1 s1
      rw [← hM] at c3 h2 s2
      have g1 : decide ((L : Int) ≤ (p : Int)) = false := decide_eq_false (by omega)
      have g2 : decide ((M : Int) ≤ (p : Int)) = true := decide_eq_true (by omega)
      clear h hL hM
      go_enter Try.func57, Try.ntmps57
      go_wp2
      go_quiet (fail)
      go_wp2
      go_ret
      exact ⟨ret_bool (by simp <;> omega), _, rfl⟩
    · have hp1 : p < xs.length := by omega
      have hp2 : p < ys.length := by omega
      have d1 := h.x.cell (wvs_get xs p hp1)
      have d2 := h.y.cell (wvs_get ys p hp2)
      have e : decide (Unl xs ys p) = !((xs[p]'hp1).toNat == (ys[p]'hp2).toNat) := by
        by_cases he : xs[p]'hp1 = ys[p]'hp2
        · rw [decide_eq_false (fun h : Unl xs ys p => by
            rcases h with h | h | h
            · exact h1 h
            · exact h2 h
            · exact h (by rw [List.getElem?_eq_getElem hp1, List.getElem?_eq_getElem hp2, he]))]
          simp [he]
        · rw [decide_eq_true (show Unl xs ys p from .inr (.inr fun e => he (by
            rw [List.getElem?_eq_getElem hp1, List.getElem?_eq_getElem hp2] at e
            exact Option.some.inj e)))]
          have : ¬ ((xs[p]'hp1).toNat = (ys[p]'hp2).toNat) := fun e => he (UInt32.toNat_inj.1 e)
          simp [this]
      rw [e]
      obtain ⟨L, hL⟩ : ∃ L, L = xs.length := ⟨_, rfl⟩
      obtain ⟨M, hM⟩ : ∃ M, M = ys.length := ⟨_, rfl⟩
      obtain ⟨u, hu⟩ : ∃ u : Nat, u = (xs[p]'hp1).toNat := ⟨_, rfl⟩
      obtain ⟨v, hv⟩ : ∃ v : Nat, v = (ys[p]'hp2).toNat := ⟨_, rfl⟩
      rw [← hu] at d1 ⊢
      rw [← hv] at d2 ⊢
      clear hu hv e
      rw [← hL] at c2 h1 s1
      rw [← hM] at c3 h2 s2
      have g1 : decide ((L : Int) ≤ (p : Int)) = false := decide_eq_false (by omega)
      have g2 : decide ((M : Int) ≤ (p : Int)) = false := decide_eq_false (by omega)
      have i1 : (p : Int) < (L : Int) := by omega
      have i2 : (p : Int) < (M : Int) := by omega
      have g3 : (decide ((L : Int) ≤ (p : Int)) || decide ((M : Int) ≤ (p : Int))) = false := by rw [g1, g2]; rfl
      clear h hL hM hp1 hp2
      go_enter Try.func57, Try.ntmps57
      go_wp2
      go_quiet (fail)
      go_wp2
      go_ret
      refine ⟨ret_bool ?_, _, rfl⟩
      by_cases huv : u = v
      · subst huv; simp <;> omega
      · have q1 : ((u : Int) != (v : Int)) = true := by rw [bne_iff_ne]; omega
        have q2 : (u == v) = false := by simp [huv]
        simp [q1, q2]

set_option maxHeartbeats 1000000 in
theorem talike_any (T a ga b gb gx gy : Nat) (xs ys : List UInt32) (p q : Nat) (w : World) (h : Tw w T a ga b gb gx gy xs ys) (hq : q ≤ 16384) (hno : ∀ j, p ≤ j → j < q → ¬ Unl xs ys j) :
    Calls Try.prog 56 #[.pointer (some ⟨T, 0, none⟩), .int .i64 p, .int .i64 q] w fun e w' => e = .returned (.bool true) ∧ ∃ k, w' = w.drewN k := by
  have HT : Hid (Tw w T a ga b gb gx gy xs ys) := h
  have HN : Hid (∀ j, p ≤ j → j < q → ¬ Unl xs ys j) := hno
  clear h hno
  by_cases hpq : q ≤ p
  · go_enter Try.func56, Try.ntmps56
    go_wp2
    go_loopw [7] (fun i wr => i = .int .i64 (p : Int) ∧ wr = w) (fun i _ => 0)
    case atStart => exact ⟨rfl, rfl⟩
    case round =>
      obtain ⟨rfl, rfl⟩ := hrel
      go_wp2
      go_ret
      exact ⟨rfl, 0, rfl⟩
  · have hq1 : (q : Int) ≤ 16384 := by omega
    go_enter Try.func56, Try.ntmps56
    go_wp2
    go_loopw [7] (fun i wr => ∃ j k : Nat, p ≤ j ∧ j ≤ q ∧ i = .int .i64 (j : Int) ∧ wr = w.drewN k) (fun i _ => q - (intOf i).toNat)
    case atStart => exact ⟨p, 0, by omega, by omega, rfl, rfl⟩
    case round =>
      obtain ⟨j, k, hj1, hj2, rfl, hw⟩ := hrel
      have HW : Hid (wr = w.drewN k) := hw
      have HC : Hid (Calls _ _ _ wr _) := tunlike_any T a ga b gb gx gy xs ys j wr (by rw [hw]; exact HT.out.grown ((Keeps.refl _ w).drewN k)) (by omega)
      by_cases hlt : j < q
      · rw [decide_eq_false (HN.out j hj1 hlt)] at HC
        clear hw
        go_wp2_with fail
        refine HC.out.mono ?_
        rintro e w2 ⟨rfl, k2, hk2⟩
        have HW2 : Hid (w2 = w.drewN (k + k2)) := by
          show w2 = w.drewN (k + k2)
          rw [hk2, HW.out]; exact World.drewN_drewN w k k2
        clear hk2 HC
        go_wp2
        go_roundw
        case rel => exact ⟨j + 1, _, by omega, by omega, by go_num, HW2.out⟩
        case measure => simp [intOf]; omega
      · obtain rfl : j = q := by omega
        clear hw HC
        go_wp2
        go_ret
        exact ⟨rfl, k, HW.out⟩

end Go.Proofs.Ytljhdijledclhaa
