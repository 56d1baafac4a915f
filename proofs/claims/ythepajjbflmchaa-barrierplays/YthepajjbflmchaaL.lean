import Derived.Test.YthepajjbflmchaaK
import Derived.Test.YthepajjbflmchaaIn
namespace Go.Proofs.Ythepajjbflmchaa
open Go.RowKit
set_option linter.unusedVariables false

theorem lay_get? (xs : List UInt32) (q : Nat) (ys : List UInt32) (h : q + ys.length ≤ xs.length) (i : Nat) : (lay xs q ys)[i]? = if q ≤ i ∧ i < q + ys.length then ys[i - q]? else xs[i]? := by
  have hq : min q xs.length = q := by omega
  unfold lay
  by_cases h1 : i < q
  · rw [if_neg (by omega), List.append_assoc, List.getElem?_append_left (by simp; omega), List.getElem?_take, if_pos h1]
  · by_cases h2 : i < q + ys.length
    · rw [if_pos ⟨by omega, h2⟩, List.getElem?_append_left (by simp; omega), List.getElem?_append_right (by simp; omega)]
      simp [hq]
    · rw [if_neg (by omega), List.getElem?_append_right (by simp; omega), List.getElem?_drop]
      congr 1
      simp [hq]; omega

/-- What a call may do. -/
structure Res (xs ys : List UInt32) (k p f : Int) : Prop where
  len : ys.length = xs.length
  dif : ∀ i : Nat, xs[i]? ≠ ys[i]? → f = 0 ∧ k ≠ 0 ∧ ((i : Int) = p ∨ (i : Int) = p + 1)
  any : f = 0 → k ≠ 0 → ∃ i, i < xs.length ∧ xs[i]? ≠ ys[i]?

theorem res_same (xs : List UInt32) (k p f : Int) (h : f ≠ 0 ∨ k = 0) : Res xs xs k p f :=
  ⟨rfl, fun i e => absurd rfl e, fun h1 h2 => by rcases h with h | h; exact absurd h1 h; exact absurd h h2⟩

theorem cm_get {xs : List UInt32} {p : Int} (h : BrOk xs p) : xs[p.toNat]? = some (cm xs p) := by
  obtain ⟨h0, h1⟩ := h
  have : p.toNat < xs.length := by omega
  simp [cm, List.getD, this]

theorem res_come (xs : List UInt32) (k p c : Int) (h : k ≠ 0) : Res xs (coX xs p c) k p (coE xs p c) := by
  by_cases he : coE xs p c = 0
  · have hf : BrOk xs p := by
      by_cases hf : BrOk xs p
      · exact hf
      · unfold coE at he; rw [if_neg hf] at he; omega
    have e2 : coX xs p c = lay xs p.toNat [cm xs p + 1] := by unfold coX; rw [if_pos he]
    obtain ⟨h0, h1⟩ := hf
    have hfit : p.toNat + [cm xs p + 1].length ≤ xs.length := by simp; omega
    rw [e2]
    refine ⟨lay_length _ _ _ hfit, fun i hi => ⟨he, h, ?_⟩, fun _ _ => ⟨p.toNat, by omega, ?_⟩⟩
    · rw [lay_get? _ _ _ hfit] at hi
      by_cases hc : p.toNat ≤ i ∧ i < p.toNat + [cm xs p + 1].length
      · simp at hc; left; omega
      · rw [if_neg hc] at hi; exact absurd rfl hi
    · rw [lay_get? _ _ _ hfit, if_pos (by simp), cm_get ⟨h0, h1⟩]
      simp
  · have e2 : coX xs p c = xs := by unfold coX; rw [if_neg he]
    rw [e2]; exact res_same xs k p _ (.inl he)

theorem res_open (xs : List UInt32) (k p c : Int) (h : k ≠ 0) : Res xs (opX xs p c) k p (opE xs p c) := by
  by_cases he : opE xs p c = 0
  · have hf : BrOk xs p ∧ 1 ≤ ((cm xs p).toNat : Int) := by
      unfold opE at he
      by_cases hf : BrOk xs p
      · rw [if_pos hf] at he
        by_cases hc : 1 ≤ c ∧ c ≤ 4
        · rw [if_pos hc] at he
          by_cases hx : ((cm xs p).toNat : Int) < c
          · rw [if_pos hx] at he; omega
          · exact ⟨hf, by omega⟩
        · rw [if_neg hc] at he; omega
      · rw [if_neg hf] at he; omega
    have e2 : opX xs p c = lay xs p.toNat [0, ep xs p + 1] := by unfold opX; rw [if_pos he]
    obtain ⟨⟨h0, h1⟩, h2⟩ := hf
    have hfit : p.toNat + [0, ep xs p + 1].length ≤ xs.length := by simp; omega
    rw [e2]
    refine ⟨lay_length _ _ _ hfit, fun i hi => ⟨he, h, ?_⟩, fun _ _ => ⟨p.toNat, by omega, ?_⟩⟩
    · rw [lay_get? _ _ _ hfit] at hi
      by_cases hc : p.toNat ≤ i ∧ i < p.toNat + [0, ep xs p + 1].length
      · simp at hc; omega
      · rw [if_neg hc] at hi; exact absurd rfl hi
    · rw [lay_get? _ _ _ hfit, if_pos (by simp), cm_get ⟨h0, h1⟩]
      simp
      intro e
      rw [e] at h2
      simp at h2
  · have e2 : opX xs p c = xs := by unfold opX; rw [if_neg he]
    rw [e2]; exact res_same xs k p _ (.inl he)

/-- Behind the call. -/
structure Oth (w : World) (b g b2 g2 O : Nat) (xs : List UInt32) (o : OpB) (f : Int) (wx : World) : Prop where
  ex : ∃ ys, Mm wx b g ys ∧ Res xs ys o.k o.p f
  bef : Mm wx b2 g2 xs
  op : Blk wx O o.vs 36
  k : Keeps (fun _ => False) w wx

end Go.Proofs.Ythepajjbflmchaa
