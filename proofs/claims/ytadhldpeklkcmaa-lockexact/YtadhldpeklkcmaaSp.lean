import Derived.Test.YtadhldpeklkcmaaSm
import Derived.Test.YtadhldpeklkcmaaL
namespace Go.Proofs.Ytadhldpeklkcmaa
open Go.RowKit
set_option linter.unusedVariables false
set_option maxRecDepth 10000

theorem Try.info84 : (Try.prog.info? 84).map (fun i => (i.zero, i.size, i.bytes)) = some (some (.agg #[.pointer none, .pointer none]), 2, 16) := by kernel_rfl

theorem append_pair {w : World} (a b : Nat) (v : Value) (n : Nat) (vs : List Value) (hown : w.ownsRow 0 84 2 v n vs) (hn : n ≤ 17179869184) :
    ∃ v' W', (∀ ty, (Builtin.append_ #[35, 35] ty #[v, .slice (some ⟨w.heap.size, 0, none⟩) 1 1]).run Try.prog (w.alloc (.cells #[.pointer (some ⟨a, 0, none⟩), .pointer (some ⟨b, 0, none⟩)] 84)) = .ok v' W') ∧ W'.ownsRow 0 84 2 v' (n + 1) (vs ++ [.pointer (some ⟨a, 0, none⟩), .pointer (some ⟨b, 0, none⟩)]) ∧ Grew w v W' v' := by
  obtain ⟨i0, hi, hz0, hz1, hz2⟩ := info_parts Try.info84
  obtain ⟨v', W', h1, h2, h3, h4⟩ := append_new 35 84 i0 (.agg #[.pointer none, .pointer none]) 2 16 Try.underlying35 hi hz0 hz1 hz2 rfl (by omega) v n vs hown #[.pointer (some ⟨a, 0, none⟩), .pointer (some ⟨b, 0, none⟩)] rfl (by
    intro y hy
    simp at hy
    rcases hy with rfl | rfl <;> rfl) (by unfold maxLen; omega) (by omega)
  exact ⟨v', W', h1, h2, h3, h4⟩

theorem segI_lt' {w : World} {a : Option Addr} {zs : List Int} (h : SegI w a zs) : ∀ x, a = some x → zs ≠ [] → x.block < w.heap.size := by
  intro x hx h0
  rcases h with e | ⟨b, p, e, hc⟩
  · exact (h0 e).elim
  · rw [hx] at e; cases e
    cases zs with
    | nil => exact (h0 rfl).elim
    | cons z zs => exact World.block_lt_of_cell? w _ (hc 0 (by simp))
theorem segW_lt' {w : World} {a : Option Addr} {zs : List UInt32} (h : SegW w a zs) : ∀ x, a = some x → zs ≠ [] → x.block < w.heap.size := by
  intro x hx h0
  rcases h with e | ⟨b, p, e, hc⟩
  · exact (h0 e).elim
  · rw [hx] at e; cases e
    cases zs with
    | nil => exact (h0 rfl).elim
    | cons z zs => exact World.block_lt_of_cell? w _ (hc 0 (by simp))

/-- What is only new changes nothing. -/
theorem Keeps.new {w w' : World} (h : Keeps (fun k => w.heap.size ≤ k) w w') : Keeps (fun _ => False) w w' := h.mono fun k hk e => by omega

/-- A pair more: what the last store leaves. -/
theorem Pst.Ok.pair {p : Pst} {N : Nat} {w w5 w6 W7 : World} (h : p.Ok N w) {X Y : Chn} (hX : X.In w5) (hXl : X.lk.length ≤ 2147483647) (hXf : ∀ k, X.F k → w.heap.size ≤ k) (k5 : Keeps (fun _ => False) w w5) (hY : Y.Rn w6) (hYf : ∀ k, Y.F k → w5.heap.size ≤ k) (k6 : Keeps (fun _ => False) w5 w6) {lv' : Value}
    (hr : W7.ownsRow 0 84 2 lv' (p.Xs.length + 1) (pvs p.Xs p.Ys ++ [.pointer (some ⟨X.b, 0, none⟩), .pointer (some ⟨Y.b, 0, none⟩)])) (hg : Grew w6 p.lv W7 lv') : Pst.Ok { p with lv := lv', Xs := p.Xs ++ [X], Ys := p.Ys ++ [Y] } N (W7.setCell ⟨p.WB, 4, none⟩ lv') ∧ Keeps (fun k => N ≤ k) w (W7.setCell ⟨p.WB, 4, none⟩ lv') := by
  obtain ⟨W8, hW8⟩ : ∃ W8, W8 = W7.setCell ⟨p.WB, 4, none⟩ lv' := ⟨_, rfl⟩
  rw [← hW8]
  have hKB : Keeps (· = p.WB) W7 W8 := by rw [hW8]; exact (Keeps.refl (· = p.WB) W7).setCell _ _ fun _ => rfl
  have hK68 : Keeps (fun k => k = p.WB ∨ some k = p.lv.ownBlock) w6 W8 := (hg.keeps.mono fun _ _ e => .inr e).trans hKB fun _ _ e => .inl e
  have hF : ∀ k, (k = p.WB ∨ some k = p.lv.ownBlock) → k < w.heap.size := by
    rintro k (e | e)
    · exact h.sep.lt 0 k (Pst.f0 e)
    · exact h.sep.lt 5 k (Pst.f5 e.symm)
  have s5 := k5.size
  have s6 := k6.size
  have h6 := h.same (k5.trans k6 fun _ _ e => e)
  have hlW : p.lv.ownBlock ≠ some p.WB := fun e => by have := h.sep.one 5 0 _ (Pst.f5 e) (Pst.f0 rfl); omega
  have hl'W : lv'.ownBlock ≠ some p.WB := by
    rcases hg.fresh with e | ⟨b, e, hb⟩
    · rw [e]; exact hlW
    · rw [e]; intro e2; cases e2; have := h.sep.lt 0 _ (Pst.f0 rfl); omega
  have hK : Keeps (fun k => k = p.WB ∨ some k = p.lv.ownBlock) w W8 := ((k5.trans k6 fun _ _ e => e).none).trans hK68 fun _ _ e => e
  refine ⟨h.push (w1 := w5) (w2 := w6) ((hX.kept k6 fun _ _ e => e).kept hK68 ?_) hXl (hY.kept hK68 ?_) s5 s6 hK68.size (fun k hk => ⟨hXf k hk, hX.lt hk⟩) (fun k hk => ⟨hYf k hk, hY.lt hk⟩) (owns_kept hr hKB fun k hk e => by subst e; exact hl'W hk) hg.fresh ?_ hK, hK.mono fun k _ e => ?_⟩
  · intro k hk e; have := hXf k hk; have := hF k e; omega
  · intro k hk e; have := hYf k hk; have := hF k e; omega
  · rw [hW8]
    exact (h6.blk.kept hg.keeps fun e => hlW e.symm).setCell 4 lv'
  · rcases e with e | e
    · exact h.geF (Pst.f0 e)
    · exact h.geF (Pst.f5 e.symm)

theorem Pst.Same.pair {p : Pst} (h : p.Same) (hl : p.Ys.length = p.Xs.length) {X Y : Chn} (e1 : Y.lk = X.lk) (e2 : Y.tk = X.tk) (e3 : Y.st = X.st) (lv : Value) : Pst.Same { p with lv := lv, Xs := p.Xs ++ [X], Ys := p.Ys ++ [Y] } := by
  refine ⟨h.one, h.two, fun j A B hA hB => ?_⟩
  rcases cget_app hA with ⟨hj, rfl⟩ | hA'
  · rcases cget_app hB with ⟨-, rfl⟩ | hB'
    · exact ⟨e1, e2, e3⟩
    · have := (List.getElem?_eq_some_iff.1 hB').1; omega
  · rcases cget_app hB with ⟨hj, rfl⟩ | hB'
    · have := (List.getElem?_eq_some_iff.1 hA').1; omega
    · exact h.ch j A B hA' hB'
end Go.Proofs.Ytadhldpeklkcmaa
