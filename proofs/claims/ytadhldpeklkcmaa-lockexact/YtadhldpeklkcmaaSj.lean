import Derived.Test.YtadhldpeklkcmaaSh
namespace Go.Proofs.Ytadhldpeklkcmaa
open Go.RowKit
set_option linter.unusedVariables false
set_option maxRecDepth 10000

theorem pick_big (c : Int) (n : Nat) (w : World) (hn : 0 < n) (hn2 : (n : Int) ≤ 8589934592) (h1 : -9223372036854775808 ≤ c) (h2 : c ≤ 9223372036854775807) :
    Calls Try.prog 20 #[.int .i64 c, .int .i64 n] w fun e w' => e = .returned (.int .i64 (pk c n : Nat)) ∧ w' = w := by
  have HP : Hid (((pk c n : Nat) : Int) = _) := pk_cast c n hn
  have hn0 : ¬ ((n : Int) = 0) := by omega
  have hn1 : ¬ (n = 0) := by omega
  by_cases h0 : c < 0
  · go_enter Try.func20, Try.ntmps20
    go_wp2
    go_ret
    refine ⟨ret_int ?_, rfl⟩
    rw [HP.out, if_pos h0, ← Int.neg_tmod, Int.tmod_eq_emod_of_nonneg (by omega)]
  · go_enter Try.func20, Try.ntmps20
    go_wp2
    go_ret
    refine ⟨ret_int ?_, rfl⟩
    rw [HP.out, if_neg (by omega)]

/-- The pair of chains that is picked. -/
theorem Pst.Ok.at {p : Pst} {N : Nat} {w : World} (h : p.Ok N w) {i : Nat} (hi : i < p.Xs.length) : ∃ lb lc X Y, p.lv = .slice (some ⟨lb, 0, none⟩) p.Xs.length lc ∧ p.Xs[i]? = some X ∧ p.Ys[i]? = some Y ∧ w.cell? ⟨lb, i * 2, none⟩ = some (.pointer (some ⟨X.b, 0, none⟩)) ∧ w.cell? ⟨lb, i * 2 + 1, none⟩ = some (.pointer (some ⟨Y.b, 0, none⟩)) ∧ p.Xs.length ≤ lc ∧ lc ≤ maxLen := by
  obtain ⟨X, hX⟩ : ∃ X, p.Xs[i]? = some X := ⟨_, List.getElem?_eq_getElem hi⟩
  obtain ⟨Y, hY⟩ : ∃ Y, p.Ys[i]? = some Y := ⟨_, List.getElem?_eq_getElem (by rw [h.len]; exact hi)⟩
  have hg := pvs_get p.Xs p.Ys i X Y hX hY
  rcases h.row.2 with ⟨h0, hn0⟩ | ⟨g, cap, cur, h0, hb, hg1, hnc, hcm, hcs, htake⟩
  · omega
  · have hr := h.row
    rw [h0] at hr
    have h1 := hr.cells rfl (i * 2) _ hg.1
    have h2 := hr.cells rfl (i * 2 + 1) _ hg.2
    rw [addr_add, Nat.zero_add] at h1 h2
    exact ⟨g, cap, X, Y, h0, hX, hY, h1, h2, hnc, hcm⟩

theorem Pst.Ok.awayX {p : Pst} {N : Nat} {w : World} (h : p.Ok N w) {i : Nat} {X : Chn} (hX : p.Xs[i]? = some X) : ¬ X.F p.g ∧ ¬ X.F p.mb :=
  ⟨fun e => by have := h.sep.one _ _ _ (Pst.fX hX e) (Pst.f1 (.inr rfl)); omega, fun e => by have := h.sep.one _ _ _ (Pst.fX hX e) (Pst.f1 (.inl rfl)); omega⟩
theorem Pst.Ok.awayY {p : Pst} {N : Nat} {w : World} (h : p.Ok N w) {i : Nat} {X : Chn} (hX : p.Ys[i]? = some X) : ¬ X.F p.h ∧ ¬ X.F p.nb :=
  ⟨fun e => by have := h.sep.one _ _ _ (Pst.fY hX e) (Pst.f2 (.inr rfl)); omega, fun e => by have := h.sep.one _ _ _ (Pst.fY hX e) (Pst.f2 (.inl rfl)); omega⟩

/-- The cells that a call of does looks at first. -/
def dcell (p : Pst) (o : Opr) (B lb lc i xb yb : Nat) (w : World) : Prop := w.cell? ⟨p.WB, 4, none⟩ = some (.slice (some ⟨lb, 0, none⟩) p.Xs.length lc) ∧ w.cell? ⟨B, 1, none⟩ = some (.int .i64 o.who) ∧ w.cell? ⟨lb, i * 2, none⟩ = some (.pointer (some ⟨xb, 0, none⟩)) ∧ w.cell? ⟨lb, i * 2 + 1, none⟩ = some (.pointer (some ⟨yb, 0, none⟩))
theorem dcell.kept {p : Pst} {o : Opr} {B lb lc i xb yb : Nat} {w w' : World} (h : dcell p o B lb lc i xb yb w) {S : Nat → Prop} (hK : Keeps S w w') (h1 : ¬ S p.WB) (h2 : ¬ S B) (h3 : ¬ S lb) : dcell p o B lb lc i xb yb w' :=
  ⟨cell_kept h.1 hK h1, cell_kept h.2.1 hK h2, cell_kept h.2.2.1 hK h3, cell_kept h.2.2.2 hK h3⟩


/-- The cells that a call of a chain looks at. -/
def ecell (p : Pst) (C xb yb : Nat) (w : World) : Prop := w.cell? ⟨C, 0, none⟩ = some (.pointer (some ⟨xb, 0, none⟩)) ∧ w.cell? ⟨C, 1, none⟩ = some (.pointer (some ⟨yb, 0, none⟩)) ∧ w.cell? ⟨p.WB, 0, none⟩ = some (.pointer (some ⟨p.mb, 0, none⟩)) ∧ w.cell? ⟨p.WB, 1, none⟩ = some (.pointer (some ⟨p.nb, 0, none⟩))
theorem ecell_of {p : Pst} {N C xb yb : Nat} {w : World} (h : p.Ok N w) (hC : Blk w C [.pointer (some ⟨xb, 0, none⟩), .pointer (some ⟨yb, 0, none⟩)] 84) : ecell p C xb yb w := ⟨hC.cell (i := 0) rfl, hC.cell (i := 1) rfl, h.blk.cell (i := 0) rfl, h.blk.cell (i := 1) rfl⟩

/-- While a call of a chain is on its way: where the play stands, and the pair's block. -/
def Mid (N : Nat) (w : World) (C xb yb : Nat) (p : Pst) (w' : World) : Prop := p.Ok N w' ∧ Keeps (fun k => N ≤ k) w w' ∧ Blk w' C [.pointer (some ⟨xb, 0, none⟩), .pointer (some ⟨yb, 0, none⟩)] 84 ∧ ∀ c k, p.F c k → k ≠ C
theorem Mid.same {N : Nat} {w : World} {C xb yb : Nat} {p : Pst} {w1 w2 : World} (h : Mid N w C xb yb p w1) (hK : Keeps (fun _ => False) w1 w2) : Mid N w C xb yb p w2 :=
  ⟨h.1.same hK, h.2.1.trans hK fun _ _ e => e.elim, h.2.2.1.kept hK (fun e => e), h.2.2.2⟩
theorem Mid.drew {N : Nat} {w : World} {C xb yb : Nat} {p : Pst} {w1 : World} (h : Mid N w C xb yb p w1) : Mid N w C xb yb p w1.drew := h.same (Keeps.refl _ _).drew
theorem Mid.cells {N : Nat} {w : World} {C xb yb : Nat} {p : Pst} {w1 : World} (h : Mid N w C xb yb p w1) : ecell p C xb yb w1 := ecell_of h.1 h.2.2.1

theorem Mid.stepX {N : Nat} {w : World} {C xb yb : Nat} {p : Pst} {w1 w2 : World} (h : Mid N w C xb yb p w1) {i : Nat} {X : Chn} (hX : p.Xs[i]? = some X) {r : StepR} {e : Ending} (hc : CallP X p.mb p.g r w1 e w2) :
    ∃ vt, Mid N w C xb yb { p with xs := r.xs, Xs := p.Xs.set i ⟨X.b, X.vl, vt, X.lk, r.tk, r.st⟩ } w2 := by
  obtain ⟨-, vt, hin, hm, hK, hf⟩ := hc
  have hok := h.1.chX hX hin hm hK hf
  have hCl := h.2.2.1.lt
  refine ⟨vt, hok, h.2.1.trans hK ?_, h.2.2.1.kept hK ?_, ?_⟩
  · rintro k - (e | e)
    · exact h.1.geF (Pst.fX hX e)
    · exact h.1.geF (Pst.f1 (.inr e))
  · rintro (e | e)
    · exact h.2.2.2 _ _ (Pst.fX hX e) rfl
    · exact h.2.2.2 _ _ (Pst.f1 (.inr e)) rfl
  · rintro c k (e | e | e | e | e | e | e | ⟨j, D, hD, e, hk⟩ | e)
    · exact h.2.2.2 c k (.inl e)
    · exact h.2.2.2 c k (.inr (.inl e))
    · exact h.2.2.2 c k (.inr (.inr (.inl e)))
    · exact h.2.2.2 c k (.inr (.inr (.inr (.inl e))))
    · exact h.2.2.2 c k (.inr (.inr (.inr (.inr (.inl e)))))
    · exact h.2.2.2 c k (.inr (.inr (.inr (.inr (.inr (.inl e))))))
    · exact h.2.2.2 c k (.inr (.inr (.inr (.inr (.inr (.inr (.inl e)))))))
    · rcases cget_set hD with ⟨rfl, rfl, -⟩ | ⟨hj, hD⟩
      · rcases hk with e2 | e2 | e2
        · exact h.2.2.2 _ k (Pst.fX hX (.inl e2))
        · exact h.2.2.2 _ k (Pst.fX hX (.inr (.inl e2)))
        · rcases hf with e3 | ⟨b, e3, hb⟩
          · exact h.2.2.2 _ k (Pst.fX hX (.inr (.inr (by rw [← e3]; exact e2))))
          · have e2 : vt.ownBlock = some k := e2
            rw [e3] at e2; cases e2; omega
      · exact h.2.2.2 _ k (Pst.fX hD hk)
    · exact h.2.2.2 c k (.inr (.inr (.inr (.inr (.inr (.inr (.inr (.inr e))))))))

theorem Mid.stepY {N : Nat} {w : World} {C xb yb : Nat} {p : Pst} {w1 w2 : World} (h : Mid N w C xb yb p w1) {i : Nat} {X : Chn} (hX : p.Ys[i]? = some X) {r : StepR} {e : Ending} (hc : RallP X p.nb p.h r w1 e w2) :
    ∃ vt, Mid N w C xb yb { p with zs := r.xs, Ys := p.Ys.set i ⟨X.b, X.vl, vt, X.lk, r.tk, r.st⟩ } w2 := by
  obtain ⟨-, vt, hin, hm, hK, hf⟩ := hc
  have hok := h.1.chY hX hin hm hK hf
  have hCl := h.2.2.1.lt
  refine ⟨vt, hok, h.2.1.trans hK ?_, h.2.2.1.kept hK ?_, ?_⟩
  · rintro k - (e | e)
    · exact h.1.geF (Pst.fY hX e)
    · exact h.1.geF (Pst.f2 (.inr e))
  · rintro (e | e)
    · exact h.2.2.2 _ _ (Pst.fY hX e) rfl
    · exact h.2.2.2 _ _ (Pst.f2 (.inr e)) rfl
  · rintro c k (e | e | e | e | e | e | e | e | ⟨j, D, hD, e, hk⟩)
    · exact h.2.2.2 c k (.inl e)
    · exact h.2.2.2 c k (.inr (.inl e))
    · exact h.2.2.2 c k (.inr (.inr (.inl e)))
    · exact h.2.2.2 c k (.inr (.inr (.inr (.inl e))))
    · exact h.2.2.2 c k (.inr (.inr (.inr (.inr (.inl e)))))
    · exact h.2.2.2 c k (.inr (.inr (.inr (.inr (.inr (.inl e))))))
    · exact h.2.2.2 c k (.inr (.inr (.inr (.inr (.inr (.inr (.inl e)))))))
    · exact h.2.2.2 c k (.inr (.inr (.inr (.inr (.inr (.inr (.inr (.inl e))))))))
    · rcases cget_set hD with ⟨rfl, rfl, -⟩ | ⟨hj, hD⟩
      · rcases hk with e2 | e2 | e2
        · exact h.2.2.2 _ k (Pst.fY hX (.inl e2))
        · exact h.2.2.2 _ k (Pst.fY hX (.inr (.inl e2)))
        · rcases hf with e3 | ⟨b, e3, hb⟩
          · exact h.2.2.2 _ k (Pst.fY hX (.inr (.inr (by rw [← e3]; exact e2))))
          · have e2 : vt.ownBlock = some k := e2
            rw [e3] at e2; cases e2; omega
      · exact h.2.2.2 _ k (Pst.fY hD hk)

/-- Both sides of a pair have made the same step. -/
theorem Pst.Same.step {p : Pst} (h : p.Same) {i : Nat} {X Y : Chn} (hX : p.Xs[i]? = some X) (hY : p.Ys[i]? = some Y) (r : StepR) (vt vt' : Value) :
    Pst.Same { p with xs := r.xs, zs := r.xs, Xs := p.Xs.set i ⟨X.b, X.vl, vt, X.lk, r.tk, r.st⟩, Ys := p.Ys.set i ⟨Y.b, Y.vl, vt', Y.lk, r.tk, r.st⟩ } := by
  refine ⟨rfl, h.two, fun j A B hA hB => ?_⟩
  rcases cget_set hA with ⟨rfl, rfl, -⟩ | ⟨hj, hA⟩
  · rcases cget_set hB with ⟨-, rfl, -⟩ | ⟨hj, -⟩
    · exact ⟨(h.ch _ X Y hX hY).1, rfl, rfl⟩
    · exact (hj rfl).elim
  · rcases cget_set hB with ⟨e, -, -⟩ | ⟨-, hB⟩
    · exact (hj e).elim
    · exact h.ch j A B hA hB
end Go.Proofs.Ytadhldpeklkcmaa
