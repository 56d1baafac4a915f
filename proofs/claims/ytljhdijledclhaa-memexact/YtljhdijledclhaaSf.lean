import Derived.Test.YtljhdijledclhaaGm
import Derived.Test.YtljhdijledclhaaNa
namespace Go.Proofs.Ytljhdijledclhaa
open Go.RowKit
set_option linter.unusedVariables false
set_option linter.unusedSimpArgs false

theorem Game.base {w0 w : World} {X T : Nat} (h : Game w0 w X T) : Keeps (fun _ => False) w0 w := by
  obtain ⟨s, g, h1, h2, h3, h4⟩ := h.out
  exact h1.base h2.base

def kE (e : Kp) : Ent := match e.v with
  | .slice wa _ wc => ⟨e.a, e.xs.length, e.xs, wa, wc⟩
  | _ => ⟨e.a, e.xs.length, e.xs, none, 0⟩

theorem kE_at {e : Kp} {wa : Option Addr} {wc : Nat} (h : e.v = .slice wa e.xs.length wc) : (kE e).lv = .slice e.a e.xs.length e.xs.length ∧ (kE e).wv = e.v ∧ (kE e).xs = e.xs := by
  unfold kE
  rw [h]
  exact ⟨rfl, rfl, rfl⟩

theorem evs_kE (l : List Kp) (h : ∀ e ∈ l, ∃ wa wc, e.v = .slice wa e.xs.length wc) : evs (l.map kE) = l.flatMap Kp.vs := by
  induction l with
  | nil => rfl
  | cons e l ih =>
    obtain ⟨wa, wc, he⟩ := h e (by simp)
    obtain ⟨h1, h2, h3⟩ := kE_at he
    have h4 : evs ((e :: l).map kE) = (kE e).vs ++ evs (l.map kE) := by simp [evs]
    rw [h4, ih fun x hx => h x (by simp [hx])]
    simp [Kp.vs, Ent.vs, h1, h2]

theorem settled_any {w0 w : World} {X T : Nat} (h : Game w0 w X T) (hT : T ≤ 17179869184) :
    Calls Try.prog 13 #[.pointer (some ⟨X, 2, none⟩)] w fun e w' => e = .returned (.bool true) ∧ Keeps (fun _ => False) w0 w' := by
  obtain ⟨s, g, hH, hR, hS, rfl⟩ := h.out
  have hb := h.base
  have hv : ∀ (i : Nat) (e : Kp), g.K[i]? = some e → ∃ wa wc, e.v = .slice wa e.xs.length wc := fun i e he => by
    obtain ⟨a, c, h1, -, -⟩ := owns_slice (hH.row (hR.lw i e he).2).1
    exact ⟨a, c, h1⟩
  have at1 : ∀ (i : Nat) (e : Ent), (g.K.map kE)[i]? = some e → ∃ x, g.K[i]? = some x ∧ e = kE x ∧ e.lv = .slice x.a x.xs.length x.xs.length ∧ e.wv = x.v ∧ e.xs = x.xs := fun i e he => by
    rw [List.getElem?_map] at he
    obtain ⟨x, h1, h2⟩ := Option.map_eq_some_iff.1 he
    obtain ⟨wa, wc, h3⟩ := hv i x h1
    subst h2
    obtain ⟨k1, k2, k3⟩ := kE_at h3
    exact ⟨x, h1, rfl, k1, k2, k3⟩
  have hl9 : ∀ (i : Nat) (e : Ent), (g.K.map kE)[i]? = some e → s (9, i) = .row 26 1 e.lv e.xs.length (wvs e.xs) := fun i e he => by
    obtain ⟨x, h1, -, h2, h3, h4⟩ := at1 i e he
    rw [h2, h4]; exact (hR.lw i x h1).1
  have hl10 : ∀ (i : Nat) (e : Ent), (g.K.map kE)[i]? = some e → s (10, i) = .row 26 1 e.wv e.xs.length (wvs e.xs) := fun i e he => by
    obtain ⟨x, h1, -, h2, h3, h4⟩ := at1 i e he
    rw [h3, h4]; exact (hR.lw i x h1).2
  have hevs : evs (g.K.map kE) = g.K.flatMap Kp.vs := evs_kE g.K fun e he => by
    obtain ⟨i, hi⟩ := List.getElem?_of_mem he
    exact hv i e hi
  have hk4 : s (4, 0) = .row 101 4 g.sk (g.K.map kE).length (evs (g.K.map kE)) := by rw [hevs, List.length_map]; exact hR.rk
  have hok : BookOk w (g.K.map kE) g.sk := by
    refine ⟨(hH.row hk4).1, fun i e he => (hH.row (hl9 i e he)).1, fun i e he => (hH.row (hl10 i e he)).1, fun i e he => ?_, fun i j e e2 k he he2 hij hk => ?_, fun i e k he hk => ?_, fun i e k he hk => ?_⟩
    · obtain ⟨x, h1, -, -, -, h4⟩ := at1 i e he
      rw [h4]; have := hS.ks i x h1; omega
    · exact hH.row_ne (hl9 i e he) (hl9 j e2 he2) (by intro e; cases e; exact hij rfl) hk
    · exact hH.row_ne (hl9 i e he) hR.rk (by simp) hk
    · exact hH.row_ne (hl10 i e he) hR.rk (by simp) hk
  have hlen := hS.k
  refine (settle_any (fun b => w0.heap.size ≤ b) g.X _ g.sk (g.K.map kE) w (hH.blk hR.x).1 rfl hok (hH.row_ne_blk hR.rk hR.x (by simp)) (fun i e he => hH.row_ne_blk (hl9 i e he) hR.x (by simp)) (by rw [List.length_map]; omega) (fun k e b he hb => hH.row_ge (hl9 k e he) hR.base (by simp) hb) (fun b hb => hH.row_ge hR.rk hR.base (by simp) hb)).mono ?_
  rintro e w' ⟨rfl, hK⟩
  exact ⟨rfl, hb.trans hK fun b hb e => by omega⟩

end Go.Proofs.Ytljhdijledclhaa
