import Derived.Test.YtljhdijledclhaaDc
import Derived.Test.YtljhdijledclhaaMl
namespace Go.Proofs.Ytljhdijledclhaa
open Go.RowKit
set_option linter.unusedVariables false
set_option linter.unusedSimpArgs false

theorem Try.info96 : (Try.prog.info? 96).map (fun i => (i.zero, i.size, i.bytes)) = some (some (.agg #[.nilFunc, .int .i64 0, .int .i64 0]), 3, 24) := by kernel_rfl

theorem append_it {w : World} (c d : Nat) (i j : Int) (v : Value) (n : Nat) (vs : List Value) (hown : w.ownsRow 0 96 3 v n vs) (hn : n ≤ 8589934592) :
    ∃ v' W', (∀ ty, (Builtin.append_ #[33, 33] ty #[v, .slice (some ⟨w.heap.size, 0, none⟩) 1 1]).run Try.prog (w.alloc (.cells #[.func (.func 54) #[] #[ptr c, ptr d], .int .i64 i, .int .i64 j] 96)) = .ok v' W') ∧ W'.ownsRow 0 96 3 v' (n + 1) (vs ++ [.func (.func 54) #[] #[ptr c, ptr d], .int .i64 i, .int .i64 j]) ∧ Grew w v W' v' := by
  obtain ⟨i0, hi, hz0, hz1, hz2⟩ := info_parts Try.info96
  obtain ⟨v', W', h1, h2, h3, h4⟩ := append_new 33 96 i0 (.agg #[.nilFunc, .int .i64 0, .int .i64 0]) 3 24 Try.underlying33 hi hz0 hz1 hz2 rfl (by omega) v n vs hown #[.func (.func 54) #[] #[ptr c, ptr d], .int .i64 i, .int .i64 j] rfl (by
    intro y hy
    simp at hy
    rcases hy with rfl | rfl | rfl <;> rfl) (by unfold maxLen; omega) (by omega)
  exact ⟨v', W', h1, h2, h3, h4⟩

theorem Rel.pushI {s : Nat × Nat → Ob} {g : GS} {w0 : World} (h : Rel s g w0) (t : It) (p q : Pr) (si' : Value) (hp : g.P[t.i]? = some p) (hq : g.P[t.j]? = some q) :
    Rel (upd (upd (upd (upd s (7, g.I.length) (.blk t.c [ptr p.b] 42)) (8, g.I.length) (.blk t.d [ptr q.b] 42)) (3, 0) (.row 96 3 si' (g.I.length + 1) (g.I.flatMap It.vs ++ t.vs))) (1, 0) (.blk g.X [g.sl, si', g.sk] 38)) { g with si := si', I := g.I ++ [t] } w0 := by
  obtain ⟨n, hn⟩ : ∃ n, n = g.I.length := ⟨_, rfl⟩
  rw [← hn]
  obtain ⟨s', hs'⟩ : ∃ s', s' = upd (upd (upd (upd s (7, n) (.blk t.c [ptr p.b] 42)) (8, n) (.blk t.d [ptr q.b] 42)) (3, 0) (.row 96 3 si' (n + 1) (g.I.flatMap It.vs ++ t.vs))) (1, 0) (.blk g.X [g.sl, si', g.sk] 38) := ⟨_, rfl⟩
  rw [← hs']
  have ne : ∀ a b, (a, b) ≠ (7, n) → (a, b) ≠ (8, n) → (a, b) ≠ (3, 0) → (a, b) ≠ (1, 0) → s' (a, b) = s (a, b) := fun a b h1 h2 h3 h4 => by
    rw [hs', upd_ne _ _ _ _ h4, upd_ne _ _ _ _ h3, upd_ne _ _ _ _ h2, upd_ne _ _ _ _ h1]
  refine ⟨?_, ?_, ?_, ?_, ?_, fun i p hp => ?_, fun i u hu => ?_, fun i e he => ?_⟩
  · rw [ne _ _ (by simp) (by simp) (by simp) (by simp)]; exact h.base
  · rw [hs', upd_self]
  · rw [ne _ _ (by simp) (by simp) (by simp) (by simp)]; exact h.rl
  · rw [hs', upd_ne _ _ _ _ (by simp), upd_self]
    show Ob.row 96 3 si' (n + 1) _ = Ob.row 96 3 si' (g.I ++ [t]).length ((g.I ++ [t]).flatMap It.vs)
    rw [List.length_append, List.flatMap_append, ← hn]
    simp
  · rw [ne _ _ (by simp) (by simp) (by simp) (by simp)]; exact h.rk
  · rw [ne _ _ (by simp) (by simp) (by simp) (by simp), ne _ _ (by simp) (by simp) (by simp) (by simp)]; exact h.mm i p hp
  · have hu' : (g.I ++ [t])[i]? = some u := hu
    by_cases hi : i < n
    · rw [List.getElem?_append_left (by omega)] at hu'
      rw [ne _ _ (by intro e; cases e; omega) (by simp) (by simp) (by simp), ne _ _ (by simp) (by intro e; cases e; omega) (by simp) (by simp)]
      exact h.it i u hu'
    · have hlt := (List.getElem?_eq_some_iff.1 hu').1
      rw [List.length_append, List.length_singleton] at hlt
      obtain rfl : i = n := by omega
      rw [List.getElem?_append_right (by omega), ← hn, Nat.sub_self] at hu'
      cases hu'
      refine ⟨p, q, hp, hq, ?_, ?_⟩
      · rw [hs', upd_ne _ _ _ _ (by simp), upd_ne _ _ _ _ (by simp), upd_ne _ _ _ _ (by simp), upd_self]
      · rw [hs', upd_ne _ _ _ _ (by simp), upd_ne _ _ _ _ (by simp), upd_self]
  · rw [ne _ _ (by simp) (by simp) (by simp) (by simp), ne _ _ (by simp) (by simp) (by simp) (by simp)]; exact h.lw i e he

theorem Small.pushI {g : GS} {T : Nat} {t : It} {si' : Value} (h : Small g T) : Small { g with si := si', I := g.I ++ [t] } (T + 1) := by
  have h' := h.mono (Nat.le_succ T)
  refine ⟨h'.p1, h'.p12, h'.px, ?_, h'.k, h'.ks⟩
  show (g.I ++ [t]).length ≤ _
  rw [List.length_append, List.length_singleton]
  have := h.i; omega

/-- What the program reads of the pairs. -/
theorem Has.s4 {s : Nat × Nat → Ob} {w : World} {X lb lc n i j : Nat} {P : List Pr} {p q : Pr} {x1 x2 : Value} (h : Has s w) (h1 : s (1, 0) = .blk X [.slice (some ⟨lb, 0, none⟩) n lc, x1, x2] 38) (h2 : s (2, 0) = .row 85 2 (.slice (some ⟨lb, 0, none⟩) n lc) n (P.flatMap Pr.vs)) (hp : P[i]? = some p) (hq : P[j]? = some q) :
    w.cell? ⟨X, 0, none⟩ = some (.slice (some ⟨lb, 0, none⟩) n lc) ∧ w.cell? ⟨lb, i * 2, none⟩ = some (.pointer (some ⟨p.b, 0, none⟩)) ∧ w.cell? ⟨lb, j * 2, none⟩ = some (.pointer (some ⟨q.b, 0, none⟩)) := by
  have hr := (h.row h2).1
  obtain ⟨v1, -⟩ := pvs_get P i p hp
  obtain ⟨v2, -⟩ := pvs_get P j q hq
  obtain ⟨b1, e1, d1⟩ := owns_cellK hr v1
  obtain ⟨b2, e2, d2⟩ := owns_cellK hr v2
  cases e1
  cases e2
  exact ⟨(h.blk h1).1.cell rfl, d1, d2⟩

/-- An iterator is kept. -/
theorem it_chain {w0 w : World} {s : Nat × Nat → Ob} {g : GS} {X T i j lb lc : Nat} {p q : Pr} (hH : Has s w) (hR : Rel s g w0) (hS : Small g T) (hX : g.X = X) (hT : T ≤ 8589934592) (hp : g.P[i]? = some p) (hq : g.P[j]? = some q) (hsl : g.sl = .slice (some ⟨lb, 0, none⟩) g.P.length lc) :
    ∃ (ia ia' : Option Addr) (n ic ic' : Nat) (W4 : World), w.cell? ⟨X, 1, none⟩ = some (.slice ia n ic) ∧ ((w.alloc (.cells #[ptr p.b] 42)).alloc (.cells #[ptr q.b] 42)).cell? ⟨X, 1, none⟩ = some (.slice ia n ic) ∧
      (((w.alloc (.cells #[ptr p.b] 42)).alloc (.cells #[ptr q.b] 42)).alloc (.cells #[.func (.func 54) #[] #[ptr w.heap.size, ptr (w.heap.size + 1)], .int .i64 i, .int .i64 j] 96)).cell? ⟨X, 1, none⟩ = some (.slice ia n ic) ∧
      (∀ ty, (Builtin.append_ #[33, 33] ty #[.slice ia n ic, .slice (some ⟨w.heap.size + 2, 0, none⟩) 1 1]).run Try.prog (((w.alloc (.cells #[ptr p.b] 42)).alloc (.cells #[ptr q.b] 42)).alloc (.cells #[.func (.func 54) #[] #[ptr w.heap.size, ptr (w.heap.size + 1)], .int .i64 i, .int .i64 j] 96)) = .ok (.slice ia' (n + 1) ic') W4) ∧
      W4.cell? ⟨X, 1, none⟩ = some (.slice ia n ic) ∧ W4.frozen? ⟨X, 1, none⟩ = false ∧
      (W4.cell? ⟨X, 0, none⟩ = some (.slice (some ⟨lb, 0, none⟩) g.P.length lc) ∧ W4.cell? ⟨lb, i * 2, none⟩ = some (.pointer (some ⟨p.b, 0, none⟩)) ∧ W4.cell? ⟨lb, j * 2, none⟩ = some (.pointer (some ⟨q.b, 0, none⟩))) ∧
      ((W4.setCell ⟨X, 1, none⟩ (.slice ia' (n + 1) ic')).cell? ⟨X, 0, none⟩ = some (.slice (some ⟨lb, 0, none⟩) g.P.length lc) ∧ (W4.setCell ⟨X, 1, none⟩ (.slice ia' (n + 1) ic')).cell? ⟨lb, i * 2, none⟩ = some (.pointer (some ⟨p.b, 0, none⟩)) ∧ (W4.setCell ⟨X, 1, none⟩ (.slice ia' (n + 1) ic')).cell? ⟨lb, j * 2, none⟩ = some (.pointer (some ⟨q.b, 0, none⟩))) ∧
      Game w0 (W4.setCell ⟨X, 1, none⟩ (.slice ia' (n + 1) ic')) X (T + 1) := by
  subst hX
  obtain ⟨W1, hW1⟩ : ∃ W, W = w.alloc (.cells #[ptr p.b] 42) := ⟨_, rfl⟩
  obtain ⟨W2, hW2⟩ : ∃ W, W = W1.alloc (.cells #[ptr q.b] 42) := ⟨_, rfl⟩
  have z1 : W1.heap.size = w.heap.size + 1 := by rw [hW1, World.size_alloc]
  have z2 : W2.heap.size = w.heap.size + 2 := by rw [hW2, World.size_alloc, z1]
  have H1 := hH.newBlk (w' := W1) (b := w.heap.size) (7, g.I.length) (by rw [hW1]; exact Blk.new w #[ptr p.b] 42) (Nat.le_refl _) (by rw [hW1]; exact (Keeps.refl _ w).alloc _)
  have H2 := H1.newBlk (w' := W2) (b := w.heap.size + 1) (8, g.I.length) (by rw [hW2, ← z1]; exact Blk.new W1 #[ptr q.b] 42) (by omega) (by rw [hW2]; exact (Keeps.refl _ W1).alloc _)
  have n2 : ∀ a b, a < 7 → upd (upd s (7, g.I.length) (.blk w.heap.size [ptr p.b] 42)) (8, g.I.length) (.blk (w.heap.size + 1) [ptr q.b] 42) (a, b) = s (a, b) := fun a b ha => by
    rw [upd_ne _ _ _ _ (by intro e; cases e; omega), upd_ne _ _ _ _ (by intro e; cases e; omega)]
  obtain ⟨hr, nr⟩ := H2.row (o := (3, 0)) ((n2 _ _ (by omega)).trans hR.ri)
  have hi := hS.i
  obtain ⟨ia, ic, hsi, -, -⟩ := owns_slice hr
  obtain ⟨v', W4, hap, hown, hG⟩ := append_it w.heap.size (w.heap.size + 1) i j g.si g.I.length _ hr (by omega)
  obtain ⟨ia', ic', hsi', -, -⟩ := owns_slice hown
  have H4 := nr _ _ _ _ hown hG
  have x4 : upd (upd (upd s (7, g.I.length) (.blk w.heap.size [ptr p.b] 42)) (8, g.I.length) (.blk (w.heap.size + 1) [ptr q.b] 42)) (3, 0) (.row 96 3 v' (g.I.length + 1) (g.I.flatMap It.vs ++ [.func (.func 54) #[] #[ptr w.heap.size, ptr (w.heap.size + 1)], .int .i64 i, .int .i64 j])) (1, 0) = .blk g.X [g.sl, g.si, g.sk] 38 := by
    rw [upd_ne _ _ _ _ (by simp), n2 _ _ (by omega)]; exact hR.x
  have l4 : upd (upd (upd s (7, g.I.length) (.blk w.heap.size [ptr p.b] 42)) (8, g.I.length) (.blk (w.heap.size + 1) [ptr q.b] 42)) (3, 0) (.row 96 3 v' (g.I.length + 1) (g.I.flatMap It.vs ++ [.func (.func 54) #[] #[ptr w.heap.size, ptr (w.heap.size + 1)], .int .i64 i, .int .i64 j])) (2, 0) = .row 85 2 g.sl g.P.length (g.P.flatMap Pr.vs) := by
    rw [upd_ne _ _ _ _ (by simp), n2 _ _ (by omega)]; exact hR.rl
  obtain ⟨hB4, n4⟩ := H4.blk x4
  have H5 := n4 _ [g.sl, v', g.sk] 38 (hB4.setCell 1 v') ((Keeps.refl (· = g.X) W4).setCell ⟨g.X, 1, none⟩ _ (fun _ => Eq.refl g.X))
  have R5 := hR.pushI ⟨w.heap.size, w.heap.size + 1, i, j⟩ p q v' hp hq
  have hB0 := (hH.blk hR.x).1
  rw [hsl] at x4 l4
  have S4 := H4.s4 x4 l4 hp hq
  have S5 := H5.s4 (by rw [upd_self, hsl]) (by rw [upd_ne _ _ _ _ (by simp)]; exact l4) hp hq
  have k02 : Keeps (fun _ => False) w W2 := by rw [hW2, hW1]; exact ((Keeps.refl _ w).alloc _).alloc _
  have k03 : Keeps (fun _ => False) w (W2.alloc (.cells #[.func (.func 54) #[] #[ptr w.heap.size, ptr (w.heap.size + 1)], .int .i64 i, .int .i64 j] 96)) := k02.alloc _
  have c0 := hB0.cell (i := 1) rfl
  have c4 := hB4.cell (i := 1) rfl
  rw [hsi] at c0 c4 hap
  rw [hsi'] at hap S5 H5 R5
  rw [z2] at hap
  rw [← hW1, ← hW2]
  exact ⟨ia, ia', g.I.length, ic, ic', W4, c0, cell_kept c0 k02 (fun e => e), cell_kept c0 k03 (fun e => e), hap, c4, hB4.frozen 1, S4, S5, _, _, H5, R5, hS.pushI, rfl⟩

/-- A kept iterator is gone through. -/
theorem go_chain (p q : Pr) (c d : Nat) (w : World) (hc : ∀ w', Keeps (fun _ => False) w w' → (Mm w' p.b p.g p.xs ∧ Rm w' p.rb p.rg p.xs) ∧ (Mm w' q.b q.g q.xs ∧ Rm w' q.rb q.rg q.xs) ∧ w'.cell? ⟨c, 0, none⟩ = some (ptr p.b) ∧ w'.cell? ⟨d, 0, none⟩ = some (ptr q.b)) :
    ∃ D : Nat, (D : Int) ≤ 16384 ∧ Hid (∀ w1, Keeps (fun _ => False) w w1 → Calls Try.prog 35 #[.pointer (some ⟨p.rb, 0, none⟩), .pointer (some ⟨q.rb, 0, none⟩)] w1 fun e w3 => ∃ (wa : Option Addr) (wc : Nat), e = .returned (.slice wa D wc) ∧ Keeps (fun _ => False) w w3 ∧ Keeps (fun _ => False) w1 w3 ∧
      Hid (∀ w4, Keeps (fun _ => False) w3 w4 → Calls Try.prog 24 #[.func (.func 54) #[] #[.pointer (some ⟨c, 0, none⟩), .pointer (some ⟨d, 0, none⟩)], .int .i64 ((D : Int) + 1)] w4 fun e w5 => ∃ ya yc, e = .returned (.slice ya D yc) ∧ Keeps (fun _ => False) w w5 ∧
        Hid (∀ w6, Keeps (fun _ => False) w5 w6 → Calls Try.prog 37 #[.slice ya D yc, .slice wa D wc] w6 fun e w7 => e = .returned (.bool true) ∧ Keeps (fun _ => False) w w7))) := by
  obtain ⟨D, hD⟩ : ∃ D, D = dfi p.xs q.xs (max p.xs.length q.xs.length) := ⟨_, rfl⟩
  have hdl : D.length ≤ 16384 := by
    have h1 := dfi_len p.xs q.xs (max p.xs.length q.xs.length)
    have h2 := (hc w (Keeps.refl _ _)).1.1.small
    have h3 := (hc w (Keeps.refl _ _)).2.1.1.small
    rw [hD]; omega
  refine ⟨D.length, by omega, fun w1 hK1 => ?_⟩
  have h1 := hc w1 hK1
  refine (rdiffer_any p.rb p.rg q.rb q.rg p.xs q.xs w1 h1.1.2 h1.2.1.2).mono ?_
  rintro e w3 ⟨wa, wc, rfl, hO3⟩
  rw [← hD] at hO3 ⊢
  have K3 := hK1.trans hO3.k fun _ _ e => e
  have S3 := hO3.seg rfl
  refine ⟨wa, wc, rfl, K3, hO3.k, fun w4 hK4 => ?_⟩
  have K4 := K3.trans hK4 fun _ _ e => e
  have h4 := hc w4 K4
  have hA2 := along_all c d p.b p.g q.b q.g (D.length + 1) p.xs q.xs w4 h4.2.2.1 h4.2.2.2 h4.1.1 h4.2.1.1
  rw [← hD, List.take_of_length_le (by omega), show ((D.length + 1 : Nat) : Int) = (D.length : Int) + 1 by omega] at hA2
  refine hA2.mono ?_
  rintro e w5 ⟨ya, yc, rfl, hO5⟩
  refine ⟨ya, yc, rfl, K4.trans hO5.k fun _ _ e => e, fun w6 hK6 => ?_⟩
  have S5 := hO5.seg rfl
  refine (sameI_any ya wa D yc wc w6 (S5.quiet hK6) (((S3.quiet hK4).quiet hO5.k).quiet hK6) (by omega)).mono ?_
  rintro e w7 ⟨rfl, hK7⟩
  exact ⟨rfl, ((K4.trans hO5.k fun _ _ e => e).trans hK6 fun _ _ e => e).trans hK7 fun _ _ e => e⟩

end Go.Proofs.Ytljhdijledclhaa
