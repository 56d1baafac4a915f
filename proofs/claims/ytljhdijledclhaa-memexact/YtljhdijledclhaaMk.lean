import Derived.Test.YtljhdijledclhaaKq
namespace Go.Proofs.Ytljhdijledclhaa
open Go.RowKit
set_option linter.unusedVariables false
set_option linter.unusedSimpArgs false

theorem Try.info85 : (Try.prog.info? 85).map (fun i => (i.zero, i.size, i.bytes)) = some (some (.agg #[.pointer none, .pointer none]), 2, 16) := by kernel_rfl

theorem append_pair {w : World} (a b : Option Addr) (v : Value) (n : Nat) (vs : List Value) (hown : w.ownsRow 0 85 2 v n vs) (hn : n ≤ 4294967296) :
    ∃ v' W', (∀ ty, (Builtin.append_ #[32, 32] ty #[v, .slice (some ⟨w.heap.size, 0, none⟩) 1 1]).run Try.prog (w.alloc (.cells #[.pointer a, .pointer b] 85)) = .ok v' W') ∧ W'.ownsRow 0 85 2 v' (n + 1) (vs ++ [.pointer a, .pointer b]) ∧ Grew w v W' v' := by
  obtain ⟨i0, hi, hz0, hz1, hz2⟩ := info_parts Try.info85
  obtain ⟨v', W', h1, h2, h3, h4⟩ := append_new 32 85 i0 (.agg #[.pointer none, .pointer none]) 2 16 Try.underlying32 hi hz0 hz1 hz2 rfl (by omega) v n vs hown #[.pointer a, .pointer b] rfl (by
    intro y hy
    simp at hy
    rcases hy with rfl | rfl <;> rfl) (by unfold maxLen; omega) (by omega)
  exact ⟨v', W', h1, h2, h3, h4⟩

/-- made: what is refused on both sides. -/
theorem made_none (X : Nat) (E : Int) (w : World) :
    Calls Try.prog 29 #[.pointer (some ⟨X, 0, none⟩), .pointer none, .int .i64 E, .pointer none, .int .i64 E] w fun e w' => e = .returned (.bool true) ∧ w' = w := by
  go_enter Try.func29, Try.ntmps29
  go_wp2
  go_ret
  exact ⟨rfl, rfl⟩

/-- made: there is no room for more. -/
theorem made_full (X b rb lb n lc : Nat) (w : World) (h0 : w.cell? ⟨X, 0, none⟩ = some (.slice (some ⟨lb, 0, none⟩) n lc)) (hn : ¬ (n : Int) < 12) :
    Calls Try.prog 29 #[.pointer (some ⟨X, 0, none⟩), .pointer (some ⟨b, 0, none⟩), .int .i64 0, .pointer (some ⟨rb, 0, none⟩), .int .i64 0] w fun e w' => e = .returned (.bool true) ∧ w' = w := by
  go_enter Try.func29, Try.ntmps29
  go_wp2
  go_ret
  exact ⟨rfl, rfl⟩

/-- made: a pair more. -/
theorem made_more (X b rb n : Nat) (v v' : Value) (cells : List Value) (vs : List Value) (w W : World) (la : Option Addr) (lc : Nat) (hv : v = .slice la n lc) (la' : Option Addr) (lc' : Nat) (hv' : v' = .slice la' (n + 1) lc') (hB : Blk w X cells 38) (h0 : cells[0]? = some v) (hn : (n : Int) < 12)
    (hap : ∀ ty, (Builtin.append_ #[32, 32] ty #[v, .slice (some ⟨w.heap.size, 0, none⟩) 1 1]).run Try.prog (w.alloc (.cells #[.pointer (some ⟨b, 0, none⟩), .pointer (some ⟨rb, 0, none⟩)] 85)) = .ok v' W) (hB' : Blk W X cells 38) :
    Calls Try.prog 29 #[.pointer (some ⟨X, 0, none⟩), .pointer (some ⟨b, 0, none⟩), .int .i64 0, .pointer (some ⟨rb, 0, none⟩), .int .i64 0] w fun e w' => e = .returned (.bool true) ∧ w' = W.setCell ⟨X, 0, none⟩ v' := by
  subst hv hv'
  have c0 := hB.cell h0
  have d0 := hB'.cell h0
  have f0 := hB'.frozen 0
  have HAP : Hid (∀ ty, _) := hap
  clear hap hB hB' h0
  go_enter Try.func29, Try.ntmps29
  go_wp2_with (at_builtin; go_must (refine wpList_append_run rfl (.tmp 35) (.tmp 39) 32 32 rfl (.slice la n lc) (.slice (some ⟨w.heap.size, 0, none⟩) 1 1) (.slice la' (n + 1) lc') W rfl rfl HAP.out ?_))
  go_ret
  exact ⟨rfl, rfl⟩

/-- A pair that is not told of yet. -/
theorem Rel.spareP {s : Nat × Nat → Ob} {g : GS} {w0 : World} (h : Rel s g w0) (a j : Nat) (ha : a = 5 ∨ a = 6) (hj : g.P.length ≤ j) (ob : Ob) : Rel (upd s (a, j) ob) g w0 := by
  have ne : ∀ x y, (x ≠ 5 ∧ x ≠ 6) ∨ y < j → upd s (a, j) ob (x, y) = s (x, y) := fun x y hx => upd_ne _ _ _ _ (by intro e; cases e; omega)
  refine ⟨?_, ?_, ?_, ?_, ?_, fun i p hp => ?_, fun i t ht => ?_, fun i e he => ?_⟩
  · rw [ne _ _ (by omega)]; exact h.base
  · rw [ne _ _ (by omega)]; exact h.x
  · rw [ne _ _ (by omega)]; exact h.rl
  · rw [ne _ _ (by omega)]; exact h.ri
  · rw [ne _ _ (by omega)]; exact h.rk
  · have hlt := (List.getElem?_eq_some_iff.1 hp).1
    rw [ne _ _ (by omega), ne _ _ (by omega)]; exact h.mm i p hp
  · rw [ne _ _ (by omega), ne _ _ (by omega)]; exact h.it i t ht
  · rw [ne _ _ (by omega), ne _ _ (by omega)]; exact h.lw i e he

theorem Rel.pushP {s : Nat × Nat → Ob} {g : GS} {w0 : World} (h : Rel s g w0) (p : Pr) (sl' : Value) (h5 : s (5, g.P.length) = .mm p.b p.g p.xs) (h6 : s (6, g.P.length) = .rm p.rb p.rg p.xs) :
    Rel (upd (upd s (2, 0) (.row 85 2 sl' (g.P.length + 1) (g.P.flatMap Pr.vs ++ [ptr p.b, ptr p.rb]))) (1, 0) (.blk g.X [sl', g.si, g.sk] 38)) { g with sl := sl', P := g.P ++ [p] } w0 := by
  have ne : ∀ a b, 2 < a ∨ a = 0 → upd (upd s (2, 0) (.row 85 2 sl' (g.P.length + 1) (g.P.flatMap Pr.vs ++ [ptr p.b, ptr p.rb]))) (1, 0) (.blk g.X [sl', g.si, g.sk] 38) (a, b) = s (a, b) := fun a b ha => by
    rw [upd_ne _ _ _ _ (by intro e; cases e; omega), upd_ne _ _ _ _ (by intro e; cases e; omega)]
  refine ⟨?_, ?_, ?_, ?_, ?_, fun i q hq => ?_, fun i t ht => ?_, fun i e he => ?_⟩
  · rw [ne _ _ (by omega)]; exact h.base
  · rw [upd_self]
  · rw [upd_ne _ _ _ _ (by simp), upd_self]
    show Ob.row 85 2 sl' _ _ = Ob.row 85 2 sl' (g.P ++ [p]).length ((g.P ++ [p]).flatMap Pr.vs)
    rw [List.length_append, List.flatMap_append]
    simp [Pr.vs]
  · rw [ne _ _ (by omega)]; exact h.ri
  · rw [ne _ _ (by omega)]; exact h.rk
  · have hq' : (g.P ++ [p])[i]? = some q := hq
    rw [ne _ _ (by omega), ne _ _ (by omega)]
    by_cases hi : i < g.P.length
    · rw [List.getElem?_append_left hi] at hq'
      exact h.mm i q hq'
    · have hlt := (List.getElem?_eq_some_iff.1 hq').1
      rw [List.length_append, List.length_singleton] at hlt
      obtain rfl : i = g.P.length := by omega
      rw [List.getElem?_append_right (by omega), Nat.sub_self] at hq'
      cases hq'
      exact ⟨h5, h6⟩
  · obtain ⟨p1, q1, h1, h2, h3, h4⟩ := h.it i t ht
    have old : ∀ (m : Nat) (q : Pr), g.P[m]? = some q → (g.P ++ [p])[m]? = some q := fun m q hm => by
      rw [List.getElem?_append_left (List.getElem?_eq_some_iff.1 hm).1]; exact hm
    exact ⟨p1, q1, old _ _ h1, old _ _ h2, by rw [ne _ _ (by omega)]; exact h3, by rw [ne _ _ (by omega)]; exact h4⟩
  · rw [ne _ _ (by omega), ne _ _ (by omega)]; exact h.lw i e he

theorem Small.pushP {g : GS} {T : Nat} {p : Pr} {sl' : Value} (h : Small g T) (hl : g.P.length < 12) (hx : ∃ n, 1 ≤ n ∧ n ≤ 1024 ∧ p.xs.length = n * 16) : Small { g with sl := sl', P := g.P ++ [p] } T := by
  refine ⟨?_, ?_, fun i q hq => ?_, h.i, h.k, h.ks⟩
  · show 1 ≤ (g.P ++ [p]).length
    rw [List.length_append, List.length_singleton]; omega
  · show (g.P ++ [p]).length ≤ 12
    rw [List.length_append, List.length_singleton]; omega
  · have hq' : (g.P ++ [p])[i]? = some q := hq
    by_cases hi : i < g.P.length
    · rw [List.getElem?_append_left hi] at hq'
      exact h.px i q hq'
    · have hlt := (List.getElem?_eq_some_iff.1 hq').1
      rw [List.length_append, List.length_singleton] at hlt
      obtain rfl : i = g.P.length := by omega
      rw [List.getElem?_append_right (by omega), Nat.sub_self] at hq'
      cases hq'
      exact hx

/-- Both sides' new memories are taken up. -/
theorem made_step {w0 w : World} {s : Nat × Nat → Ob} {g : GS} {X T : Nat} {p : Pr} (hH : Has s w) (hR : Rel s g w0) (hS : Small g T) (hX : g.X = X) (h5 : s (5, g.P.length) = .mm p.b p.g p.xs) (h6 : s (6, g.P.length) = .rm p.rb p.rg p.xs) (hx : ∃ n, 1 ≤ n ∧ n ≤ 1024 ∧ p.xs.length = n * 16) :
    Calls Try.prog 29 #[.pointer (some ⟨X, 0, none⟩), ptr p.b, .int .i64 0, ptr p.rb, .int .i64 0] w fun e w' => e = .returned (.bool true) ∧ Game w0 w' X T := by
  subst hX
  obtain ⟨hB, -⟩ := hH.blk hR.x
  obtain ⟨hr, nr⟩ := hH.row hR.rl
  by_cases hl : g.P.length < 12
  · obtain ⟨la, lc, hsl, -, -⟩ := owns_slice hr
    obtain ⟨v', W, hap, hown, hG⟩ := append_pair (some ⟨p.b, 0, none⟩) (some ⟨p.rb, 0, none⟩) g.sl g.P.length _ hr (by omega)
    obtain ⟨la', lc', hsl', -, -⟩ := owns_slice hown
    have H1 := nr _ _ _ _ hown hG
    obtain ⟨hB1, n1⟩ := H1.blk (o := (1, 0)) (by rw [upd_ne _ _ _ _ (by simp)]; exact hR.x)
    refine (made_more g.X p.b p.rb g.P.length g.sl v' _ [] w W la lc hsl la' lc' hsl' hB rfl (by omega) hap hB1).mono ?_
    rintro e w' ⟨rfl, rfl⟩
    refine ⟨rfl, _, _, n1 _ _ _ (hB1.setCell 0 v') ((Keeps.refl (· = g.X) W).setCell ⟨g.X, 0, none⟩ _ (fun _ => Eq.refl g.X)), hR.pushP p v' h5 h6, hS.pushP hl hx, rfl⟩
  · obtain ⟨p0, hp0⟩ : ∃ p, g.P[0]? = some p := ⟨_, List.getElem?_eq_getElem hS.p1⟩
    obtain ⟨la, lc, hsl, -, -⟩ := owns_slice hr
    rw [hsl] at hr
    obtain ⟨lb, e1, -⟩ := owns_cellK hr (pvs_get g.P 0 p0 hp0).1
    have c0 := hB.cell (i := 0) rfl
    rw [hsl, e1] at c0
    refine (made_full g.X p.b p.rb lb g.P.length lc w c0 (by omega)).mono ?_
    rintro e w' ⟨rfl, rfl⟩
    exact ⟨rfl, s, g, hH, hR, hS, rfl⟩

end Go.Proofs.Ytljhdijledclhaa
