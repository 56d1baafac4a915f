import Derived.Test.YtonjmknjjdnjkaaKept
namespace Go.Proofs.Ytonjmknjjdnjkaa
open Go.RowKit
set_option linter.unusedVariables false

/-- append of a pointer. -/
theorem append_ptr {w : World} (t e : TypeId) (ht : Try.prog.underlying t = some (.slice e)) (hi : (Try.prog.info? e).map (fun i => (i.zero, i.size, i.bytes)) = some (some (.pointer none), 1, 8)) (b : Nat) (v : Value) (n : Nat) (vs : List Value) (hown : w.ownsRow 0 e 1 v n vs) (hn : n ≤ 4294967296) :
    ∃ a c W', (∀ ty, (Builtin.append_ #[t, t] ty #[v, .slice (some ⟨w.heap.size, 0, none⟩) 1 1]).run Try.prog (w.alloc (.cells #[.pointer (some ⟨b, 0, none⟩)] e)) = .ok (.slice a (n + 1) c) W') ∧ W'.ownsRow 0 e 1 (.slice a (n + 1) c) (n + 1) (vs ++ [ptr b]) ∧ Grew w v W' (.slice a (n + 1) c) := by
  obtain ⟨i0, hi0, hz0, hz1, hz2⟩ := info_parts hi
  obtain ⟨v', W', h1, h2, h3, h4⟩ := append_new t e i0 _ 1 8 ht hi0 hz0 hz1 hz2 rfl (by omega) v n vs hown #[.pointer (some ⟨b, 0, none⟩)] rfl (one_mem rfl) (by unfold maxLen; omega) (by omega)
  obtain ⟨a, c, rfl, _, _⟩ := own_slice h2
  exact ⟨a, c, W', h1, h2, h3, h4⟩

theorem Rel.pushW {s s' : Nat × Nat → Ob} {g : GS} {w0 : World} (h : Rel s g w0) (b c : Nat) (sw' sv' : Value)
    (h1 : s' (1, 0) = .blk g.X [sw', sv', g.sr, g.sq, g.sb, g.sk] 34)
    (h2 : s' (2, 0) = .row 58 1 sw' (g.W.length + 1) ((g.W.map fun e => ptr e.1) ++ [ptr b]))
    (h3 : s' (3, 0) = .row 86 1 sv' (g.W.length + 1) ((g.V.map fun e => ptr e.1) ++ [ptr c]))
    (h8 : s' (8, g.W.length) = .wr b []) (h9 : s' (9, g.W.length) = .dw c (.slice none 0 0) [])
    (hr : ∀ x y, x < 16 → (x, y) ≠ (1, 0) → (x, y) ≠ (2, 0) → (x, y) ≠ (3, 0) → (x, y) ≠ (8, g.W.length) → (x, y) ≠ (9, g.W.length) → s' (x, y) = s (x, y)) :
    Rel s' { g with W := g.W ++ [(b, [])], V := g.V ++ [(c, .slice none 0 0)], sw := sw', sv := sv' } w0 := by
  refine ⟨?_, ?_, ?_, ?_, ?_, ?_, ?_, ?_, fun i b' xs hb => ?_, fun i b' v c' xs k1 k2 => ?_, fun i b xs p er hb => ?_, fun i b v c xs p er h1 h2 => ?_, fun i a v xs hb => ?_, fun i a v xs hb => ?_, ?_, h.lenQ⟩
  · rw [hr _ _ (by omega) (by simp) (by simp) (by simp) (by simp) (by simp)]; exact h.base
  · exact h1
  · rw [h2]; simp
  · rw [h3]; simp [h.lenV]
  · rw [hr _ _ (by omega) (by simp) (by simp) (by simp) (by simp) (by simp)]; exact h.rr
  · rw [hr _ _ (by omega) (by simp) (by simp) (by simp) (by simp) (by simp)]; exact h.rq
  · rw [hr _ _ (by omega) (by simp) (by simp) (by simp) (by simp) (by simp)]; exact h.kb
  · rw [hr _ _ (by omega) (by simp) (by simp) (by simp) (by simp) (by simp)]; exact h.kw
  · have hb' : (g.W ++ [(b, [])])[i]? = some (b', xs) := hb
    by_cases hi : i < g.W.length
    · rw [List.getElem?_append_left hi] at hb'
      rw [hr _ _ (by omega) (by simp) (by simp) (by simp) (by intro e; cases e; omega) (by simp)]
      exact h.wr i b' xs hb'
    · have hlt := (List.getElem?_eq_some_iff.1 hb').1
      rw [List.length_append, List.length_singleton] at hlt
      obtain rfl : i = g.W.length := by omega
      rw [List.getElem?_append_right (Nat.le_refl _), Nat.sub_self] at hb'
      cases hb'
      exact h8
  · have k1' : (g.V ++ [(c, Value.slice none 0 0)])[i]? = some (b', v) := k1
    have k2' : (g.W ++ [(b, [])])[i]? = some (c', xs) := k2
    by_cases hi : i < g.W.length
    · rw [List.getElem?_append_left (by rw [h.lenV]; exact hi)] at k1'
      rw [List.getElem?_append_left hi] at k2'
      rw [hr _ _ (by omega) (by simp) (by simp) (by simp) (by simp) (by intro e; cases e; omega)]
      exact h.dw i b' v c' xs k1' k2'
    · have hlt := (List.getElem?_eq_some_iff.1 k2').1
      rw [List.length_append, List.length_singleton] at hlt
      obtain rfl : i = g.W.length := by omega
      rw [List.getElem?_append_right (Nat.le_refl _), Nat.sub_self] at k2'
      rw [List.getElem?_append_right (by rw [h.lenV]; exact Nat.le_refl _), h.lenV, Nat.sub_self] at k1'
      cases k1'; cases k2'
      exact h9
  · rw [hr _ _ (by omega) (by simp) (by simp) (by simp) (by simp) (by simp)]; exact h.rd i b xs p er hb
  · rw [hr _ _ (by omega) (by simp) (by simp) (by simp) (by simp) (by simp)]; exact h.dr i b v c xs p er h1 h2
  · rw [hr _ _ (by omega) (by simp) (by simp) (by simp) (by simp) (by simp), hr _ _ (by omega) (by simp) (by simp) (by simp) (by simp) (by simp)]; exact h.lb i a v xs hb
  · rw [hr _ _ (by omega) (by simp) (by simp) (by simp) (by simp) (by simp), hr _ _ (by omega) (by simp) (by simp) (by simp) (by simp) (by simp)]; exact h.lw i a v xs hb
  · show (g.V ++ [(c, Value.slice none 0 0)]).length = (g.W ++ [(b, [])]).length
    simp [h.lenV]

theorem Rel.pushR {s s' : Nat × Nat → Ob} {g : GS} {w0 : World} (h : Rel s g w0) (b c : Nat) (xs : List UInt8) (v' sr' sq' : Value)
    (h1 : s' (1, 0) = .blk g.X [g.sw, g.sv, sr', sq', g.sb, g.sk] 34)
    (h2 : s' (4, 0) = .row 66 1 sr' (g.R.length + 1) ((g.R.map fun e => ptr e.1) ++ [ptr b]))
    (h3 : s' (5, 0) = .row 90 1 sq' (g.R.length + 1) ((g.Q.map fun e => ptr e.1) ++ [ptr c]))
    (h8 : s' (10, g.R.length) = .rd b xs 0 0) (h9 : s' (11, g.R.length) = .dr c v' xs 0 0)
    (hr : ∀ x y, x < 16 → (x, y) ≠ (1, 0) → (x, y) ≠ (4, 0) → (x, y) ≠ (5, 0) → (x, y) ≠ (10, g.R.length) → (x, y) ≠ (11, g.R.length) → s' (x, y) = s (x, y)) :
    Rel s' { g with R := g.R ++ [(b, xs, 0, 0)], Q := g.Q ++ [(c, v')], sr := sr', sq := sq' } w0 := by
  refine ⟨?_, ?_, ?_, ?_, ?_, ?_, ?_, ?_, fun i b' xs hb => ?_, fun i b' v c' xs k1 k2 => ?_, fun i b' ys p er hb => ?_, fun i b' v c' ys p er k1 k2 => ?_, fun i a v xs hb => ?_, fun i a v xs hb => ?_, h.lenV, ?_⟩
  · rw [hr _ _ (by omega) (by simp) (by simp) (by simp) (by simp) (by simp)]; exact h.base
  · exact h1
  · rw [hr _ _ (by omega) (by simp) (by simp) (by simp) (by simp) (by simp)]; exact h.rw
  · rw [hr _ _ (by omega) (by simp) (by simp) (by simp) (by simp) (by simp)]; exact h.rv
  · rw [h2]; simp
  · rw [h3]; simp [h.lenQ]
  · rw [hr _ _ (by omega) (by simp) (by simp) (by simp) (by simp) (by simp)]; exact h.kb
  · rw [hr _ _ (by omega) (by simp) (by simp) (by simp) (by simp) (by simp)]; exact h.kw
  · rw [hr _ _ (by omega) (by simp) (by simp) (by simp) (by simp) (by simp)]; exact h.wr i b' xs hb
  · rw [hr _ _ (by omega) (by simp) (by simp) (by simp) (by simp) (by simp)]; exact h.dw i b' v c' xs k1 k2
  · have hb' : (g.R ++ [(b, xs, 0, 0)])[i]? = some (b', ys, p, er) := hb
    by_cases hi : i < g.R.length
    · rw [List.getElem?_append_left hi] at hb'
      rw [hr _ _ (by omega) (by simp) (by simp) (by simp) (by intro e; cases e; omega) (by simp)]
      exact h.rd i b' ys p er hb'
    · have hlt := (List.getElem?_eq_some_iff.1 hb').1
      rw [List.length_append, List.length_singleton] at hlt
      obtain rfl : i = g.R.length := by omega
      rw [List.getElem?_append_right (Nat.le_refl _), Nat.sub_self] at hb'
      cases hb'
      exact h8
  · have k1' : (g.Q ++ [(c, v')])[i]? = some (b', v) := k1
    have k2' : (g.R ++ [(b, xs, 0, 0)])[i]? = some (c', ys, p, er) := k2
    by_cases hi : i < g.R.length
    · rw [List.getElem?_append_left (by rw [h.lenQ]; exact hi)] at k1'
      rw [List.getElem?_append_left hi] at k2'
      rw [hr _ _ (by omega) (by simp) (by simp) (by simp) (by simp) (by intro e; cases e; omega)]
      exact h.dr i b' v c' ys p er k1' k2'
    · have hlt := (List.getElem?_eq_some_iff.1 k2').1
      rw [List.length_append, List.length_singleton] at hlt
      obtain rfl : i = g.R.length := by omega
      rw [List.getElem?_append_right (Nat.le_refl _), Nat.sub_self] at k2'
      rw [List.getElem?_append_right (by rw [h.lenQ]; exact Nat.le_refl _), h.lenQ, Nat.sub_self] at k1'
      cases k1'; cases k2'
      exact h9
  · rw [hr _ _ (by omega) (by simp) (by simp) (by simp) (by simp) (by simp), hr _ _ (by omega) (by simp) (by simp) (by simp) (by simp) (by simp)]; exact h.lb i a v xs hb
  · rw [hr _ _ (by omega) (by simp) (by simp) (by simp) (by simp) (by simp), hr _ _ (by omega) (by simp) (by simp) (by simp) (by simp) (by simp)]; exact h.lw i a v xs hb
  · show (g.Q ++ [(c, v')]).length = (g.R ++ [(b, xs, 0, 0)]).length
    simp [h.lenQ]

/-- As Small, but there need be no writer or reader yet. -/
structure Fits (g : GS) (T : Nat) : Prop where
  w : g.W.length ≤ T + 8
  r : g.R.length ≤ T + 8
  b : g.B.length ≤ T
  k : g.K.length ≤ T
  ws : ∀ (i : Nat) (b : Nat) (xs : List UInt8), g.W[i]? = some (b, xs) → xs.length ≤ T
  rs : ∀ (i : Nat) (b : Nat) (xs : List UInt8) (p : Nat) (er : Int), g.R[i]? = some (b, xs, p, er) → xs.length ≤ T + 8
  bs : ∀ (i : Nat) (a : Option Addr) (v : Value) (xs : List UInt8), g.B[i]? = some (a, v, xs) → xs.length ≤ T
  ks : ∀ (i : Nat) (a : Option Addr) (v : Value) (xs : List UInt32), g.K[i]? = some (a, v, xs) → xs.length ≤ T

theorem Small.fits {g : GS} {T : Nat} (h : Small g T) : Fits g T := ⟨h.w, h.r, h.b, h.k, h.ws, h.rs, h.bs, h.ks⟩
theorem Fits.small {g : GS} {T : Nat} (h : Fits g T) (hw : 0 < g.W.length) (hr : 0 < g.R.length) : Small g T := ⟨hw, hr, h.w, h.r, h.b, h.k, h.ws, h.rs, h.bs, h.ks⟩

theorem last_of {α : Type} {l : List α} {x y : α} {i : Nat} (h : (l ++ [x])[i]? = some y) : l[i]? = some y ∨ (i = l.length ∧ y = x) := by
  by_cases hi : i < l.length
  · rw [List.getElem?_append_left hi] at h; exact .inl h
  · have hlt := (List.getElem?_eq_some_iff.1 h).1
    rw [List.length_append, List.length_singleton] at hlt
    obtain rfl : i = l.length := by omega
    rw [List.getElem?_append_right (Nat.le_refl _), Nat.sub_self] at h
    cases h
    exact .inr ⟨rfl, rfl⟩

theorem Fits.pushW {g : GS} {T T' b c : Nat} {sw' sv' : Value} (h : Fits g T) (hT : T + 1 ≤ T') : Fits { g with W := g.W ++ [(b, [])], V := g.V ++ [(c, .slice none 0 0)], sw := sw', sv := sv' } T' := by
  refine ⟨?_, by have := h.r; show g.R.length ≤ _; omega, by have := h.b; show g.B.length ≤ _; omega, by have := h.k; show g.K.length ≤ _; omega, fun i b2 xs hb => ?_, fun i b2 xs p er hb => by have := h.rs i b2 xs p er hb; omega, fun i a v xs hb => by have := h.bs i a v xs hb; omega, fun i a v xs hb => by have := h.ks i a v xs hb; omega⟩
  · show (g.W ++ [(b, [])]).length ≤ _
    rw [List.length_append, List.length_singleton]; have := h.w; omega
  · rcases last_of hb with hb' | ⟨_, e⟩
    · have := h.ws i b2 xs hb'; omega
    · cases e; simp
theorem Fits.pushR {g : GS} {T T' b c : Nat} {xs : List UInt8} {v' sr' sq' : Value} (h : Fits g T) (hT : T + 1 ≤ T') (hx : xs.length ≤ T' + 8) : Fits { g with R := g.R ++ [(b, xs, 0, 0)], Q := g.Q ++ [(c, v')], sr := sr', sq := sq' } T' := by
  refine ⟨by have := h.w; show g.W.length ≤ _; omega, ?_, by have := h.b; show g.B.length ≤ _; omega, by have := h.k; show g.K.length ≤ _; omega, fun i b2 ys hb => by have := h.ws i b2 ys hb; omega, fun i b2 ys p er hb => ?_, fun i a v xs hb => by have := h.bs i a v xs hb; omega, fun i a v xs hb => by have := h.ks i a v xs hb; omega⟩
  · show (g.R ++ [(b, xs, 0, 0)]).length ≤ _
    rw [List.length_append, List.length_singleton]; have := h.r; omega
  · rcases last_of hb with hb' | ⟨_, e⟩
    · have := h.rs i b2 ys p er hb'; omega
    · cases e; exact hx
end Go.Proofs.Ytonjmknjjdnjkaa
