import Derived.Test.YtonjmknjjdnjkaaWriA
namespace Go.Proofs.Ytonjmknjjdnjkaa
open Go.RowKit
set_option linter.unusedVariables false

theorem own_of_blk {w : World} {G : Nat} {xs : List UInt8} (h : Blk w G (bvs xs) 5) (hl : xs.length ≤ maxLen) : w.ownsRow 0 5 1 (.slice (some ⟨G, 0, none⟩) xs.length xs.length) xs.length (bvs xs) :=
  ⟨by rw [bvs_length]; omega, .inr ⟨G, xs.length, (bvs xs).toArray, rfl, Nat.zero_le _, h, Nat.le_refl _, hl, by simp [bvs_length], by simp only [Nat.mul_one]; exact List.take_of_length_le (by rw [bvs_length]; exact Nat.le_refl _)⟩⟩
theorem own_of_blkW {w : World} {G : Nat} {xs : List UInt32} (h : Blk w G (wvs xs) 36) (hl : xs.length ≤ maxLen) : w.ownsRow 0 36 1 (.slice (some ⟨G, 0, none⟩) xs.length xs.length) xs.length (wvs xs) :=
  ⟨by rw [wvs_length]; omega, .inr ⟨G, xs.length, (wvs xs).toArray, rfl, Nat.zero_le _, h, Nat.le_refl _, hl, by simp [wvs_length], by simp only [Nat.mul_one]; exact List.take_of_length_le (by rw [wvs_length]; exact Nat.le_refl _)⟩⟩

/-- An entry that is not told of yet. -/
theorem Rel.spare {s : Nat × Nat → Ob} {g : GS} {w0 : World} (h : Rel s g w0) (j : Nat) (hj : g.B.length ≤ j) (ob : Ob) : Rel (upd s (12, j) ob) g w0 := by
  have ne : ∀ a b, (a, b) ≠ (12, j) → upd s (12, j) ob (a, b) = s (a, b) := fun a b hn => upd_ne _ _ _ _ hn
  refine ⟨?_, ?_, ?_, ?_, ?_, ?_, ?_, ?_, fun i b xs hb => ?_, fun i b v c xs h1 h2 => ?_, fun i b xs p er hb => ?_, fun i b v c xs p er h1 h2 => ?_, fun i a v xs hb => ?_, fun i a v xs hb => ?_, h.lenV, h.lenQ⟩
  · rw [ne _ _ (by simp)]; exact h.base
  · rw [ne _ _ (by simp)]; exact h.x
  · rw [ne _ _ (by simp)]; exact h.rw
  · rw [ne _ _ (by simp)]; exact h.rv
  · rw [ne _ _ (by simp)]; exact h.rr
  · rw [ne _ _ (by simp)]; exact h.rq
  · rw [ne _ _ (by simp)]; exact h.kb
  · rw [ne _ _ (by simp)]; exact h.kw
  · rw [ne _ _ (by simp)]; exact h.wr i b xs hb
  · rw [ne _ _ (by simp)]; exact h.dw i b v c xs h1 h2
  · rw [ne _ _ (by simp)]; exact h.rd i b xs p er hb
  · rw [ne _ _ (by simp)]; exact h.dr i b v c xs p er h1 h2
  · have hlt := (List.getElem?_eq_some_iff.1 hb).1
    rw [ne _ _ (by intro e; cases e; omega), ne _ _ (by simp)]; exact h.lb i a v xs hb
  · rw [ne _ _ (by simp), ne _ _ (by simp)]; exact h.lw i a v xs hb

/-- What keepBytes leaves of the play. -/
theorem Rel.kept {s : Nat × Nat → Ob} {g : GS} {w0 : World} (h : Rel s g w0) (al : Option Addr) (xs : List UInt8) (vw vk' : Value)
    (hl : s (12, g.B.length) = .row 5 1 (.slice al xs.length xs.length) xs.length (bvs xs)) :
    Rel (upd (upd (upd s (13, g.B.length) (.row 5 1 vw xs.length (bvs xs))) (6, 0) (.row 100 4 vk' (g.B.length + 1) (g.B.flatMap bCells ++ [.slice al xs.length xs.length, vw, .slice none 0 0, .slice none 0 0]))) (1, 0) (.blk g.X [g.sw, g.sv, g.sr, g.sq, vk', g.sk] 34))
      { g with B := g.B ++ [(al, vw, xs)], sb := vk' } w0 := by
  obtain ⟨m, hm⟩ : ∃ m, m = g.B.length := ⟨_, rfl⟩
  rw [← hm] at hl ⊢
  have ne : ∀ a b, (a, b) ≠ (13, m) → (a, b) ≠ (6, 0) → (a, b) ≠ (1, 0) → upd (upd (upd s (13, m) (.row 5 1 vw xs.length (bvs xs))) (6, 0) (.row 100 4 vk' (m + 1) (g.B.flatMap bCells ++ [.slice al xs.length xs.length, vw, .slice none 0 0, .slice none 0 0]))) (1, 0) (.blk g.X [g.sw, g.sv, g.sr, g.sq, vk', g.sk] 34) (a, b) = s (a, b) := fun a b h1 h2 h3 => by
    rw [upd_ne _ _ _ _ h3, upd_ne _ _ _ _ h2, upd_ne _ _ _ _ h1]
  refine ⟨?_, ?_, ?_, ?_, ?_, ?_, ?_, ?_, fun i b xs hb => ?_, fun i b v c xs h1 h2 => ?_, fun i b xs p er hb => ?_, fun i b v c xs p er h1 h2 => ?_, fun i a v ys hb => ?_, fun i a v xs hb => ?_, h.lenV, h.lenQ⟩
  · rw [ne _ _ (by simp) (by simp) (by simp)]; exact h.base
  · rw [upd_self]
  · rw [ne _ _ (by simp) (by simp) (by simp)]; exact h.rw
  · rw [ne _ _ (by simp) (by simp) (by simp)]; exact h.rv
  · rw [ne _ _ (by simp) (by simp) (by simp)]; exact h.rr
  · rw [ne _ _ (by simp) (by simp) (by simp)]; exact h.rq
  · rw [upd_ne _ _ _ _ (by simp), upd_self]
    show Ob.row 100 4 vk' (m + 1) _ = Ob.row 100 4 vk' (g.B ++ [(al, vw, xs)]).length ((g.B ++ [(al, vw, xs)]).flatMap bCells)
    rw [List.length_append, List.flatMap_append, ← hm]
    simp [bCells]
  · rw [ne _ _ (by simp) (by simp) (by simp)]; exact h.kw
  · rw [ne _ _ (by simp) (by simp) (by simp)]; exact h.wr i b xs hb
  · rw [ne _ _ (by simp) (by simp) (by simp)]; exact h.dw i b v c xs h1 h2
  · rw [ne _ _ (by simp) (by simp) (by simp)]; exact h.rd i b xs p er hb
  · rw [ne _ _ (by simp) (by simp) (by simp)]; exact h.dr i b v c xs p er h1 h2
  · have hb' : (g.B ++ [(al, vw, xs)])[i]? = some (a, v, ys) := hb
    by_cases hi : i < m
    · rw [List.getElem?_append_left (by omega)] at hb'
      rw [ne _ _ (by simp) (by simp) (by simp), ne _ _ (by intro e; cases e; omega) (by simp) (by simp)]
      exact h.lb i a v ys hb'
    · have hlt := (List.getElem?_eq_some_iff.1 hb').1
      rw [List.length_append, List.length_singleton] at hlt
      obtain rfl : i = m := by omega
      rw [List.getElem?_append_right (by omega), ← hm, Nat.sub_self] at hb'
      cases hb'
      refine ⟨by rw [ne _ _ (by simp) (by simp) (by simp)]; exact hl, ?_⟩
      rw [upd_ne _ _ _ _ (by simp), upd_ne _ _ _ _ (by simp), upd_self]
  · rw [ne _ _ (by simp) (by simp) (by simp), ne _ _ (by simp) (by simp) (by simp)]; exact h.lw i a v xs hb

theorem Small.kept {g : GS} {T : Nat} {al : Option Addr} {xs : List UInt8} {vw vk' : Value} (h : Small g T) (hx : xs.length ≤ T + 1) : Small { g with B := g.B ++ [(al, vw, xs)], sb := vk' } (T + 1) := by
  have h' := h.more (Nat.le_succ T)
  refine ⟨h'.w0, h'.r0, h'.w, h'.r, ?_, h'.k, h'.ws, h'.rs, fun i a v ys hb => ?_, h'.ks⟩
  · show (g.B ++ [(al, vw, xs)]).length ≤ _
    rw [List.length_append, List.length_singleton]
    have := h.b; omega
  · have hb' : (g.B ++ [(al, vw, xs)])[i]? = some (a, v, ys) := hb
    by_cases hi : i < g.B.length
    · rw [List.getElem?_append_left hi] at hb'
      exact h'.bs i a v ys hb'
    · rw [List.getElem?_append_right (by omega)] at hb'
      have hz : i - g.B.length = 0 := by
        have := (List.getElem?_eq_some_iff.1 hb').1
        simp at this; omega
      rw [hz] at hb'
      cases hb'
      exact hx
/-- An entry that is not told of yet. -/
theorem Rel.spareW {s : Nat × Nat → Ob} {g : GS} {w0 : World} (h : Rel s g w0) (j : Nat) (hj : g.K.length ≤ j) (ob : Ob) : Rel (upd s (14, j) ob) g w0 := by
  have ne : ∀ a b, (a, b) ≠ (14, j) → upd s (14, j) ob (a, b) = s (a, b) := fun a b hn => upd_ne _ _ _ _ hn
  refine ⟨?_, ?_, ?_, ?_, ?_, ?_, ?_, ?_, fun i b xs hb => ?_, fun i b v c xs h1 h2 => ?_, fun i b xs p er hb => ?_, fun i b v c xs p er h1 h2 => ?_, fun i a v xs hb => ?_, fun i a v xs hb => ?_, h.lenV, h.lenQ⟩
  · rw [ne _ _ (by simp)]; exact h.base
  · rw [ne _ _ (by simp)]; exact h.x
  · rw [ne _ _ (by simp)]; exact h.rw
  · rw [ne _ _ (by simp)]; exact h.rv
  · rw [ne _ _ (by simp)]; exact h.rr
  · rw [ne _ _ (by simp)]; exact h.rq
  · rw [ne _ _ (by simp)]; exact h.kb
  · rw [ne _ _ (by simp)]; exact h.kw
  · rw [ne _ _ (by simp)]; exact h.wr i b xs hb
  · rw [ne _ _ (by simp)]; exact h.dw i b v c xs h1 h2
  · rw [ne _ _ (by simp)]; exact h.rd i b xs p er hb
  · rw [ne _ _ (by simp)]; exact h.dr i b v c xs p er h1 h2
  · rw [ne _ _ (by simp), ne _ _ (by simp)]; exact h.lb i a v xs hb
  · have hlt := (List.getElem?_eq_some_iff.1 hb).1
    rw [ne _ _ (by intro e; cases e; omega), ne _ _ (by simp)]; exact h.lw i a v xs hb

/-- What keepBytes leaves of the play. -/
theorem Rel.keptW {s : Nat × Nat → Ob} {g : GS} {w0 : World} (h : Rel s g w0) (al : Option Addr) (xs : List UInt32) (vw vk' : Value)
    (hl : s (14, g.K.length) = .row 36 1 (.slice al xs.length xs.length) xs.length (wvs xs)) :
    Rel (upd (upd (upd s (15, g.K.length) (.row 36 1 vw xs.length (wvs xs))) (7, 0) (.row 102 4 vk' (g.K.length + 1) (g.K.flatMap kCells ++ [.slice al xs.length xs.length, vw, .slice none 0 0, .slice none 0 0]))) (1, 0) (.blk g.X [g.sw, g.sv, g.sr, g.sq, g.sb, vk'] 34))
      { g with K := g.K ++ [(al, vw, xs)], sk := vk' } w0 := by
  obtain ⟨m, hm⟩ : ∃ m, m = g.K.length := ⟨_, rfl⟩
  rw [← hm] at hl ⊢
  have ne : ∀ a b, (a, b) ≠ (15, m) → (a, b) ≠ (7, 0) → (a, b) ≠ (1, 0) → upd (upd (upd s (15, m) (.row 36 1 vw xs.length (wvs xs))) (7, 0) (.row 102 4 vk' (m + 1) (g.K.flatMap kCells ++ [.slice al xs.length xs.length, vw, .slice none 0 0, .slice none 0 0]))) (1, 0) (.blk g.X [g.sw, g.sv, g.sr, g.sq, g.sb, vk'] 34) (a, b) = s (a, b) := fun a b h1 h2 h3 => by
    rw [upd_ne _ _ _ _ h3, upd_ne _ _ _ _ h2, upd_ne _ _ _ _ h1]
  refine ⟨?_, ?_, ?_, ?_, ?_, ?_, ?_, ?_, fun i b xs hb => ?_, fun i b v c xs h1 h2 => ?_, fun i b xs p er hb => ?_, fun i b v c xs p er h1 h2 => ?_, fun i a v xs hb => ?_, fun i a v ys hb => ?_, h.lenV, h.lenQ⟩
  · rw [ne _ _ (by simp) (by simp) (by simp)]; exact h.base
  · rw [upd_self]
  · rw [ne _ _ (by simp) (by simp) (by simp)]; exact h.rw
  · rw [ne _ _ (by simp) (by simp) (by simp)]; exact h.rv
  · rw [ne _ _ (by simp) (by simp) (by simp)]; exact h.rr
  · rw [ne _ _ (by simp) (by simp) (by simp)]; exact h.rq
  · rw [ne _ _ (by simp) (by simp) (by simp)]; exact h.kb
  · rw [upd_ne _ _ _ _ (by simp), upd_self]
    show Ob.row 102 4 vk' (m + 1) _ = Ob.row 102 4 vk' (g.K ++ [(al, vw, xs)]).length ((g.K ++ [(al, vw, xs)]).flatMap kCells)
    rw [List.length_append, List.flatMap_append, ← hm]
    simp [kCells]
  · rw [ne _ _ (by simp) (by simp) (by simp)]; exact h.wr i b xs hb
  · rw [ne _ _ (by simp) (by simp) (by simp)]; exact h.dw i b v c xs h1 h2
  · rw [ne _ _ (by simp) (by simp) (by simp)]; exact h.rd i b xs p er hb
  · rw [ne _ _ (by simp) (by simp) (by simp)]; exact h.dr i b v c xs p er h1 h2
  · rw [ne _ _ (by simp) (by simp) (by simp), ne _ _ (by simp) (by simp) (by simp)]; exact h.lb i a v xs hb
  · have hb' : (g.K ++ [(al, vw, xs)])[i]? = some (a, v, ys) := hb
    by_cases hi : i < m
    · rw [List.getElem?_append_left (by omega)] at hb'
      rw [ne _ _ (by simp) (by simp) (by simp), ne _ _ (by intro e; cases e; omega) (by simp) (by simp)]
      exact h.lw i a v ys hb'
    · have hlt := (List.getElem?_eq_some_iff.1 hb').1
      rw [List.length_append, List.length_singleton] at hlt
      obtain rfl : i = m := by omega
      rw [List.getElem?_append_right (by omega), ← hm, Nat.sub_self] at hb'
      cases hb'
      refine ⟨by rw [ne _ _ (by simp) (by simp) (by simp)]; exact hl, ?_⟩
      rw [upd_ne _ _ _ _ (by simp), upd_ne _ _ _ _ (by simp), upd_self]

theorem Small.keptW {g : GS} {T : Nat} {al : Option Addr} {xs : List UInt32} {vw vk' : Value} (h : Small g T) (hx : xs.length ≤ T + 1) : Small { g with K := g.K ++ [(al, vw, xs)], sk := vk' } (T + 1) := by
  have h' := h.more (Nat.le_succ T)
  refine ⟨h'.w0, h'.r0, h'.w, h'.r, h'.b, ?_, h'.ws, h'.rs, h'.bs, fun i a v ys hb => ?_⟩
  · show (g.K ++ [(al, vw, xs)]).length ≤ _
    rw [List.length_append, List.length_singleton]
    have := h.k; omega
  · have hb' : (g.K ++ [(al, vw, xs)])[i]? = some (a, v, ys) := hb
    by_cases hi : i < g.K.length
    · rw [List.getElem?_append_left hi] at hb'
      exact h'.ks i a v ys hb'
    · rw [List.getElem?_append_right (by omega)] at hb'
      have hz : i - g.K.length = 0 := by
        have := (List.getElem?_eq_some_iff.1 hb').1
        simp at this; omega
      rw [hz] at hb'
      cases hb'
      exact hx
end Go.Proofs.Ytonjmknjjdnjkaa
