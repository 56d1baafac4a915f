import Derived.Test.YtonjmknjjdnjkaaBegA
import Derived.Test.YtonjmknjjdnjkaaRdC
namespace Go.Proofs.Ytonjmknjjdnjkaa
open Go.RowKit
set_option linter.unusedVariables false

theorem seg_pre {w : World} {G : Nat} {xs : List UInt8} {zs : List Value} (h : Blk w G (bvs xs ++ zs) 5) : Seg w (some ⟨G, 0, none⟩) xs := by
  refine .inr ⟨G, 0, rfl, fun j hj => ?_⟩
  have := h.cell (i := j) (v := .int .u8 (xs[j].toNat : Int)) (by rw [List.getElem?_append_left (by rw [bvs_length]; exact hj)]; exact bvs_get xs j hj)
  rw [Nat.zero_add]
  exact this

theorem cell_kept {S : Nat → Prop} {w w' : World} {a : Addr} {v : Value} (h : w.cell? a = some v) (hK : Keeps S w w') (hn : ¬ S a.block) : w'.cell? a = some v := by
 rw [World.cell?_of_block (w := w) (hK.block a.block (World.block_lt_of_cell? w a h) hn)]
 exact h
theorem Fits.more {g : GS} {T T' : Nat} (h : Fits g T) (hT : T ≤ T') : Fits g T' :=
  ⟨by have := h.w; omega, by have := h.r; omega, by have := h.b; omega, by have := h.k; omega,
    fun i b xs hb => by have := h.ws i b xs hb; omega, fun i b xs p er hb => by have := h.rs i b xs p er hb; omega, fun i a v xs hb => by have := h.bs i a v xs hb; omega, fun i a v xs hb => by have := h.ks i a v xs hb; omega⟩
theorem wp_append_run {o : Oper} {a : Act} {K : Act → World → Prop} {Q : Exit → Act → World → Prop} {P : Program} {w : World} (s x : Operand) (t k : TypeId)
    (ho : o.op = .call { callee := .builtin .append, args := #[s, x], argTypes := #[t, k] }) (vs vx v' : Value) (w' : World) (hs : a.eval s = vs) (hx : a.eval x = vx)
    (hr : ∀ ty, (Builtin.append_ #[t, k] ty #[vs, vx]).run P w = .ok v' w') (h : K (a.put o.dst v') w') : Oper.wp P o a w K Q := by
  unfold Oper.wp execOp
  simp only [ho, resolve, invoke, builtin, Sem.run_bind, Sem.run_pure, Result.andThen_ok, List.map_toArray, List.map_cons, List.map_nil, hs, hx, hr]
  exact h

/-- What comes behind the two new readers: both lists take them up. -/
theorem beg_rest {s1 s4 : Nat × Nat → Ob} {g : GS} {w0 w4 : World} {T L b c G : Nat} {xs : List UInt8} {v' : Value} {lent : List Value} (H4 : Has s4 w4) (R1 : Rel s1 g w0) (hF : Fits g T) (hL : g.R.length = L) (hT : T ≤ 4294967280)
    (k10 : s4 (10, L) = .rd b xs 0 0) (k11 : s4 (11, L) = .dr c v' xs 0 0) (k20 : s4 (20, 0) = .blk G lent 5)
    (n4 : ∀ x y, x < 16 → (x, y) ≠ (10, L) → (x, y) ≠ (11, L) → s4 (x, y) = s1 (x, y)) (hx : xs.length ≤ T + 8) :
    ∃ a5 c5 W5 a7 c7 W7 W6 W8 s8 g8, w4.cell? ⟨g.X, 3, none⟩ = some g.sq ∧
      (∀ ty, (Builtin.append_ #[28, 28] ty #[g.sq, .slice (some ⟨w4.heap.size, 0, none⟩) 1 1]).run Try.prog (w4.alloc (.cells #[.pointer (some ⟨c, 0, none⟩)] 90)) = .ok (.slice a5 (L + 1) c5) W5) ∧
      (Blk W5 g.X [g.sw, g.sv, g.sr, g.sq, g.sb, g.sk] 34 ∧ W6 = W5.setCell ⟨g.X, 3, none⟩ (.slice a5 (L + 1) c5)) ∧
      (Blk W6 g.X [g.sw, g.sv, g.sr, .slice a5 (L + 1) c5, g.sb, g.sk] 34) ∧
      (∀ ty, (Builtin.append_ #[27, 27] ty #[g.sr, .slice (some ⟨W6.heap.size, 0, none⟩) 1 1]).run Try.prog (W6.alloc (.cells #[.pointer (some ⟨b, 0, none⟩)] 66)) = .ok (.slice a7 (L + 1) c7) W7) ∧
      (Blk W7 g.X [g.sw, g.sv, g.sr, .slice a5 (L + 1) c5, g.sb, g.sk] 34 ∧ W8 = W7.setCell ⟨g.X, 2, none⟩ (.slice a7 (L + 1) c7)) ∧
      Has s8 W8 ∧ Rel s8 g8 w0 ∧ Fits g8 (T + 8) ∧ g8.X = g.X ∧ g8.W = g.W ∧ g8.V = g.V ∧ g8.R.length = L + 1 ∧ s8 (20, 0) = .blk G lent 5 ∧ s8 (24, 0) = s4 (24, 0) := by
  obtain ⟨X, sw, sv, sr, sq, sb, sk, gW, gV, gR, gQ, gB, gK⟩ := g
  dsimp only at hL ⊢
  have hlQ : gQ.length = gR.length := R1.lenQ
  have x4 : s4 (1, 0) = .blk X [sw, sv, sr, sq, sb, sk] 34 := (n4 1 0 (by omega) (by simp) (by simp)).trans R1.x
  have rr4 : s4 (4, 0) = .row 66 1 sr L (gR.map fun e => ptr e.1) := by rw [← hL]; exact (n4 4 0 (by omega) (by simp) (by simp)).trans R1.rr
  have rq4 : s4 (5, 0) = .row 90 1 sq L (gQ.map fun e => ptr e.1) := by rw [← hL, ← hlQ]; exact (n4 5 0 (by omega) (by simp) (by simp)).trans R1.rq
  have hLT : L ≤ T + 8 := by rw [← hL]; exact hF.r
  obtain ⟨hB4, _⟩ := H4.blk x4
  obtain ⟨hrow, next⟩ := H4.row rq4
  obtain ⟨a5, c5, W5, happ5, hown5, hG5⟩ := append_ptr 28 90 Try.under28 Try.info90 c _ _ _ hrow (by omega)
  obtain ⟨s5, H5, k5, n5⟩ := (next _ _ _ _ hown5 hG5).name
  obtain ⟨hB5, next5⟩ := H5.blk ((n5 (1, 0) (by simp)).trans x4)
  have hK6 : ∀ v, Keeps (· = X) W5 (W5.setCell ⟨X, 3, none⟩ v) := fun v => (Keeps.refl (· = X) W5).setCell ⟨X, 3, none⟩ _ (fun _ => Eq.refl X)
  obtain ⟨s6, H6, k6, n6⟩ := (next5 _ _ _ (hB5.setCell 3 (.slice a5 (L + 1) c5)) (hK6 _)).name
  obtain ⟨W6, hW6⟩ : ∃ W6, W6 = W5.setCell ⟨X, 3, none⟩ (.slice a5 (L + 1) c5) := ⟨_, rfl⟩
  rw [← hW6] at H6
  obtain ⟨hB6, _⟩ := H6.blk k6
  obtain ⟨hrow6, next6⟩ := H6.row ((n6 (4, 0) (by simp)).trans ((n5 (4, 0) (by simp)).trans rr4))
  obtain ⟨a7, c7, W7, happ7, hown7, hG7⟩ := append_ptr 27 66 Try.under27 Try.info66 b _ _ _ hrow6 (by omega)
  obtain ⟨s7, H7, k7, n7⟩ := (next6 _ _ _ _ hown7 hG7).name
  obtain ⟨hB7, next7⟩ := H7.blk ((n7 (1, 0) (by simp)).trans k6)
  have hK8 : ∀ v, Keeps (· = X) W7 (W7.setCell ⟨X, 2, none⟩ v) := fun v => (Keeps.refl (· = X) W7).setCell ⟨X, 2, none⟩ _ (fun _ => Eq.refl X)
  obtain ⟨s8, H8, k8, n8⟩ := (next7 _ _ _ (hB7.setCell 2 (.slice a7 (L + 1) c7)) (hK8 _)).name
  have nn : ∀ o, o ≠ (1, 0) → o ≠ (4, 0) → o ≠ (5, 0) → s8 o = s4 o := fun o h1 h4 h5 => (n8 o h1).trans ((n7 o h4).trans ((n6 o h1).trans (n5 o h5)))
  have R8 := R1.pushR (s' := s8) b c xs v' (.slice a7 (L + 1) c7) (.slice a5 (L + 1) c5) k8
    (by show _ = Ob.row 66 1 _ (gR.length + 1) _; rw [hL]; exact (n8 (4, 0) (by simp)).trans k7)
    (by show _ = Ob.row 90 1 _ (gR.length + 1) _; rw [hL]; exact (n8 (5, 0) (by simp)).trans ((n7 (5, 0) (by simp)).trans ((n6 (5, 0) (by simp)).trans k5)))
    (by show s8 (10, gR.length) = _; rw [hL]; exact (nn _ (by simp) (by simp) (by simp)).trans k10)
    (by show s8 (11, gR.length) = _; rw [hL]; exact (nn _ (by simp) (by simp) (by simp)).trans k11)
    (by
      show ∀ x y, x < 16 → (x, y) ≠ (1, 0) → (x, y) ≠ (4, 0) → (x, y) ≠ (5, 0) → (x, y) ≠ (10, gR.length) → (x, y) ≠ (11, gR.length) → s8 (x, y) = s1 (x, y)
      intro x y hx m1 m4 m5 m10 m11
      rw [hL] at m10 m11
      exact (nn _ m1 m4 m5).trans (n4 x y hx m10 m11))
  exact ⟨a5, c5, W5, a7, c7, W7, W6, _, s8, _, hB4.cell (i := 3) rfl, happ5, ⟨hB5, hW6⟩, hB6, happ7, ⟨hB7, rfl⟩, H8, R8, hF.pushR (by omega) (by omega), rfl, rfl, rfl, by show (gR ++ [_]).length = _; rw [List.length_append, List.length_singleton, hL], (nn _ (by simp) (by simp) (by simp)).trans k20, nn _ (by simp) (by simp) (by simp)⟩

/-- Where the bytes of a reader come from: they can be read wherever the play stands, and lie apart from what is lent. -/
structure Src (g : GS) (w0 : World) (a : Option Addr) (xs : List UInt8) : Prop where
  out : ∀ (s : Nat × Nat → Ob) (g' : GS) (w : World), Has s w → Rel s g' w0 → g'.W = g.W → g'.V = g.V → Seg w a xs ∧ ∀ G l t, s (20, 0) = .blk G l t → xs = [] ∨ ∀ x, a = some x → x.block ≠ G

/-- The same, of bytes that may hang on the key 24 besides. -/
structure SrcM (ob : Ob) (g : GS) (w0 : World) (a : Option Addr) (xs : List UInt8) : Prop where
  out : ∀ (s : Nat × Nat → Ob) (g' : GS) (w : World), Has s w → Rel s g' w0 → g'.W = g.W → g'.V = g.V → s (24, 0) = ob → Seg w a xs ∧ ∀ G l t, s (20, 0) = .blk G l t → xs = [] ∨ ∀ x, a = some x → x.block ≠ G

theorem Src.m {g : GS} {w0 : World} {a : Option Addr} {xs : List UInt8} (h : Src g w0 a xs) (ob : Ob) : SrcM ob g w0 a xs := ⟨fun s g' w h1 h2 h3 h4 _ => h.out s g' w h1 h2 h3 h4⟩

theorem Has.blk_ne_blk {s : Nat × Nat → Ob} {w : World} {o o2 : Nat × Nat} {b b2 : Nat} {l l2 : List Value} {t t2 : TypeId} (h : Has s w) (hs : s o = .blk b l t) (hs2 : s o2 = .blk b2 l2 t2) (hne : o ≠ o2) : b2 ≠ b := by
  obtain ⟨tag, h⟩ := h
  have h1 := h o
  have h2 := h o2
  rw [hs] at h1
  rw [hs2] at h2
  rintro rfl
  exact hne (h1.2.symm.trans h2.2)

theorem src_blk {g : GS} {w0 : World} {B : Nat} {xs : List UInt8} {zs : List Value} : SrcM (.blk B (bvs xs ++ zs) 5) g w0 (some ⟨B, 0, none⟩) xs := by
  refine ⟨fun s g' w hH hR _ _ h24 => ⟨seg_pre (hH.blk h24).1, fun G l t hG => .inr fun x hx => ?_⟩⟩
  cases hx
  exact hH.blk_ne_blk hG h24 (by simp)

theorem src_base {g : GS} {w0 : World} {a : Option Addr} {xs : List UInt8} (h : Seg w0 a xs) : Src g w0 a xs := by
  refine ⟨fun s g' w hH hR _ _ => ⟨h.kept (hH.base hR.base) (fun _ _ e => e), fun G l t hG => ?_⟩⟩
  rcases h with h | ⟨k, o, rfl, hc⟩
  · exact .inl h
  · cases xs with
    | nil => exact .inl rfl
    | cons z zs =>
      refine .inr fun x hx => ?_
      cases hx
      exact hH.blk_ne_base hG hR.base (by simp) k (World.block_lt_of_cell? w0 ⟨k, o + 0, none⟩ (hc 0 (by simp)))

theorem src_own {g : GS} {w0 : World} {i b c n k : Nat} {xs : List UInt8} {a : Option Addr} (hb : g.W[i]? = some (b, xs)) (hc : g.V[i]? = some (c, .slice a n k)) : Src g w0 a xs := by
  refine ⟨fun s g' w hH hR hW hV => ?_⟩
  have k9 := hR.dw i c _ b xs (by rw [hV]; exact hc) (by rw [hW]; exact hb)
  obtain ⟨hRW, _⟩ := hH.dw k9
  obtain ⟨a', c', e, _, _⟩ := own_slice hRW.row
  cases e
  obtain ⟨_, hs⟩ := own_seg hRW.row
  refine ⟨hs, fun G l t hG => ?_⟩
  rcases hs with h | ⟨q, o, rfl, hcell⟩
  · exact .inl h
  · refine .inr fun x hx => ?_
    cases hx
    rcases hRW.row.2 with ⟨h1, _⟩ | ⟨q', cap, cur, h1, _⟩
    · cases h1
    · cases h1
      exact hH.blk_ne_dw hG k9 (by simp) _ rfl
end Go.Proofs.Ytonjmknjjdnjkaa
