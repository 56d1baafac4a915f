import Derived.Test.YtonjmknjjdnjkaaLsA
namespace Go.Proofs.Ytonjmknjjdnjkaa
open Go.RowKit
set_option linter.unusedVariables false

/-- The play in the middle of a call about lists: the operation's box stands, so many lists are told. -/
structure Stt (w0 : World) (X T m n bo : Nat) (opc : List Value) (w : World) (s : Nat × Nat → Ob) : Prop where
  has : Has s w
  box : s (21, 0) = .blk bo opc 41
  out : ∃ g, Rel s g w0 ∧ Small g T ∧ g.X = X ∧ g.B.length = m ∧ g.K.length = n

section
variable {w0 w w' : World} {X T m n bo : Nat} {opc : List Value} {s : Nat × Nat → Ob}

theorem Stt.quiet (h : Stt w0 X T m n bo opc w s) (hK : Keeps (fun _ => False) w w') : Stt w0 X T m n bo opc w' s := ⟨h.has.quiet hK, h.box, h.out⟩
theorem Stt.key (h : Stt w0 X T m n bo opc w s) {x y : Nat} {ob : Ob} (hx : 16 ≤ x) (hx2 : x ≠ 21) (hH : Has (upd s (x, y) ob) w') : Stt w0 X T m n bo opc w' (upd s (x, y) ob) := by
  obtain ⟨g, h1, h2⟩ := h.out
  exact ⟨hH, by rw [upd_ne _ _ _ _ (by intro e; cases e; exact hx2 rfl)]; exact h.box, g, h1.other x y hx ob, h2⟩
theorem Stt.told (h : Stt w0 X T m n bo opc w s) {ob : Ob} (hH : Has (upd s (12, m) ob) w') : Stt w0 X T m n bo opc w' (upd s (12, m) ob) := by
  obtain ⟨g, h1, h2, h3, h4, h5⟩ := h.out
  exact ⟨hH, by rw [upd_ne _ _ _ _ (by simp)]; exact h.box, g, h1.spare m (by omega) ob, h2, h3, h4, h5⟩
theorem Stt.toldW (h : Stt w0 X T m n bo opc w s) {ob : Ob} (hH : Has (upd s (14, n) ob) w') : Stt w0 X T m n bo opc w' (upd s (14, n) ob) := by
  obtain ⟨g, h1, h2, h3, h4, h5⟩ := h.out
  exact ⟨hH, by rw [upd_ne _ _ _ _ (by simp)]; exact h.box, g, h1.spareW n (by omega) ob, h2, h3, h4, h5⟩
theorem Stt.more {T' : Nat} (h : Stt w0 X T m n bo opc w s) (hT : T ≤ T') : Stt w0 X T' m n bo opc w s := by
  obtain ⟨g, h1, h2, h3⟩ := h.out
  exact ⟨h.has, h.box, g, h1, h2.more hT, h3⟩
theorem Stt.game (h : Stt w0 X T m n bo opc w s) : Game w0 w X T := by
  obtain ⟨g, h1, h2, h3, _⟩ := h.out
  exact ⟨s, g, h.has, h1, h2, h3⟩
theorem Stt.base (h : Stt w0 X T m n bo opc w s) : Keeps (fun _ => False) w0 w ∧ ∀ G l t, s (20, 0) = .blk G l t → ∀ k, k < w0.heap.size → k ≠ G := by
  obtain ⟨g, h1, _⟩ := h.out
  exact ⟨h.has.base h1.base, fun G l t hG => h.has.blk_ne_base hG h1.base (by simp)⟩
theorem Stt.seg (h : Stt w0 X T m n bo opc w s) {a : Option Addr} {xs : List UInt8} (hx : Seg w0 a xs) : Seg w a xs ∧ ∀ G l t, s (20, 0) = .blk G l t → xs = [] ∨ ∀ x, a = some x → x.block ≠ G := by
  obtain ⟨hK, hne⟩ := h.base
  refine ⟨hx.kept hK (fun _ _ e => e), fun G l t hG => ?_⟩
  rcases hx with h | ⟨k, o, rfl, hc⟩
  · exact .inl h
  · cases xs with
    | nil => exact .inl rfl
    | cons z zs =>
      refine .inr fun x hx => ?_
      cases hx
      exact hne G l t hG k (World.block_lt_of_cell? w0 ⟨k, o + 0, none⟩ (hc 0 (by simp)))
theorem Stt.segW (h : Stt w0 X T m n bo opc w s) {a : Option Addr} {xs : List UInt32} (hx : SegW w0 a xs) : SegW w a xs ∧ ∀ G l t, s (20, 0) = .blk G l t → xs = [] ∨ ∀ x, a = some x → x.block ≠ G := by
  obtain ⟨hK, hne⟩ := h.base
  refine ⟨hx.kept hK (fun _ _ e => e), fun G l t hG => ?_⟩
  rcases hx with h | ⟨k, o, rfl, hc⟩
  · exact .inl h
  · cases xs with
    | nil => exact .inl rfl
    | cons z zs =>
      refine .inr fun x hx => ?_
      cases hx
      exact hne G l t hG k (World.block_lt_of_cell? w0 ⟨k, o + 0, none⟩ (hc 0 (by simp)))

theorem Stt.keep (h : Stt w0 X T m n bo opc w s) {al aw : Option Addr} {cw k : Nat} {xs : List UInt8} (hk : xs.length = k)
    (hl : s (12, m) = .row 5 1 (.slice al k k) k (bvs xs)) (hw : s (22, 0) = .row 5 1 (.slice aw k cw) k (bvs xs)) (hx : k ≤ T + 1) (hT : T ≤ 4294967296) :
    Calls Try.prog 54 #[.pointer (some ⟨X, 4, none⟩), .slice al k k, .slice aw k cw] w fun e w' => e = .returned (.bool true) ∧ ∃ s', Stt w0 X (T + 1) (m + 1) n bo opc w' s' ∧ ∀ y z, 16 ≤ y → s' (y, z) = s (y, z) := by
  subst hk
  obtain ⟨g, hR, hS, hX, hB, hK⟩ := h.out
  subst hX hB
  have hb := hS.b
  refine (keepBytes_any s w g.X g.B.length _ _ _ _ _ _ _ al aw xs.length cw xs (12, g.B.length) (22, 0) h.has hR.x hR.kb (fun s2 w2 h2 h3 => (own_seg ((h2.row (h3.trans hl)).1)).2) (fun s2 w2 h2 h3 => (own_seg ((h2.row (h3.trans hw)).1)).2) (by simp) (by simp) (by omega) (by omega)).mono ?_
  rintro e w' ⟨rfl, vw, vk', _, _, H'⟩
  refine ⟨rfl, _, ⟨H', ?_, _, hR.kept al xs vw vk' hl, hS.kept hx, rfl, ?_, hK⟩, fun y z hy => ?_⟩
  · rw [upd_ne _ _ _ _ (by simp), upd_ne _ _ _ _ (by simp), upd_ne _ _ _ _ (by simp)]; exact h.box
  · show (g.B ++ [_]).length = _
    rw [List.length_append, List.length_singleton]
  · rw [upd_ne _ _ _ _ (by intro e; cases e; omega), upd_ne _ _ _ _ (by intro e; cases e; omega), upd_ne _ _ _ _ (by intro e; cases e; omega)]

theorem Stt.keepW (h : Stt w0 X T m n bo opc w s) {al aw : Option Addr} {cw k : Nat} {xs : List UInt32} (hk : xs.length = k)
    (hl : s (14, n) = .row 36 1 (.slice al k k) k (wvs xs)) (hw : s (22, 0) = .row 36 1 (.slice aw k cw) k (wvs xs)) (hx : k ≤ T + 1) (hT : T ≤ 4294967296) :
    Calls Try.prog 58 #[.pointer (some ⟨X, 4, none⟩), .slice al k k, .slice aw k cw] w fun e w' => e = .returned (.bool true) ∧ ∃ s', Stt w0 X (T + 1) m (n + 1) bo opc w' s' ∧ ∀ y z, 16 ≤ y → s' (y, z) = s (y, z) := by
  subst hk
  obtain ⟨g, hR, hS, hX, hB, hK⟩ := h.out
  subst hX hK
  have hb := hS.k
  refine (keepWords_any s w g.X g.K.length _ _ _ _ _ _ _ al aw xs.length cw xs (14, g.K.length) (22, 0) h.has hR.x hR.kw (fun s2 w2 h2 h3 => (own_segW ((h2.row (h3.trans hl)).1)).2) (fun s2 w2 h2 h3 => (own_segW ((h2.row (h3.trans hw)).1)).2) (by simp) (by simp) (by omega) (by omega)).mono ?_
  rintro e w' ⟨rfl, vw, vk', _, _, H'⟩
  refine ⟨rfl, _, ⟨H', ?_, _, hR.keptW al xs vw vk' hl, hS.keptW hx, rfl, hB, ?_⟩, fun y z hy => ?_⟩
  · rw [upd_ne _ _ _ _ (by simp), upd_ne _ _ _ _ (by simp), upd_ne _ _ _ _ (by simp)]; exact h.box
  · show (g.K ++ [_]).length = _
    rw [List.length_append, List.length_singleton]
  · rw [upd_ne _ _ _ _ (by intro e; cases e; omega), upd_ne _ _ _ _ (by intro e; cases e; omega), upd_ne _ _ _ _ (by intro e; cases e; omega)]
end

theorem segW_pre {w : World} {G : Nat} {xs : List UInt32} {zs : List Value} (h : Blk w G (wvs xs ++ zs) 36) : SegW w (some ⟨G, 0, none⟩) xs := by
  refine .inr ⟨G, 0, rfl, fun j hj => ?_⟩
  have := h.cell (i := j) (v := .int .u32 (xs[j].toNat : Int)) (by rw [List.getElem?_append_left (by rw [wvs_length]; exact hj)]; exact wvs_get xs j hj)
  rw [Nat.zero_add]
  exact this
theorem segW_rep {w : World} {G n : Nat} (h : Blk w G (List.replicate (n + 9) n78) 36) : SegW w (some ⟨G, 0, none⟩) (List.replicate n 2021161080) := by
  refine segW_pre (zs := List.replicate 9 n78) ?_
  rw [wvs_rep]
  show Blk w G (List.replicate n n78 ++ List.replicate 9 n78) 36
  rw [List.replicate_append_replicate]
  exact h

/-- The beginning of a call about lists. -/
theorem Game.stt {w0 w : World} {X T : Nat} (h : Game w0 w X T) (op : Array Value) : ∃ m n s, Stt w0 X T m n w.heap.size op.toList (w.alloc (.cells op 41)) s := by
  obtain ⟨s, g, hH, hR, hS, hX⟩ := h.out
  exact ⟨_, _, _, has_box hH op, upd_self _ _ _, g, hR.other 21 0 (by omega) _, hS, hX, rfl, rfl⟩
end Go.Proofs.Ytonjmknjjdnjkaa
