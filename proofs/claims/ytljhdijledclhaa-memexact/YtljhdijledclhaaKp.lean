import Derived.Test.YtljhdijledclhaaWf
namespace Go.Proofs.Ytljhdijledclhaa
open Go.RowKit
set_option linter.unusedVariables false
set_option linter.unusedSimpArgs false

theorem Holds.retag {tag tag' : Nat → Nat × Nat} {w : World} {o : Nat × Nat} {ob : Ob} (h : Holds tag w o ob) (ht : ∀ k, tag k = o → tag' k = o) : Holds tag' w o ob := by
  cases ob with
  | nothing => trivial
  | base w0 => exact ⟨fun k hk => ht k (h.1 k hk), h.2⟩
  | blk b l t => exact ⟨h.1, ht _ h.2⟩
  | row e size v n vs => exact ⟨h.1, fun k hk => ht k (h.2 k hk)⟩
  | mm b g xs => exact ⟨h.1, ht _ h.2.1, ht _ h.2.2⟩
  | rm b g xs => exact ⟨h.1, ht _ h.2.1, ht _ h.2.2⟩

/-- A row gets another key. -/
theorem Has.rename {s : Nat × Nat → Ob} {w : World} {o : Nat × Nat} {e : TypeId} {z n : Nat} {v : Value} {vs : List Value} (h : Has s w) (hs : s o = .row e z v n vs) (o2 : Nat × Nat) : Has (upd (upd s o .nothing) o2 (.row e z v n vs)) w := by
  obtain ⟨tag, h⟩ := h
  refine ⟨fun k => if tag k = o then o2 else tag k, fun o' => ?_⟩
  by_cases e2 : o' = o2
  · subst e2
    rw [upd_self]
    have h1 := h o
    rw [hs] at h1
    exact ⟨h1.1, fun k hk => if_pos (h1.2 k hk)⟩
  · rw [upd_ne _ _ _ _ e2]
    by_cases e1 : o' = o
    · subst e1; rw [upd_self]; trivial
    · rw [upd_ne _ _ _ _ e1]
      exact (h o').retag fun k hk => by
        show (if tag k = o then o2 else tag k) = o'
        rw [if_neg (by rw [hk]; exact e1)]; exact hk

theorem Rel.pushK {s : Nat × Nat → Ob} {g : GS} {w0 : World} (h : Rel s g w0) (al : Option Addr) (xs : List UInt32) (v sk' : Value) :
    Rel (upd (upd (upd (upd s (9, g.K.length) (.row 26 1 (.slice al xs.length xs.length) xs.length (wvs xs))) (10, g.K.length) (.row 26 1 v xs.length (wvs xs))) (4, 0) (.row 101 4 sk' (g.K.length + 1) (g.K.flatMap Kp.vs ++ [.slice al xs.length xs.length, v, .slice none 0 0, .slice none 0 0]))) (1, 0) (.blk g.X [g.sl, g.si, sk'] 38))
      { g with sk := sk', K := g.K ++ [⟨al, v, xs⟩] } w0 := by
  obtain ⟨n, hn⟩ : ∃ n, n = g.K.length := ⟨_, rfl⟩
  rw [← hn]
  obtain ⟨s', hs'⟩ : ∃ s', s' = upd (upd (upd (upd s (9, n) (.row 26 1 (.slice al xs.length xs.length) xs.length (wvs xs))) (10, n) (.row 26 1 v xs.length (wvs xs))) (4, 0) (.row 101 4 sk' (n + 1) (g.K.flatMap Kp.vs ++ [.slice al xs.length xs.length, v, .slice none 0 0, .slice none 0 0]))) (1, 0) (.blk g.X [g.sl, g.si, sk'] 38) := ⟨_, rfl⟩
  rw [← hs']
  have ne : ∀ a b, (a, b) ≠ (9, n) → (a, b) ≠ (10, n) → (a, b) ≠ (4, 0) → (a, b) ≠ (1, 0) → s' (a, b) = s (a, b) := fun a b h1 h2 h3 h4 => by
    rw [hs', upd_ne _ _ _ _ h4, upd_ne _ _ _ _ h3, upd_ne _ _ _ _ h2, upd_ne _ _ _ _ h1]
  refine ⟨?_, ?_, ?_, ?_, ?_, fun i p hp => ?_, fun i t ht => ?_, fun i e he => ?_⟩
  · rw [ne _ _ (by simp) (by simp) (by simp) (by simp)]; exact h.base
  · rw [hs', upd_self]
  · rw [ne _ _ (by simp) (by simp) (by simp) (by simp)]; exact h.rl
  · rw [ne _ _ (by simp) (by simp) (by simp) (by simp)]; exact h.ri
  · rw [hs', upd_ne _ _ _ _ (by simp), upd_self]
    show Ob.row 101 4 sk' (n + 1) _ = Ob.row 101 4 sk' (g.K ++ [(⟨al, v, xs⟩ : Kp)]).length ((g.K ++ [(⟨al, v, xs⟩ : Kp)]).flatMap Kp.vs)
    rw [List.length_append, List.flatMap_append, ← hn]
    simp [Kp.vs]
  · rw [ne _ _ (by simp) (by simp) (by simp) (by simp), ne _ _ (by simp) (by simp) (by simp) (by simp)]; exact h.mm i p hp
  · obtain ⟨p, q, h1, h2, h3, h4⟩ := h.it i t ht
    exact ⟨p, q, h1, h2, by rw [ne _ _ (by simp) (by simp) (by simp) (by simp)]; exact h3, by rw [ne _ _ (by simp) (by simp) (by simp) (by simp)]; exact h4⟩
  · have he' : (g.K ++ [(⟨al, v, xs⟩ : Kp)])[i]? = some e := he
    by_cases hi : i < n
    · rw [List.getElem?_append_left (by omega)] at he'
      rw [ne _ _ (by intro e; cases e; omega) (by simp) (by simp) (by simp), ne _ _ (by simp) (by intro e; cases e; omega) (by simp) (by simp)]
      exact h.lw i e he'
    · have hlt := (List.getElem?_eq_some_iff.1 he').1
      rw [List.length_append, List.length_singleton] at hlt
      obtain rfl : i = n := by omega
      rw [List.getElem?_append_right (by omega), ← hn, Nat.sub_self] at he'
      cases he'
      refine ⟨?_, ?_⟩
      · rw [hs', upd_ne _ _ _ _ (by simp), upd_ne _ _ _ _ (by simp), upd_ne _ _ _ _ (by simp), upd_self]
      · rw [hs', upd_ne _ _ _ _ (by simp), upd_ne _ _ _ _ (by simp), upd_self]

theorem Small.pushK {g : GS} {T : Nat} {al : Option Addr} {xs : List UInt32} {v sk' : Value} (h : Small g T) (hx : xs.length ≤ 16384) : Small { g with sk := sk', K := g.K ++ [⟨al, v, xs⟩] } (T + 1) := by
  have h' := h.mono (Nat.le_succ T)
  refine ⟨h'.p1, h'.p12, h'.px, h'.i, ?_, fun i e he => ?_⟩
  · show (g.K ++ [_]).length ≤ _
    rw [List.length_append, List.length_singleton]
    have := h.k; omega
  · have he' : (g.K ++ [(⟨al, v, xs⟩ : Kp)])[i]? = some e := he
    by_cases hi : i < g.K.length
    · rw [List.getElem?_append_left hi] at he'
      exact h.ks i e he'
    · rw [List.getElem?_append_right (by omega)] at he'
      have hz : i - g.K.length = 0 := by
        have := (List.getElem?_eq_some_iff.1 he').1
        simp at this; omega
      rw [hz] at he'
      cases he'
      exact hx

theorem own_seg {w : World} {n : Nat} {ts : List UInt32} {a : Option Addr} {c m : Nat} (h : w.ownsRow 0 26 1 (.slice a m c) n (wvs ts)) (hn : n = ts.length) (h0 : ts ≠ []) : ∃ g, a = some ⟨g, 0, none⟩ := by
  rcases h.2 with ⟨h1, h2⟩ | ⟨g, cap, cur, h1, _⟩
  · exact absurd (List.eq_nil_of_length_eq_zero (hn ▸ h2)) h0
  · cases h1; exact ⟨g, rfl⟩

/-- A list that was told is kept. -/
theorem keep_step {w0 w : World} {s : Nat × Nat → Ob} {g : GS} {o : Nat × Nat} {al aw : Option Addr} {cw : Nat} {ts : List UInt32} (hH : Has s w) (hR : Rel s g w0) (ho : s o = .row 26 1 (.slice al ts.length ts.length) ts.length (wvs ts)) (ho1 : 11 ≤ o.1) (hw : SegW w aw ts)
    (hwn : ∀ x, aw = some x → ts ≠ [] → x.block ≠ g.X ∧ g.sk.ownBlock ≠ some x.block) (hts : ts.length ≤ 4294967296) (hK : g.K.length ≤ 17179869184) :
    Calls Try.prog 46 #[.pointer (some ⟨g.X, 2, none⟩), .slice al ts.length ts.length, .slice aw ts.length cw] w fun e w' => e = .returned (.bool true) ∧ ∃ s' v sk', Has s' w' ∧ Rel s' { g with sk := sk', K := g.K ++ [⟨al, v, ts⟩] } w0 ∧ ∀ o', 11 ≤ o'.1 → o' ≠ o → s' o' = s o' := by
  obtain ⟨n, hn⟩ : ∃ n, n = g.K.length := ⟨_, rfl⟩
  have H1 := hH.rename ho (9, n)
  have n1 : ∀ a b, a < 9 → upd (upd s o .nothing) (9, n) (.row 26 1 (.slice al ts.length ts.length) ts.length (wvs ts)) (a, b) = s (a, b) := fun a b ha => by
    rw [upd_ne _ _ _ _ (by intro e; cases e; omega), upd_ne _ _ _ _ (by intro e; rw [← e] at ho1; simp only at ho1; omega)]
  have h9 : upd (upd s o .nothing) (9, n) (.row 26 1 (.slice al ts.length ts.length) ts.length (wvs ts)) (9, n) = .row 26 1 (.slice al ts.length ts.length) ts.length (wvs ts) := upd_self _ _ _
  have R1 : Rel (upd s o .nothing) g w0 := by obtain ⟨o1, o2⟩ := o; exact hR.other o1 o2 ho1 _
  have h1 := (n1 1 0 (by omega)).trans hR.x
  have h4 := (n1 4 0 (by omega)).trans hR.rk
  obtain ⟨hB, -⟩ := H1.blk h1
  obtain ⟨hk, -⟩ := H1.row h4
  obtain ⟨hl, -⟩ := H1.row h9
  have hkb := H1.row_ne_blk h4 h1 (by simp)
  refine (keep_any g.X _ g.sk g.K.length _ al aw ts.length cw ts w hB rfl hk hK hkb (owns_segW hl) hw (fun x hx h0 => ?_) hwn hts).mono ?_
  · obtain ⟨q, hq⟩ := own_seg hl rfl h0
    rw [hx] at hq
    cases hq
    subst hx
    refine ⟨fun e => H1.row_ne_blk h9 h1 (by simp) (congrArg some e), H1.row_ne h9 h4 (by simp) rfl⟩
  rintro e w' ⟨rfl, sk', wa, wc, k1, k2, k3, k4, k5, k6⟩
  refine ⟨rfl, _, .slice wa ts.length wc, sk', ?_, by rw [hn] at *; exact R1.pushK al ts (.slice wa ts.length wc) sk', fun o' h11 hne => ?_⟩
  · obtain ⟨tag, h⟩ := H1
    have hz := k6.size
    have tX : tag g.X = (1, 0) := by have := h (1, 0); rw [h1] at this; exact this.2
    have tk : ∀ k, g.sk.ownBlock = some k → tag k = (4, 0) := by have := h (4, 0); rw [h4] at this; exact this.2
    refine ⟨fun k => if k < w.heap.size then tag k else if sk'.ownBlock = some k then (4, 0) else (10, n), fun o' => ?_⟩
    rw [← hn]
    by_cases e1 : o' = (1, 0)
    · subst e1; rw [upd_self]
      exact ⟨k1, by show (if _ then _ else _) = _; rw [if_pos hB.lt]; exact tX⟩
    rw [upd_ne _ _ _ _ e1]
    by_cases e4 : o' = (4, 0)
    · subst e4; rw [upd_self]
      refine ⟨hn ▸ k2, fun k hk' => ?_⟩
      show (if _ then _ else _) = _
      by_cases hlt : k < w.heap.size
      · rw [if_pos hlt]
        rcases k5 with e5 | ⟨q, e5, hq⟩
        · exact tk k (e5.symm.trans hk')
        · rw [e5] at hk'; cases hk'; omega
      · rw [if_neg hlt, if_pos hk']
    rw [upd_ne _ _ _ _ e4]
    by_cases e10 : o' = (10, n)
    · subst e10; rw [upd_self]
      refine ⟨k3, fun k hk' => ?_⟩
      obtain ⟨q1, q2⟩ := k4 k hk'
      show (if _ then _ else _) = _
      rw [if_neg (by omega), if_neg q2]
    rw [upd_ne _ _ _ _ e10]
    refine (h o').kept k6 (fun k hk' hS e => ?_) fun k hk' => if_pos hk'
    rcases hS with rfl | hS
    · exact e1 (e.symm.trans tX)
    · exact e4 (e.symm.trans (tk k hS.symm))
  · rw [upd_ne _ _ _ _ (by intro e; rw [e] at h11; simp at h11), upd_ne _ _ _ _ (by intro e; rw [e] at h11; simp at h11), upd_ne _ _ _ _ (by intro e; rw [e] at h11; simp at h11), upd_ne _ _ _ _ (by intro e; rw [e] at h11; simp at h11), upd_ne _ _ _ _ hne]

theorem own_of_blkW {w : World} {G : Nat} {xs : List UInt32} (h : Blk w G (wvs xs) 26) (hl : xs.length ≤ maxLen) : w.ownsRow 0 26 1 (.slice (some ⟨G, 0, none⟩) xs.length xs.length) xs.length (wvs xs) :=
  ⟨by rw [wvs_length]; omega, .inr ⟨G, xs.length, (wvs xs).toArray, rfl, Nat.zero_le _, h, Nat.le_refl _, hl, by simp [wvs_length], by simp only [Nat.mul_one]; exact List.take_of_length_le (by rw [wvs_length]; exact Nat.le_refl _)⟩⟩

end Go.Proofs.Ytljhdijledclhaa
