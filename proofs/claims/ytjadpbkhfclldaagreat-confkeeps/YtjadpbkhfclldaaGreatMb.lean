import Derived.Test.YtjadpbkhfclldaaGreatJRm
import Derived.Test.YtjadpbkhfclldaaGreatKy
namespace Go.Proofs.YtjadpbkhfclldaaGreat
open Go.RowKit
set_option linter.unusedVariables false
set_option linter.unusedSimpArgs false
set_option maxRecDepth 6000

/-! ### What a configuration is but for what its lists hold -/
def Core.sk (X : Core) : Option Addr × Nat × Nat := (X.a, X.c, X.ws.length)
def Par.sk (P : Par) : ByteArray × List Int × Option Addr × Nat × Nat × Option Addr × Nat × Nat := (P.name, P.ns, P.ra, P.rc, P.rs.length, P.pa, P.pc, P.ps.length)
def Cfg.sk (x : Cfg) : List Int × Option Addr × Nat × List (Option Addr × Nat × Nat) × Option Addr × Nat × List (ByteArray × List Int × Option Addr × Nat × Nat × Option Addr × Nat × Nat) × Option Addr × Nat × Nat :=
  (x.ns, x.ca, x.cc, x.cs.map Core.sk, x.pa, x.pc, x.ps.map Par.sk, x.ha, x.hc, x.hs.length)
/-- All its blocks. -/
def Cfg.B (x : Cfg) (k : Nat) : Prop := Lall eCoreR x.ca x.cs k ∨ Lall eParR x.pa x.ps k ∨ Lall eChn x.ha x.hs k
theorem Cfg.LstsR.rangeB {x : Cfg} {w : World} {lo k : Nat} (h : x.LstsR w lo) (hk : x.B k) : lo ≤ k ∧ k < w.heap.size := by
  rcases hk with hk | hk | hk
  · exact h.cs.range hk
  · exact h.ps.range hk
  · exact h.hs.range hk

/-- One cell of a row of one's own is set. -/
theorem own_set {w : World} {e : TypeId} {s n g cap : Nat} {Y : List Value} (h : w.ownsRow 0 e s (.slice (some ⟨g, 0, none⟩) n cap) n Y) {i : Nat} (hi : i < n * s) (v : Value) :
    (∃ v0, w.cell? ⟨g, i, none⟩ = some v0) ∧ w.frozen? ⟨g, i, none⟩ = false ∧ (w.setCell ⟨g, i, none⟩ v).ownsRow 0 e s (.slice (some ⟨g, 0, none⟩) n cap) n (Y.set i v) := by
  rcases h.2 with ⟨h2, _⟩ | ⟨g2, cap2, cur, h2, hb, hg, h3, h4, h5, h6⟩
  · cases h2
  · cases h2
    have hB : Blk w g cur.toList e := by unfold Blk; rw [Array.toArray_toList]; exact hg
    have hY : i < Y.length := by rw [h.1]; exact hi
    have hc : cur.toList[i]? = some (Y[i]'hY) := by
      have : (cur.toList.take (n * s))[i]? = some (Y[i]'hY) := by rw [h6]; exact List.getElem?_eq_getElem hY
      rw [List.getElem?_take, if_pos hi] at this
      exact this
    refine ⟨⟨_, hB.cell hc⟩, hB.frozen i, ?_⟩
    have hB2 := hB.setCell i v
    refine ⟨by rw [List.length_set]; exact h.1, .inr ⟨g, cap, (cur.toList.set i v).toArray, rfl, hb, hB2, h3, h4, by simpa using h5, ?_⟩⟩
    rw [List.take_set, h6]
theorem own_addr {w : World} {e : TypeId} {s n cap : Nat} {a : Option Addr} {Y : List Value} (h : w.ownsRow 0 e s (.slice a n cap) n Y) (hn : 0 < n) : ∃ g, a = some ⟨g, 0, none⟩ := by
  rcases h.2 with ⟨h2, h3⟩ | ⟨g2, cap2, cur, h2, _⟩
  · omega
  · cases h2; exact ⟨g2, rfl⟩
theorem flat_set3 (n : Win) : ∀ (ws : List Win) (k : Nat), k < ws.length → (((ws.flatMap Win.vs).set (k * 3) (.int .i64 n.p)).set (k * 3 + 1) (.int .i64 n.u)).set (k * 3 + 2) (.int .i64 n.s) = (ws.set k n).flatMap Win.vs
  | [], _, h => by simp at h
  | a :: r, 0, _ => rfl
  | a :: r, k + 1, h => by
    have e : (k + 1) * 3 = k * 3 + 3 := by omega
    rw [e]
    have := flat_set3 n r k (by simpa using h)
    simp only [List.flatMap_cons, List.set_cons_succ]
    show a.vs ++ _ = _
    rw [← this]
    rfl
theorem flat_set4 (n : Rgn) : ∀ (ws : List Rgn) (k : Nat), k < ws.length → ((((ws.flatMap Rgn.vs).set (k * 4) (.int .i64 n.page)).set (k * 4 + 1) (.int .i64 n.pages)).set (k * 4 + 2) (.int .i64 n.frame)).set (k * 4 + 3) (.int .i64 n.rights) = (ws.set k n).flatMap Rgn.vs
  | [], _, h => by simp at h
  | a :: r, 0, _ => rfl
  | a :: r, k + 1, h => by
    have e : (k + 1) * 4 = k * 4 + 4 := by omega
    rw [e]
    have := flat_set4 n r k (by simpa using h)
    simp only [List.flatMap_cons, List.set_cons_succ]
    show a.vs ++ _ = _
    rw [← this]
    rfl
theorem flat_set2 (n : Prt) : ∀ (ws : List Prt) (k : Nat), k < ws.length → ((ws.flatMap Prt.vs).set (k * 2) (.int .i64 n.ch)).set (k * 2 + 1) (.bool n.src) = (ws.set k n).flatMap Prt.vs
  | [], _, h => by simp at h
  | a :: r, 0, _ => rfl
  | a :: r, k + 1, h => by
    have e : (k + 1) * 2 = k * 2 + 2 := by omega
    rw [e]
    have := flat_set2 n r k (by simpa using h)
    simp only [List.flatMap_cons, List.set_cons_succ]
    show a.vs ++ _ = _
    rw [← this]
    rfl
theorem flat_setC (n : Chn) : ∀ (ws : List Chn) (k : Nat), k < ws.length → (((ws.flatMap Chn.vs).set (k * 3) (.int .i64 n.kind)).set (k * 3 + 1) (.int .i64 n.words)).set (k * 3 + 2) (.int .i64 n.depth) = (ws.set k n).flatMap Chn.vs
  | [], _, h => by simp at h
  | a :: r, 0, _ => rfl
  | a :: r, k + 1, h => by
    have e : (k + 1) * 3 = k * 3 + 3 := by omega
    rw [e]
    have := flat_setC n r k (by simpa using h)
    simp only [List.flatMap_cons, List.set_cons_succ]
    show a.vs ++ _ = _
    rw [← this]
    rfl
end Go.Proofs.YtjadpbkhfclldaaGreat
namespace Go.Proofs.YtjadpbkhfclldaaGreat
open Go.RowKit
set_option linter.unusedVariables false
set_option linter.unusedSimpArgs false
set_option maxRecDepth 6000

section
variable {α : Type} {E : Elem α}
theorem own_seg {w : World} {ad : Option Addr} {cp : Nat} {l : List α} (h : w.ownsRow 0 E.ety E.k (.slice ad l.length cp) l.length (l.flatMap E.vs)) : SegA E.vs E.k w ad l := by
  rcases h.2 with ⟨_, h0⟩ | ⟨g, cap, cur, e, _, hg, h1, h2, h3, h4⟩
  · exact .inl (List.length_eq_zero_iff.1 h0)
  · cases e
    refine .inr ⟨g, 0, rfl, fun j x hj i v hv => ?_⟩
    have hget := flat_get E l j x i v hj hv
    have hlt : j * E.k + i < l.length * E.k := by
      have := (List.getElem?_eq_some_iff.1 hget).1
      rwa [flat_len] at this
    have : cur.toList[j * E.k + i]? = some v := by
      have h5 : (cur.toList.take (l.length * E.k))[j * E.k + i]? = some v := by rw [h4]; exact hget
      rw [List.getElem?_take, if_pos hlt] at h5
      exact h5
    rw [Nat.zero_add]
    have hB : Blk w g cur.toList E.ety := by unfold Blk; rw [Array.toArray_toList]; exact hg
    exact hB.cell this
theorem apt_at {l : List α} (h : l.Pairwise (Apt E)) {i j : Nat} {x y : α} (hi : l[i]? = some x) (hj : l[j]? = some y) (hne : i ≠ j) : ∀ k ∈ E.bl x, k ∉ E.bl y := by
  obtain ⟨li, rfl⟩ := List.getElem?_eq_some_iff.1 hi
  obtain ⟨lj, rfl⟩ := List.getElem?_eq_some_iff.1 hj
  have hp := List.pairwise_iff_getElem.1 h
  rcases Nat.lt_or_gt_of_ne hne with hlt | hlt
  · exact hp i j li lj hlt
  · exact fun k h1 h2 => hp j i lj li hlt k h2 h1
theorem mem_set {l : List α} {j : Nat} {X1 x : α} (hx : x ∈ l.set j X1) : (x = X1 ∧ j < l.length) ∨ ∃ i, i ≠ j ∧ l[i]? = some x := by
  obtain ⟨i, hi⟩ := List.getElem?_of_mem hx
  rw [List.getElem?_set] at hi
  by_cases e : j = i
  · subst e
    rw [if_pos rfl] at hi
    split at hi
    · cases hi; exact .inl ⟨rfl, by assumption⟩
    · cases hi
  · rw [if_neg e] at hi
    exact .inr ⟨i, fun h => e h.symm, hi⟩
theorem flat_same {l : List α} {j : Nat} {X X1 : α} (hj : l[j]? = some X) (hv : E.vs X1 = E.vs X) : (l.set j X1).flatMap E.vs = l.flatMap E.vs := by
  induction l generalizing j with
  | nil => rfl
  | cons a r ih =>
    cases j with
    | zero => simp at hj; subst hj; simp [hv]
    | succ j => simp only [List.set_cons_succ, List.flatMap_cons]; rw [ih (by simpa using hj)]

/-- One element within has changed what its own lists hold. -/
theorem LstR.put {w w1 : World} {lo cp j : Nat} {ad : Option Addr} {l : List α} {X X1 : α} (h : LstR E w lo ad cp l) (hj : l[j]? = some X) (hv : E.vs X1 = E.vs X) (hb : E.bl X1 = E.bl X) (hK : Keeps (fun k => k ∈ E.bl X) w w1) (hok : E.Ok w1 X1) :
    LstR E w1 lo ad cp (l.set j X1) := by
  have hX := List.mem_of_getElem? hj
  have hlen : (l.set j X1).length = l.length := List.length_set
  have hown : w1.ownsRow 0 E.ety E.k (.slice ad (l.set j X1).length cp) (l.set j X1).length ((l.set j X1).flatMap E.vs) := by
    rw [hlen, flat_same hj hv]
    exact owns_kept h.own hK fun k hk hs => h.self X hX k hs (bk_mem.2 hk)
  have hbl : ∀ x ∈ l.set j X1, ∃ y ∈ l, E.bl x = E.bl y := fun x hx => by
    rcases mem_set hx with ⟨rfl, _⟩ | ⟨i, _, hi⟩
    · exact ⟨X, hX, hb⟩
    · exact ⟨x, List.mem_of_getElem? hi, rfl⟩
  refine ⟨⟨own_seg hown, by rw [hlen]; exact h.len, fun hn y hy => h.low (fun e => hn (by rw [e]; rfl)) y hy, fun x hx => ?_, fun x hx k hk => ?_⟩, hown, h.olo, fun x hx k hk => ?_, ?_⟩
  · rcases mem_set hx with ⟨rfl, _⟩ | ⟨i, hne, hi⟩
    · exact hok
    · exact E.kept (h.ok x (List.mem_of_getElem? hi)) hK (apt_at h.dj hi hj hne)
  · obtain ⟨y, hy, e⟩ := hbl x hx
    have := h.toLst.bl y hy k (e ▸ hk)
    exact ⟨this.1, Nat.lt_of_lt_of_le this.2 hK.size⟩
  · obtain ⟨y, hy, e⟩ := hbl x hx
    exact h.self y hy k (e ▸ hk)
  · rw [List.pairwise_iff_getElem]
    intro a b ha hb' hab k hk
    have ga : ∃ y, l[a]? = some y ∧ E.bl y = E.bl ((l.set j X1)[a]) := by
      rw [List.getElem_set]
      split
      · rename_i e; subst e; exact ⟨X, hj, hb.symm⟩
      · exact ⟨l[a]'(by omega), List.getElem?_eq_getElem _, rfl⟩
    have gb : ∃ y, l[b]? = some y ∧ E.bl y = E.bl ((l.set j X1)[b]) := by
      rw [List.getElem_set]
      split
      · rename_i e; subst e; exact ⟨X, hj, hb.symm⟩
      · exact ⟨l[b]'(by omega), List.getElem?_eq_getElem _, rfl⟩
    obtain ⟨y, hy, e1⟩ := ga
    obtain ⟨z, hz, e2⟩ := gb
    rw [← e1] at hk
    rw [← e2]
    exact apt_at h.dj hy hz (by omega) k hk
/-- Nothing of it was touched. -/
theorem LstR.keptN {S : Nat → Prop} {w w1 : World} {lo cp : Nat} {ad : Option Addr} {l : List α} (h : LstR E w lo ad cp l) (hK : Keeps S w w1) (hS : ∀ k, Lall E ad l k → ¬ S k) : LstR E w1 lo ad cp l :=
  ⟨⟨own_seg (owns_kept h.own hK fun k hk => hS k (.inl (bk_mem.2 hk))), h.len, h.low, fun x hx => E.kept (h.ok x hx) hK fun k hk => hS k (.inr ⟨x, hx, hk⟩), fun x hx k hk => ⟨(h.toLst.bl x hx k hk).1, Nat.lt_of_lt_of_le (h.toLst.bl x hx k hk).2 hK.size⟩⟩,
    owns_kept h.own hK fun k hk => hS k (.inl (bk_mem.2 hk)), h.olo, h.self, h.dj⟩
theorem Lall.put {ad : Option Addr} {l : List α} {j : Nat} {X X1 : α} (hj : l[j]? = some X) (hb : E.bl X1 = E.bl X) {k : Nat} : Lall E ad (l.set j X1) k ↔ Lall E ad l k := by
  constructor
  · rintro (h | ⟨x, hx, hk⟩)
    · exact .inl h
    · rcases mem_set hx with ⟨rfl, _⟩ | ⟨i, _, hi⟩
      · exact .inr ⟨X, List.mem_of_getElem? hj, hb ▸ hk⟩
      · exact .inr ⟨x, List.mem_of_getElem? hi, hk⟩
  · rintro (h | ⟨x, hx, hk⟩)
    · exact .inl h
    · obtain ⟨i, hi⟩ := List.getElem?_of_mem hx
      by_cases e : j = i
      · subst e
        rw [hj] at hi
        cases hi
        refine .inr ⟨X1, List.mem_of_getElem? (i := j) ?_, hb.symm ▸ hk⟩
        rw [List.getElem?_set_self (List.getElem?_eq_some_iff.1 hj).1]
      · refine .inr ⟨x, List.mem_of_getElem? (i := i) ?_, hk⟩
        rw [List.getElem?_set_ne e]
        exact hi
end

def Core.ww (X : Core) (ws : List Win) : Core := ⟨X.a, X.c, ws⟩
def Par.rr (P : Par) (rs : List Rgn) : Par := ⟨P.name, P.entry, P.action, P.restarts, P.inputs, P.outputs, P.ra, P.rc, rs, P.pa, P.pc, P.ps⟩
def Par.qq (P : Par) (ps : List Prt) : Par := ⟨P.name, P.entry, P.action, P.restarts, P.inputs, P.outputs, P.ra, P.rc, P.rs, P.pa, P.pc, ps⟩
def Cfg.cw (y : Cfg) (cs : List Core) : Cfg := ⟨y.frames, y.major, y.kernel, y.room, y.ca, y.cc, cs, y.pa, y.pc, y.ps, y.ha, y.hc, y.hs⟩
def Cfg.pw (y : Cfg) (ps : List Par) : Cfg := ⟨y.frames, y.major, y.kernel, y.room, y.ca, y.cc, y.cs, y.pa, y.pc, ps, y.ha, y.hc, y.hs⟩
def Cfg.hw (y : Cfg) (hs : List Chn) : Cfg := ⟨y.frames, y.major, y.kernel, y.room, y.ca, y.cc, y.cs, y.pa, y.pc, y.ps, y.ha, y.hc, hs⟩
theorem fine_set {α : Type} {l : List α} {k : Nat} {n : α} {p : α → Prop} (h : ∀ x ∈ l, p x) (hn : p n) : ∀ x ∈ l.set k n, p x := fun x hx => by
  rcases List.mem_or_eq_of_mem_set hx with hx | rfl
  · exact h x hx
  · exact hn
theorem sk_set {α β : Type} (f : α → β) {l : List α} {j : Nat} {X X1 : α} (hj : l[j]? = some X) (h : f X1 = f X) : (l.set j X1).map f = l.map f := by
  induction l generalizing j with
  | nil => rfl
  | cons a r ih =>
    cases j with
    | zero => simp at hj; subst hj; simp [h]
    | succ j => simp only [List.set_cons_succ, List.map_cons]; rw [ih (by simpa using hj)]

/-- A window is written over. -/
theorem Cfg.LstsR.win {y : Cfg} {w : World} {lo j k : Nat} {X : Core} (h : y.LstsR w lo) (hX : y.cs[j]? = some X) (hk : k < X.ws.length) (n : Win) (hn : n.Fine) :
    ∃ g, X.a = some ⟨g, 0, none⟩ ∧ y.B g ∧ (∃ v0, w.cell? ⟨g, k * 3, none⟩ = some v0) ∧ (∃ v1, w.cell? ⟨g, k * 3 + 1, none⟩ = some v1) ∧ (∃ v2, w.cell? ⟨g, k * 3 + 2, none⟩ = some v2) ∧
      w.frozen? ⟨g, k * 3, none⟩ = false ∧ w.frozen? ⟨g, k * 3 + 1, none⟩ = false ∧ w.frozen? ⟨g, k * 3 + 2, none⟩ = false ∧
      ∀ w1, w1 = ((w.setCell ⟨g, k * 3, none⟩ (.int .i64 n.p)).setCell ⟨g, k * 3 + 1, none⟩ (.int .i64 n.u)).setCell ⟨g, k * 3 + 2, none⟩ (.int .i64 n.s) →
        ∃ y1 : Cfg, y1.LstsR w1 lo ∧ y1.sk = y.sk ∧ Keeps y.B w w1 := by
  have hm := List.mem_of_getElem? hX
  have hO := h.cs.ok X hm
  have hown := hO.own
  obtain ⟨g, hg⟩ := own_addr hown (by omega)
  rw [hg] at hown
  have hgb : g ∈ eCoreR.bl X := by show g ∈ bk X.a; rw [hg]; simp [bk]
  obtain ⟨c0, f0, o0⟩ := own_set hown (i := k * 3) (by omega) (.int .i64 n.p)
  obtain ⟨c1, f1, _⟩ := own_set hown (i := k * 3 + 1) (by omega) (.int .i64 n.u)
  obtain ⟨c2, f2, _⟩ := own_set hown (i := k * 3 + 2) (by omega) (.int .i64 n.s)
  obtain ⟨_, _, o1⟩ := own_set o0 (i := k * 3 + 1) (by omega) (.int .i64 n.u)
  obtain ⟨_, _, o2⟩ := own_set o1 (i := k * 3 + 2) (by omega) (.int .i64 n.s)
  rw [flat_set3 n X.ws k hk] at o2
  refine ⟨g, hg, .inl (.inr ⟨X, hm, hgb⟩), c0, c1, c2, f0, f1, f2, fun w1 hw => ?_⟩
  rw [← hw] at o2
  have hKg : Keeps (fun k => k = g) w w1 := by
    rw [hw]
    exact (((Keeps.refl (fun k => k = g) w).setCell _ _ fun _ => rfl).setCell ⟨g, k * 3 + 1, none⟩ _ fun _ => rfl).setCell ⟨g, k * 3 + 2, none⟩ _ fun _ => rfl
  have hK : Keeps (fun k => k ∈ eCoreR.bl X) w w1 := hKg.mono fun b _ e => by subst e; exact hgb
  have hl : (X.ws.set k n).length = X.ws.length := List.length_set
  have hv : eCoreR.vs (X.ww (X.ws.set k n)) = eCoreR.vs X := by show [Value.slice X.a (X.ws.set k n).length X.c] = _; rw [hl]; rfl
  have hok : eCoreR.Ok w1 (X.ww (X.ws.set k n)) := by
    have ho : w1.ownsRow 0 51 3 (.slice X.a (X.ws.set k n).length X.c) (X.ws.set k n).length ((X.ws.set k n).flatMap Win.vs) := by rw [hl, hg]; exact o2
    exact ⟨⟨own_seg (E := eWin) ho, by show (X.ws.set k n).length ≤ _ ∧ _; rw [hl]; exact hO.ok.len, fine_set hO.ok.fine hn⟩, ho⟩
  refine ⟨y.cw (y.cs.set j (X.ww (X.ws.set k n))), ⟨h.cs.put hX hv rfl hK hok, h.ps.keptN hK fun b hb hs => h.d1 b (.inr ⟨X, hm, hs⟩) hb, h.hs.keptN hK fun b hb hs => h.d2 b (.inr ⟨X, hm, hs⟩) hb, h.ns,
    fun b hb => h.d1 b ((Lall.put (E := eCoreR) (X1 := X.ww (X.ws.set k n)) hX rfl).1 hb), fun b hb => h.d2 b ((Lall.put (E := eCoreR) (X1 := X.ww (X.ws.set k n)) hX rfl).1 hb), h.d3⟩, ?_, hK.mono fun b _ e => .inl (.inr ⟨X, hm, e⟩)⟩
  show (y.ns, y.ca, y.cc, (y.cs.set j (X.ww (X.ws.set k n))).map Core.sk, _) = _
  rw [sk_set Core.sk hX (by show (X.a, X.c, (X.ws.set k n).length) = _; rw [hl]; rfl)]
  rfl
/-- A region is written over. -/
theorem Cfg.LstsR.rgn {y : Cfg} {w : World} {lo j k : Nat} {X : Par} (h : y.LstsR w lo) (hX : y.ps[j]? = some X) (hk : k < X.rs.length) (n : Rgn) (hn : n.Fine) :
    ∃ g, X.ra = some ⟨g, 0, none⟩ ∧ y.B g ∧ (∃ v0, w.cell? ⟨g, k * 4, none⟩ = some v0) ∧ (∃ v1, w.cell? ⟨g, k * 4 + 1, none⟩ = some v1) ∧ (∃ v2, w.cell? ⟨g, k * 4 + 2, none⟩ = some v2) ∧ (∃ v3, w.cell? ⟨g, k * 4 + 3, none⟩ = some v3) ∧
      w.frozen? ⟨g, k * 4, none⟩ = false ∧ w.frozen? ⟨g, k * 4 + 1, none⟩ = false ∧ w.frozen? ⟨g, k * 4 + 2, none⟩ = false ∧ w.frozen? ⟨g, k * 4 + 3, none⟩ = false ∧
      ∀ w1, w1 = (((w.setCell ⟨g, k * 4, none⟩ (.int .i64 n.page)).setCell ⟨g, k * 4 + 1, none⟩ (.int .i64 n.pages)).setCell ⟨g, k * 4 + 2, none⟩ (.int .i64 n.frame)).setCell ⟨g, k * 4 + 3, none⟩ (.int .i64 n.rights) →
        ∃ y1 : Cfg, y1.LstsR w1 lo ∧ y1.sk = y.sk ∧ Keeps y.B w w1 := by
  have hm := List.mem_of_getElem? hX
  have hO := h.ps.ok X hm
  have hown := hO.rown
  obtain ⟨g, hg⟩ := own_addr hown (by omega)
  rw [hg] at hown
  have hgr : g ∈ bk X.ra := by rw [hg]; simp [bk]
  have hgb : g ∈ eParR.bl X := List.mem_append_left _ hgr
  obtain ⟨c0, f0, o0⟩ := own_set hown (i := k * 4) (by omega) (.int .i64 n.page)
  obtain ⟨c1, f1, _⟩ := own_set hown (i := k * 4 + 1) (by omega) (.int .i64 n.pages)
  obtain ⟨c2, f2, _⟩ := own_set hown (i := k * 4 + 2) (by omega) (.int .i64 n.frame)
  obtain ⟨c3, f3, _⟩ := own_set hown (i := k * 4 + 3) (by omega) (.int .i64 n.rights)
  obtain ⟨_, _, o1⟩ := own_set o0 (i := k * 4 + 1) (by omega) (.int .i64 n.pages)
  obtain ⟨_, _, o2⟩ := own_set o1 (i := k * 4 + 2) (by omega) (.int .i64 n.frame)
  obtain ⟨_, _, o3⟩ := own_set o2 (i := k * 4 + 3) (by omega) (.int .i64 n.rights)
  rw [flat_set4 n X.rs k hk] at o3
  refine ⟨g, hg, .inr (.inl (.inr ⟨X, hm, hgb⟩)), c0, c1, c2, c3, f0, f1, f2, f3, fun w1 hw => ?_⟩
  rw [← hw] at o3
  have hKg : Keeps (fun k => k = g) w w1 := by
    rw [hw]
    exact ((((Keeps.refl (fun k => k = g) w).setCell _ _ fun _ => rfl).setCell ⟨g, k * 4 + 1, none⟩ _ fun _ => rfl).setCell ⟨g, k * 4 + 2, none⟩ _ fun _ => rfl).setCell ⟨g, k * 4 + 3, none⟩ _ fun _ => rfl
  have hK : Keeps (fun k => k ∈ eParR.bl X) w w1 := hKg.mono fun b _ e => by subst e; exact hgb
  have hl : (X.rs.set k n).length = X.rs.length := List.length_set
  have hv : eParR.vs (X.rr (X.rs.set k n)) = eParR.vs X := by show Par.vs (X.rr (X.rs.set k n)) = Par.vs X; simp [Par.vs, Par.rr]
  have hok : eParR.Ok w1 (X.rr (X.rs.set k n)) := by
    have ho : w1.ownsRow 0 53 4 (.slice X.ra (X.rs.set k n).length X.rc) (X.rs.set k n).length ((X.rs.set k n).flatMap Rgn.vs) := by rw [hl, hg]; exact o3
    have hp : w1.ownsRow 0 55 2 (.slice X.pa X.ps.length X.pc) X.ps.length (X.ps.flatMap Prt.vs) := owns_kept hO.pown hKg fun b hb e => by subst e; exact hO.ne b hgr (bk_mem.2 hb)
    exact ⟨⟨own_seg (E := eRgn) ho, by show (X.rs.set k n).length ≤ _ ∧ _; rw [hl]; exact hO.ok.rlen, fine_set hO.ok.rfine hn, own_seg (E := ePrt) hp, hO.ok.plen, hO.ok.pfine, hO.ok.ns, hO.ok.name⟩, ho, hp, hO.ne⟩
  refine ⟨y.pw (y.ps.set j (X.rr (X.rs.set k n))), ⟨h.cs.keptN hK fun b hb hs => h.d1 b hb (.inr ⟨X, hm, hs⟩), h.ps.put hX hv rfl hK hok, h.hs.keptN hK fun b hb hs => h.d3 b (.inr ⟨X, hm, hs⟩) hb, h.ns,
    fun b hb hb2 => h.d1 b hb ((Lall.put (E := eParR) (X1 := X.rr (X.rs.set k n)) hX rfl).1 hb2), h.d2, fun b hb => h.d3 b ((Lall.put (E := eParR) (X1 := X.rr (X.rs.set k n)) hX rfl).1 hb)⟩, ?_, hK.mono fun b _ e => .inr (.inl (.inr ⟨X, hm, e⟩))⟩
  show (y.ns, y.ca, y.cc, _, _, _, (y.ps.set j (X.rr (X.rs.set k n))).map Par.sk, _) = _
  rw [sk_set Par.sk hX (by show (X.name, _, X.ra, X.rc, (X.rs.set k n).length, _) = _; rw [hl]; rfl)]
  rfl
/-- A port is written over. -/
theorem Cfg.LstsR.prt {y : Cfg} {w : World} {lo j k : Nat} {X : Par} (h : y.LstsR w lo) (hX : y.ps[j]? = some X) (hk : k < X.ps.length) (n : Prt) (hn : n.Fine) :
    ∃ g, X.pa = some ⟨g, 0, none⟩ ∧ y.B g ∧ (∃ v0, w.cell? ⟨g, k * 2, none⟩ = some v0) ∧ (∃ v1, w.cell? ⟨g, k * 2 + 1, none⟩ = some v1) ∧
      w.frozen? ⟨g, k * 2, none⟩ = false ∧ w.frozen? ⟨g, k * 2 + 1, none⟩ = false ∧
      ∀ w1, w1 = (w.setCell ⟨g, k * 2, none⟩ (.int .i64 n.ch)).setCell ⟨g, k * 2 + 1, none⟩ (.bool n.src) →
        ∃ y1 : Cfg, y1.LstsR w1 lo ∧ y1.sk = y.sk ∧ Keeps y.B w w1 := by
  have hm := List.mem_of_getElem? hX
  have hO := h.ps.ok X hm
  have hown := hO.pown
  obtain ⟨g, hg⟩ := own_addr hown (by omega)
  rw [hg] at hown
  have hgr : g ∈ bk X.pa := by rw [hg]; simp [bk]
  have hgb : g ∈ eParR.bl X := List.mem_append_right _ hgr
  obtain ⟨c0, f0, o0⟩ := own_set hown (i := k * 2) (by omega) (.int .i64 n.ch)
  obtain ⟨c1, f1, _⟩ := own_set hown (i := k * 2 + 1) (by omega) (.bool n.src)
  obtain ⟨_, _, o1⟩ := own_set o0 (i := k * 2 + 1) (by omega) (.bool n.src)
  rw [flat_set2 n X.ps k hk] at o1
  refine ⟨g, hg, .inr (.inl (.inr ⟨X, hm, hgb⟩)), c0, c1, f0, f1, fun w1 hw => ?_⟩
  rw [← hw] at o1
  have hKg : Keeps (fun k => k = g) w w1 := by
    rw [hw]
    exact ((Keeps.refl (fun k => k = g) w).setCell _ _ fun _ => rfl).setCell ⟨g, k * 2 + 1, none⟩ _ fun _ => rfl
  have hK : Keeps (fun k => k ∈ eParR.bl X) w w1 := hKg.mono fun b _ e => by subst e; exact hgb
  have hl : (X.ps.set k n).length = X.ps.length := List.length_set
  have hv : eParR.vs (X.qq (X.ps.set k n)) = eParR.vs X := by show Par.vs (X.qq (X.ps.set k n)) = Par.vs X; simp [Par.vs, Par.qq]
  have hok : eParR.Ok w1 (X.qq (X.ps.set k n)) := by
    have ho : w1.ownsRow 0 55 2 (.slice X.pa (X.ps.set k n).length X.pc) (X.ps.set k n).length ((X.ps.set k n).flatMap Prt.vs) := by rw [hl, hg]; exact o1
    have hp : w1.ownsRow 0 53 4 (.slice X.ra X.rs.length X.rc) X.rs.length (X.rs.flatMap Rgn.vs) := owns_kept hO.rown hKg fun b hb e => by subst e; exact hO.ne b (bk_mem.2 hb) hgr
    exact ⟨⟨own_seg (E := eRgn) hp, hO.ok.rlen, hO.ok.rfine, own_seg (E := ePrt) ho, by show (X.ps.set k n).length ≤ _ ∧ _; rw [hl]; exact hO.ok.plen, fine_set hO.ok.pfine hn, hO.ok.ns, hO.ok.name⟩, hp, ho, hO.ne⟩
  refine ⟨y.pw (y.ps.set j (X.qq (X.ps.set k n))), ⟨h.cs.keptN hK fun b hb hs => h.d1 b hb (.inr ⟨X, hm, hs⟩), h.ps.put hX hv rfl hK hok, h.hs.keptN hK fun b hb hs => h.d3 b (.inr ⟨X, hm, hs⟩) hb, h.ns,
    fun b hb hb2 => h.d1 b hb ((Lall.put (E := eParR) (X1 := X.qq (X.ps.set k n)) hX rfl).1 hb2), h.d2, fun b hb => h.d3 b ((Lall.put (E := eParR) (X1 := X.qq (X.ps.set k n)) hX rfl).1 hb)⟩, ?_, hK.mono fun b _ e => .inr (.inl (.inr ⟨X, hm, e⟩))⟩
  show (y.ns, y.ca, y.cc, _, _, _, (y.ps.set j (X.qq (X.ps.set k n))).map Par.sk, _) = _
  rw [sk_set Par.sk hX (by show (X.name, _, X.ra, X.rc, _, X.pa, X.pc, (X.ps.set k n).length) = _; rw [hl]; rfl)]
  rfl
/-- A channel is written over. -/
theorem Cfg.LstsR.chn {y : Cfg} {w : World} {lo k : Nat} (h : y.LstsR w lo) (hk : k < y.hs.length) (n : Chn) (hn : n.Fine) :
    ∃ g, y.ha = some ⟨g, 0, none⟩ ∧ y.B g ∧ (∃ v0, w.cell? ⟨g, k * 3, none⟩ = some v0) ∧ (∃ v1, w.cell? ⟨g, k * 3 + 1, none⟩ = some v1) ∧ (∃ v2, w.cell? ⟨g, k * 3 + 2, none⟩ = some v2) ∧
      w.frozen? ⟨g, k * 3, none⟩ = false ∧ w.frozen? ⟨g, k * 3 + 1, none⟩ = false ∧ w.frozen? ⟨g, k * 3 + 2, none⟩ = false ∧
      ∀ w1, w1 = ((w.setCell ⟨g, k * 3, none⟩ (.int .i64 n.kind)).setCell ⟨g, k * 3 + 1, none⟩ (.int .i64 n.words)).setCell ⟨g, k * 3 + 2, none⟩ (.int .i64 n.depth) →
        ∃ y1 : Cfg, y1.LstsR w1 lo ∧ y1.sk = y.sk ∧ Keeps y.B w w1 := by
  have hown : w.ownsRow 0 57 3 (.slice y.ha y.hs.length y.hc) y.hs.length (y.hs.flatMap Chn.vs) := h.hs.own
  obtain ⟨g, hg⟩ := own_addr hown (by omega)
  rw [hg] at hown
  have hgr : g ∈ bk y.ha := by rw [hg]; simp [bk]
  obtain ⟨c0, f0, o0⟩ := own_set hown (i := k * 3) (by omega) (.int .i64 n.kind)
  obtain ⟨c1, f1, _⟩ := own_set hown (i := k * 3 + 1) (by omega) (.int .i64 n.words)
  obtain ⟨c2, f2, _⟩ := own_set hown (i := k * 3 + 2) (by omega) (.int .i64 n.depth)
  obtain ⟨_, _, o1⟩ := own_set o0 (i := k * 3 + 1) (by omega) (.int .i64 n.words)
  obtain ⟨_, _, o2⟩ := own_set o1 (i := k * 3 + 2) (by omega) (.int .i64 n.depth)
  rw [flat_setC n y.hs k hk] at o2
  refine ⟨g, hg, .inr (.inr (.inl hgr)), c0, c1, c2, f0, f1, f2, fun w1 hw => ?_⟩
  rw [← hw] at o2
  have hKg : Keeps (fun k => k = g) w w1 := by
    rw [hw]
    exact (((Keeps.refl (fun k => k = g) w).setCell _ _ fun _ => rfl).setCell ⟨g, k * 3 + 1, none⟩ _ fun _ => rfl).setCell ⟨g, k * 3 + 2, none⟩ _ fun _ => rfl
  have hl : (y.hs.set k n).length = y.hs.length := List.length_set
  have ho : w1.ownsRow 0 57 3 (.slice y.ha (y.hs.set k n).length y.hc) (y.hs.set k n).length ((y.hs.set k n).flatMap Chn.vs) := by rw [hl, hg]; exact o2
  have hLh : LstR eChn w1 lo y.ha y.hc (y.hs.set k n) := ⟨⟨own_seg (E := eChn) ho, by rw [hl]; exact h.hs.len, fun hne a ha => h.hs.low (fun e => hne (by rw [e]; rfl)) a ha, fine_set (p := fun x => eChn.Ok w1 x) (fun x hx => h.hs.ok x hx) hn, fun x hx b hb => (by cases hb)⟩, ho, h.hs.olo, fun x hx b hb => (by cases hb), List.pairwise_iff_getElem.2 fun _ _ _ _ _ b (hb : b ∈ []) => (by cases hb)⟩
  have hall : ∀ b, Lall eChn y.ha (y.hs.set k n) b → Lall eChn y.ha y.hs b := by
    rintro b (hb | ⟨x, _, hb⟩)
    · exact .inl hb
    · cases hb
  refine ⟨y.hw (y.hs.set k n), ⟨h.cs.keptN hKg fun b hb e => by subst e; exact h.d2 b hb (.inl hgr), h.ps.keptN hKg fun b hb e => by subst e; exact h.d3 b hb (.inl hgr), hLh, h.ns, h.d1, fun b hb hb2 => h.d2 b hb (hall b hb2), fun b hb hb2 => h.d3 b hb (hall b hb2)⟩, ?_, hKg.mono fun b _ e => by subst e; exact .inr (.inr (.inl hgr))⟩
  show (y.ns, y.ca, y.cc, _, _, _, _, y.ha, y.hc, (y.hs.set k n).length) = _
  rw [hl]
  rfl
end Go.Proofs.YtjadpbkhfclldaaGreat
