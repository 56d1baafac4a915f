import Derived.Test.YthaoopaafdgioabK
import Derived.Test.YthaoopaafdgioabF
import Derived.Laws.OwnMore
namespace Go.Proofs.Ythaoopaafdgioab
open Go.RowKit
set_option linter.unusedVariables false
set_option maxRecDepth 6000
variable {f : Nat} {bs : Array Value} {S : Nat → Prop} {J : World → Int → List (Ow × Int) → Prop}

theorem Row.somes {α : Type} {E : Elem α} {w : World} {lo : Nat} {u : Value} {xs : List α} (h : Row E w lo u xs) (hn : xs ≠ []) : ∃ g cap, u = .slice (some ⟨g, 0, none⟩) xs.length cap ∧ xs.length ≤ cap ∧ cap ≤ maxLen ∧ lo ≤ g ∧ g < w.heap.size := by
  rcases h.own.2 with ⟨_, h0⟩ | ⟨g, cap, cur, rfl, _, hg, h1, h2, h3, h4⟩
  · exact (hn (List.length_eq_zero_iff.1 h0)).elim
  · exact ⟨g, cap, rfl, h1, h2, h.low g rfl, (Array.getElem?_eq_some_iff.1 hg).1⟩
theorem Row.cellAt {α : Type} {E : Elem α} {w : World} {lo g n cap : Nat} {xs : List α} (h : Row E w lo (.slice (some ⟨g, 0, none⟩) n cap) xs) {j i : Nat} {x : α} {v : Value} (hx : xs[j]? = some x) (hv : (E.vs x)[i]? = some v) : w.cell? ⟨g, j * E.k + i, none⟩ = some v := by
  have hf := flat_get E xs j x i v hx hv
  have := h.own.cells (g := g) rfl _ _ hf
  rwa [addr_add, Nat.zero_add] at this
theorem Row.frozenAt {α : Type} {E : Elem α} {w : World} {lo g n cap : Nat} {xs : List α} (h : Row E w lo (.slice (some ⟨g, 0, none⟩) n cap) xs) (i : Nat) : w.frozen? ⟨g, i, none⟩ = false := by
  rcases h.own.2 with ⟨h', _⟩ | ⟨g', cap', cur, h', hb, hg, _⟩
  · simp at h'
  · simp only [Value.slice.injEq, Option.some.injEq, Addr.mk.injEq, and_true] at h'
    obtain ⟨rfl, _⟩ := h'
    exact frozen_of_row w g i cur _ hg
theorem flat_set3 (xs : List Dst) (j : Nat) (d : Dst) (v : Int) (hd : xs[j]? = some d) : (xs.flatMap Dst.vs).set (j * 3 + 2) (.int .i64 v) = (xs.set j ⟨d.p, d.q, v⟩).flatMap Dst.vs := by
  induction xs generalizing j with
  | nil => simp at hd
  | cons y ys ih =>
    cases j with
    | zero =>
      simp at hd
      subst hd
      simp [List.flatMap_cons]
    | succ j =>
      have := ih j (by simpa using hd)
      rw [List.set_cons_succ, List.flatMap_cons, List.flatMap_cons, ← this, List.set_append_right _ _ (by simp; omega)]
      congr 2
      simp
      omega
theorem Row.set3 {w : World} {lo g cap : Nat} {xs : List Dst} (h : Row eDst w lo (.slice (some ⟨g, 0, none⟩) xs.length cap) xs) {j : Nat} {d : Dst} (hd : xs[j]? = some d) (v : Int) :
    Row eDst (w.setCell ⟨g, j * 3 + 2, none⟩ (.int .i64 v)) lo (.slice (some ⟨g, 0, none⟩) xs.length cap) (xs.set j ⟨d.p, d.q, v⟩) := by
  have hs := (World.ownsRow.stored h.own (j * 3 + 2) (.int .i64 v)).1
  refine ⟨?_, h.low, fun x hx => trivial, fun x hx k hk => by cases hk⟩
  have : (xs.set j ⟨d.p, d.q, v⟩).flatMap eDst.vs = (xs.flatMap eDst.vs).set (j * 3 + 2) (.int .i64 v) := (flat_set3 xs j d v hd).symm
  rw [this, List.length_set]
  exact hs
theorem Two.set3 {w : World} {lo g cap n : Nat} {u : Value} {a b : List Dst} (h : Two w lo u (.slice (some ⟨g, 0, none⟩) n cap) a b) (hn : n = b.length) {j : Nat} {d : Dst} (hd : b[j]? = some d) (v : Int) :
    Two (w.setCell ⟨g, j * 3 + 2, none⟩ (.int .i64 v)) lo u (.slice (some ⟨g, 0, none⟩) n cap) a (b.set j ⟨d.p, d.q, v⟩) ∧ Keeps (fun k => k = g) w (w.setCell ⟨g, j * 3 + 2, none⟩ (.int .i64 v)) := by
  subst hn
  have hK : Keeps (fun k => k = g) w (w.setCell ⟨g, j * 3 + 2, none⟩ (.int .i64 v)) := (Keeps.refl _ _).setCell _ _ fun _ => rfl
  refine ⟨⟨h.ra.own_kept eDst_bl hK fun k hk e => h.dif k hk (by rw [e]; rfl), h.rb.set3 hd v, h.dif⟩, hK⟩

/-- Destinations of which the first j have their places. -/
def placed (D : List Dst) (b k : Int) (j : Nat) : List Dst := D.mapIdx fun i d => if i < j then ⟨d.p, d.q, b + i * k⟩ else d
theorem placed_zero (D : List Dst) (b k : Int) : placed D b k 0 = D := by
  unfold placed; apply List.ext_getElem? ; intro i; simp
theorem placed_length (D : List Dst) (b k : Int) (j : Nat) : (placed D b k j).length = D.length := by simp [placed]
theorem placed_at {D : List Dst} {b k : Int} {j : Nat} {d : Dst} (hd : D[j]? = some d) : (placed D b k j)[j]? = some d := by
  unfold placed; simp [List.getElem?_mapIdx, hd]
theorem placed_succ {D : List Dst} {b k : Int} {j : Nat} {d : Dst} (hd : D[j]? = some d) : placed D b k (j + 1) = (placed D b k j).set j ⟨d.p, d.q, b + j * k⟩ := by
  apply List.ext_getElem?
  intro i
  have hj : j < D.length := (List.getElem?_eq_some_iff.1 hd).1
  rw [List.getElem?_set]
  simp only [placed, List.getElem?_mapIdx, List.length_mapIdx, hj, if_true]
  by_cases e : j = i
  · subst e; simp [hd]
  · rw [if_neg e]
    cases D[i]? with
    | none => rfl
    | some y =>
      simp only [Option.map_some]
      by_cases h1 : i < j
      · rw [if_pos (by omega), if_pos h1]
      · rw [if_neg (by omega), if_neg h1]

/-- While a channel is laid. -/
structure ChI (w : World) (x : Cfg) (h : Chn) (C N : Nat) (S : Nat → Prop) (w' : World) : Prop where
  cfg : Blk w' C x.vs 26
  res : Blk w' (C + 1) [.int .i64 0, .int .i64 0, .int .i64 0, .int .i64 0, .slice none 0 0] 63
  shp : Blk w' (C + 2) h.vs 91
  kp : Keeps S w w'
  cin : x.In w' N
  cw : C = w.heap.size
  n : N ≤ C
  low : ∀ k, S k → N ≤ k ∧ k < w.heap.size
  sz : C + 3 ≤ w'.heap.size
theorem ChI.kept {T : Nat → Prop} {w : World} {x : Cfg} {h : Chn} {C N : Nat} {w' w'' : World} (hc : ChI w x h C N S w') (hK : Keeps T w' w'') (hT : ∀ k, T k → S k ∨ C + 3 ≤ k) : ChI w x h C N S w'' := by
  have hcw := hc.cw
  have no : ∀ k, C ≤ k → k < C + 3 → ¬ T k := fun k h1 h2 e => by
    rcases hT k e with h3 | h3
    · have := (hc.low k h3).2; omega
    · omega
  refine ⟨hc.cfg.kept hK (no _ (by omega) (by omega)), hc.res.kept hK (no _ (by omega) (by omega)), hc.shp.kept hK (no _ (by omega) (by omega)), hc.kp.trans hK fun k hk e => ?_, hc.cin.below (hK.below ?_ fun k e => ?_), hc.cw, hc.n, hc.low, Nat.le_trans hc.sz hK.size⟩
  · rcases hT k e with h3 | h3
    · exact h3
    · omega
  · have := hc.n; have := hc.sz; omega
  · have := hc.n
    rcases hT k e with h3 | h3
    · exact (hc.low k h3).1
    · omega
theorem ChI.grow {w : World} {x : Cfg} {h : Chn} {C N : Nat} {w' w'' : World} (hc : ChI w x h C N S w') (hK : Keeps (fun _ => False) w' w'') : ChI w x h C N S w'' := hc.kept hK fun _ h => h.elim
end Go.Proofs.Ythaoopaafdgioab
