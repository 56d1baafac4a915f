import Derived.Test.YtgookbkaacidpaaGreatCk
namespace Go.Proofs.YtgookbkaacidpaaGreat
open Go.RowKit
set_option linter.unusedVariables false
set_option linter.unusedSimpArgs false
set_option maxRecDepth 6000

theorem flat_cell {α : Type} (E : Elem α) {w : World} {g o : Nat} {ls : List α} (hs : ∀ j x, ls[j]? = some x → ∀ i v, (E.vs x)[i]? = some v → w.cell? ⟨g, o + j * E.k + i, none⟩ = some v) {j : Nat} {u : Value} (hj : (ls.flatMap E.vs)[j]? = some u) : w.cell? ⟨g, o + j, none⟩ = some u := by
  have hlt := (List.getElem?_eq_some_iff.1 hj).1
  rw [flat_len] at hlt
  have hk := E.pos
  have hq : j / E.k < ls.length := (Nat.div_lt_iff_lt_mul hk).2 hlt
  have hr : j % E.k < E.k := Nat.mod_lt _ hk
  obtain ⟨x, hx⟩ : ∃ x, ls[j / E.k]? = some x := ⟨_, List.getElem?_eq_getElem hq⟩
  obtain ⟨v, hv⟩ : ∃ v, (E.vs x)[j % E.k]? = some v := ⟨_, List.getElem?_eq_getElem (by rw [E.len]; exact hr)⟩
  have h1 := flat_get E ls (j / E.k) x (j % E.k) v hx hv
  have e : j / E.k * E.k + j % E.k = j := by rw [Nat.mul_comm]; exact Nat.div_add_mod j E.k
  rw [e, hj] at h1
  cases h1
  have h2 := hs _ x hx _ _ hv
  rw [Nat.add_assoc, e] at h2
  exact h2

/-- Elements whose cells hold one value each, and which need nothing besides. -/
structure Plain {α : Type} (E : Elem α) : Prop where
  one : ∀ x, ∀ u ∈ E.vs x, u.oneCell' = true
  bl : ∀ x, E.bl x = []
theorem plainWin : Plain eWin := ⟨fun x u hu => by simp [eWin, Win.vs] at hu; rcases hu with rfl | rfl | rfl <;> rfl, fun _ => rfl⟩
theorem plainRgn : Plain eRgn := ⟨fun x u hu => by simp [eRgn, Rgn.vs] at hu; rcases hu with rfl | rfl | rfl | rfl <;> rfl, fun _ => rfl⟩
theorem plainPrt : Plain ePrt := ⟨fun x u hu => by simp [ePrt, Prt.vs] at hu; rcases hu with rfl | rfl <;> rfl, fun _ => rfl⟩
theorem plainChn : Plain eChn := ⟨fun x u hu => by simp [eChn, Chn.vs] at hu; rcases hu with rfl | rfl | rfl <;> rfl, fun _ => rfl⟩

/-- append(nil, ls...): the same list in a block of its own. -/
theorem copy_app {α : Type} (E : Elem α) (hE : Plain E) (t : TypeId) (i : TypeInfo) (z : Value) (bytes : Nat) (ht : Tryz.prog.underlying t = some (.slice E.ety)) (hi : Tryz.prog.info? E.ety = some i) (hz : i.zero = some z) (hsz : i.size = E.k) (hb : i.bytes = bytes) (hzs : z.cells.size = E.k)
    {w : World} (a : Option Addr) (ls : List α) (c : Nat) (hs : SegA E.vs E.k w a ls) (hl : ls.length ≤ maxLen) (hlb : ls.length * bytes ≤ 140737488355328) :
    ∃ ad cp W', (∀ ty, (Builtin.append_ #[t, t] ty #[.slice none 0 0, .slice a ls.length c]).run Tryz.prog w = .ok (.slice ad ls.length cp) W') ∧ SegA E.vs E.k W' ad ls ∧ (ls ≠ [] → ∀ y, ad = some y → w.heap.size ≤ y.block ∧ y.block < W'.heap.size) ∧ (ls.length ≤ cp ∧ cp ≤ maxLen) ∧ Keeps (fun _ => False) w W' := by
  have hnil : ls = [] ∨ ls ≠ [] := by cases ls <;> simp
  have hfin : ∀ (v' : Value) (W' : World), W'.ownsRow 0 E.ety E.k v' ls.length (ls.flatMap E.vs) → (∀ g, v'.ownBlock = some g → w.heap.size ≤ g) → ∃ ad cp, v' = .slice ad ls.length cp ∧ SegA E.vs E.k W' ad ls ∧ (ls ≠ [] → ∀ y, ad = some y → w.heap.size ≤ y.block ∧ y.block < W'.heap.size) ∧ (ls.length ≤ cp ∧ cp ≤ maxLen) := by
    intro v' W' hown hlo
    rcases hown.2 with ⟨rfl, h0⟩ | ⟨g, cap, cur, rfl, _, hg, h1, h2, h3, h4⟩
    · have : ls = [] := List.length_eq_zero_iff.1 h0
      subst this
      exact ⟨none, 0, rfl, .inl rfl, fun e => (e rfl).elim, by simp, by unfold maxLen; omega⟩
    · refine ⟨some ⟨g, 0, none⟩, cap, rfl, .inr ⟨g, 0, rfl, fun j x hj i v hv => ?_⟩, fun _ y hy => by cases hy; exact ⟨hlo g rfl, (Array.getElem?_eq_some_iff.1 hg).1⟩, h1, h2⟩
      have hget := flat_get E ls j x i v hj hv
      have : cur.toList[j * E.k + i]? = some v := by
        have h5 : (cur.toList.take (ls.length * E.k))[j * E.k + i]? = some v := by rw [h4]; exact hget
        rw [List.getElem?_take] at h5
        split at h5
        · exact h5
        · cases h5
      rw [Nat.zero_add]
      have hB : Blk W' g cur.toList E.ety := by unfold Blk; rw [Array.toArray_toList]; exact hg
      exact hB.cell this
  cases a with
  | none =>
    obtain rfl : ls = [] := by
      rcases hs with h | ⟨g, o, ha, _⟩
      · exact h
      · simp at ha
    refine ⟨none, 0, w, fun ty => append_none t E.ety i E.k ht hi hsz E.pos (.slice none 0 0) 0 c [] (World.ownsRow_nil w 0 E.ety E.k) ty, .inl rfl, fun e => (e rfl).elim, ⟨by simp, by unfold maxLen; omega⟩, Keeps.refl _ _⟩
  | some x =>
    by_cases he : ls = []
    · subst he
      obtain ⟨v', W', h1, h2, h3, h4⟩ := append_many (w := w) t E.ety i z E.k bytes ht hi hz hsz hb hzs E.pos (.slice none 0 0) 0 [] (World.ownsRow_nil w 0 E.ety E.k) x 0 c [] (by simp) (fun j u hj => by simp at hj) (fun u hu => by cases hu) (by unfold maxLen; omega) (by omega)
      obtain ⟨ad, cp, rfl, g1, g2, g3⟩ := hfin v' W' (by simpa using h2) (fun g hg => by
        rcases h3 with e | ⟨k, e, hk⟩
        · rw [e] at hg; simp [Value.ownBlock] at hg
        · rw [e] at hg; cases hg; exact hk)
      exact ⟨ad, cp, W', h1, g1, g2, g3, h4.mono fun k hk e => by simp [Value.ownBlock] at e⟩
    · obtain ⟨g, o, ha, hc⟩ : ∃ g o, some x = some (⟨g, o, none⟩ : Addr) ∧ ∀ j y, ls[j]? = some y → ∀ i v, (E.vs y)[i]? = some v → w.cell? ⟨g, o + j * E.k + i, none⟩ = some v := by
        rcases hs with h | h
        · exact (he h).elim
        · exact h
      cases ha
      obtain ⟨v', W', h1, h2, h3, h4⟩ := append_many (w := w) t E.ety i z E.k bytes ht hi hz hsz hb hzs E.pos (.slice none 0 0) 0 [] (World.ownsRow_nil w 0 E.ety E.k) ⟨g, o, none⟩ ls.length c (ls.flatMap E.vs) (flat_len E ls) (fun j u hj => by rw [addr_add]; exact flat_cell E hc hj) (fun u hu => by
        obtain ⟨y, _, hy⟩ := List.mem_flatMap.1 hu
        exact hE.one y u hy) (by omega) (by rw [Nat.zero_add]; exact hlb)
      obtain ⟨ad, cp, rfl, g1, g2, g3⟩ := hfin v' W' (by simpa using h2) (fun g hg => by
        rcases h3 with e | ⟨k, e, hk⟩
        · rw [e] at hg; simp [Value.ownBlock] at hg
        · rw [e] at hg; cases hg; exact hk)
      exact ⟨ad, cp, W', h1, g1, g2, g3, h4.mono fun k hk e => by simp [Value.ownBlock] at e⟩
theorem Tryz.inf45 : (Tryz.prog.info? 45).map (fun i => (i.zero, i.size, i.bytes)) = some (some (.agg #[.int .i64 0, .int .i64 0, .int .i64 0]), 3, 24) := by kernel_rfl
theorem Tryz.inf39 : (Tryz.prog.info? 39).map (fun i => (i.zero, i.size, i.bytes)) = some (some (.agg #[.int .i64 0, .int .i64 0, .int .i64 0, .int .i64 0]), 4, 32) := by kernel_rfl
theorem Tryz.inf51 : (Tryz.prog.info? 51).map (fun i => (i.zero, i.size, i.bytes)) = some (some (.agg #[.int .i64 0, .bool false]), 2, 16) := by kernel_rfl
theorem Tryz.inf49 : (Tryz.prog.info? 49).map (fun i => (i.zero, i.size, i.bytes)) = some (some (.agg #[.int .i64 0, .int .i64 0, .int .i64 0]), 3, 24) := by kernel_rfl
theorem Tryz.inf43 : (Tryz.prog.info? 43).map (fun i => (i.zero, i.size, i.bytes)) = some (some (.slice none 0 0), 1, 24) := by kernel_rfl
theorem Tryz.inf37 : (Tryz.prog.info? 37).map (fun i => (i.zero, i.size, i.bytes)) = some (some (.agg #[.string { data := #[] }, .int .i64 0, .int .i64 0, .int .i64 0, .int .i64 0, .int .i64 0, .slice none 0 0, .slice none 0 0]), 8, 104) := by kernel_rfl
end Go.Proofs.YtgookbkaacidpaaGreat
