import Derived.Test.YtgookbkaacidpaaGreatHc
namespace Go.Proofs.YtgookbkaacidpaaGreat
open Go.RowKit
set_option linter.unusedVariables false
set_option linter.unusedSimpArgs false
set_option maxRecDepth 6000

/-- A list that has a block to itself, from its beginning on. -/
def Lod {α : Type} (E : Elem α) (w : World) (a : Option Addr) (ls : List α) : Prop := ls = [] ∨ ∃ g junk, a = some ⟨g, 0, none⟩ ∧ Blk w g (ls.flatMap E.vs ++ junk) E.ety
theorem Lod.seg {α : Type} {E : Elem α} {w : World} {a : Option Addr} {ls : List α} (h : Lod E w a ls) : SegA E.vs E.k w a ls := by
  rcases h with h | ⟨g, junk, ha, hb⟩
  · exact .inl h
  · refine .inr ⟨g, 0, ha, fun j x hj i v hv => ?_⟩
    rw [Nat.zero_add]
    have := flat_get E ls j x i v hj hv
    exact hb.cell (by rw [List.getElem?_append_left (List.getElem?_eq_some_iff.1 this).1]; exact this)
theorem Lod.kept {α : Type} {E : Elem α} {w w' : World} {a : Option Addr} {ls : List α} {S : Nat → Prop} (h : Lod E w a ls) (k : Keeps S w w') (hS : ls ≠ [] → ∀ b, a = some b → ¬ S b.block) : Lod E w' a ls := by
  rcases h with h | ⟨g, junk, ha, hb⟩
  · exact .inl h
  · by_cases e : ls = []
    · exact .inl e
    · exact .inr ⟨g, junk, ha, hb.kept k (hS e _ ha)⟩
/-- append(nil, ls...): the same list in a block of its own. -/
theorem copy_appD {α : Type} (E : Elem α) (hE : Plain E) (t : TypeId) (i : TypeInfo) (z : Value) (bytes : Nat) (ht : Tryz.prog.underlying t = some (.slice E.ety)) (hi : Tryz.prog.info? E.ety = some i) (hz : i.zero = some z) (hsz : i.size = E.k) (hb : i.bytes = bytes) (hzs : z.cells.size = E.k)
    {w : World} (a : Option Addr) (ls : List α) (c : Nat) (hs : SegA E.vs E.k w a ls) (hl : ls.length ≤ maxLen) (hlb : ls.length * bytes ≤ 140737488355328) :
    ∃ ad cp W', (∀ ty, (Builtin.append_ #[t, t] ty #[.slice none 0 0, .slice a ls.length c]).run Tryz.prog w = .ok (.slice ad ls.length cp) W') ∧ Lod E W' ad ls ∧ (ls ≠ [] → ∀ y, ad = some y → w.heap.size ≤ y.block ∧ y.block < W'.heap.size) ∧ (ls.length ≤ cp ∧ cp ≤ maxLen) ∧ Keeps (fun _ => False) w W' := by
  have hnil : ls = [] ∨ ls ≠ [] := by cases ls <;> simp
  have hfin : ∀ (v' : Value) (W' : World), W'.ownsRow 0 E.ety E.k v' ls.length (ls.flatMap E.vs) → (∀ g, v'.ownBlock = some g → w.heap.size ≤ g) → ∃ ad cp, v' = .slice ad ls.length cp ∧ Lod E W' ad ls ∧ (ls ≠ [] → ∀ y, ad = some y → w.heap.size ≤ y.block ∧ y.block < W'.heap.size) ∧ (ls.length ≤ cp ∧ cp ≤ maxLen) := by
    intro v' W' hown hlo
    rcases hown.2 with ⟨rfl, h0⟩ | ⟨g, cap, cur, rfl, _, hg, h1, h2, h3, h4⟩
    · have : ls = [] := List.length_eq_zero_iff.1 h0
      subst this
      exact ⟨none, 0, rfl, .inl rfl, fun e => (e rfl).elim, by simp, by unfold maxLen; omega⟩
    · refine ⟨some ⟨g, 0, none⟩, cap, rfl, .inr ⟨g, cur.toList.drop (ls.length * E.k), rfl, ?_⟩, fun _ y hy => by cases hy; exact ⟨hlo g rfl, (Array.getElem?_eq_some_iff.1 hg).1⟩, h1, h2⟩
      rw [← h4, List.take_append_drop]
      unfold Blk
      rw [Array.toArray_toList]
      exact hg
  cases a with
  | none =>
    obtain rfl : ls = [] := by
      rcases hs with h | ⟨g, o, ha, _⟩
      · exact h
      · simp at ha
    refine ⟨none, 0, w, fun ty => append_none t E.ety i E.k ht hi hsz E.pos (.slice none 0 0) 0 c [] (World.ownsRow_nil w 0 E.ety E.k) ty, .inl rfl, fun e => (e rfl).elim, ⟨by simp, by unfold maxLen; omega⟩, Keeps.refl _ _⟩
  | some x =>
    by_cases he : ls = []
    · subst he
      obtain ⟨v', W', h1, h2, h3, h4⟩ := append_many (w := w) t E.ety i z E.k bytes ht hi hz hsz hb hzs E.pos (.slice none 0 0) 0 [] (World.ownsRow_nil w 0 E.ety E.k) x 0 c [] (by simp) (fun j u hj => by simp at hj) (fun u hu => by cases hu) (by unfold maxLen; omega) (by omega)
      obtain ⟨ad, cp, rfl, g1, g2, g3⟩ := hfin v' W' (by simpa using h2) (fun g hg => by
        rcases h3 with e | ⟨k, e, hk⟩
        · rw [e] at hg; simp [Value.ownBlock] at hg
        · rw [e] at hg; cases hg; exact hk)
      exact ⟨ad, cp, W', h1, g1, g2, g3, h4.mono fun k hk e => by simp [Value.ownBlock] at e⟩
    · obtain ⟨g, o, ha, hc⟩ : ∃ g o, some x = some (⟨g, o, none⟩ : Addr) ∧ ∀ j y, ls[j]? = some y → ∀ i v, (E.vs y)[i]? = some v → w.cell? ⟨g, o + j * E.k + i, none⟩ = some v := by
        rcases hs with h | h
        · exact (he h).elim
        · exact h
      cases ha
      obtain ⟨v', W', h1, h2, h3, h4⟩ := append_many (w := w) t E.ety i z E.k bytes ht hi hz hsz hb hzs E.pos (.slice none 0 0) 0 [] (World.ownsRow_nil w 0 E.ety E.k) ⟨g, o, none⟩ ls.length c (ls.flatMap E.vs) (flat_len E ls) (fun j u hj => by rw [addr_add]; exact flat_cell E hc hj) (fun u hu => by
        obtain ⟨y, _, hy⟩ := List.mem_flatMap.1 hu
        exact hE.one y u hy) (by omega) (by rw [Nat.zero_add]; exact hlb)
      obtain ⟨ad, cp, rfl, g1, g2, g3⟩ := hfin v' W' (by simpa using h2) (fun g hg => by
        rcases h3 with e | ⟨k, e, hk⟩
        · rw [e] at hg; simp [Value.ownBlock] at hg
        · rw [e] at hg; cases hg; exact hk)
      exact ⟨ad, cp, W', h1, g1, g2, g3, h4.mono fun k hk e => by simp [Value.ownBlock] at e⟩
end Go.Proofs.YtgookbkaacidpaaGreat
namespace Go.Proofs.YtgookbkaacidpaaGreat
open Go.RowKit
set_option linter.unusedVariables false
set_option linter.unusedSimpArgs false
set_option maxRecDepth 6000

/-- While the cores are copied: ys those that are, each in a block behind M. -/
structure D1 (w : World) (x : Cfg) (C R O M N : Nat) (ys : List Core) (w' : World) : Prop where
  cfg : Blk w' C x.vs 26
  res : Blk w' R [.int .i64 0, .int .i64 0, .int .i64 0, .int .i64 0, .slice none 0 0, .slice none 0 0, .slice none 0 0] 26
  out : Blk w' O [.int .i64 x.frames, .int .i64 x.major, .int .i64 x.kernel, .int .i64 x.room, .slice (some ⟨M, 0, none⟩) x.cs.length x.cs.length, .slice x.pa x.ps.length x.pc, .slice x.ha x.hs.length x.hc] 26
  row : Blk w' M (ys.map Core.v ++ List.replicate (x.cs.length - ys.length) (.slice none 0 0)) 43
  eqv : ys.map (·.ws) = (x.cs.take ys.length).map (·.ws)
  len : ys.length ≤ x.cs.length
  yin : ∀ y ∈ ys, Lod eWin w' y.a y.ws ∧ (y.ws.length ≤ y.c ∧ y.c ≤ maxLen) ∧ (y.ws ≠ [] → ∀ b, y.a = some b → M < b.block ∧ b.block < w'.heap.size)
  keeps : Keeps (fun _ => False) w w'
  cin : x.In w' N
  nn : N ≤ w.heap.size
  lo : w.heap.size ≤ C ∧ C < R ∧ R < O ∧ O < M
  ord : ∀ (i j : Nat) (y y' : Core), i < j → ys[i]? = some y → ys[j]? = some y' → ∀ b ∈ blk1 y.a y.ws, ∀ c ∈ blk1 y'.a y'.ws, b < c
theorem D1.kept {w : World} {x : Cfg} {C R O M N : Nat} {ys : List Core} {w' w'' : World} (h : D1 w x C R O M N ys w') (k : Keeps (fun _ => False) w' w'') : D1 w x C R O M N ys w'' :=
  ⟨h.cfg.kept k fun h => h, h.res.kept k fun h => h, h.out.kept k fun h => h, h.row.kept k fun h => h, h.eqv, h.len, fun y hy => ⟨(h.yin y hy).1.kept k fun _ _ _ h => h, (h.yin y hy).2.1, fun hn b hb => ⟨((h.yin y hy).2.2 hn b hb).1, Nat.lt_of_lt_of_le ((h.yin y hy).2.2 hn b hb).2 k.size⟩⟩, h.keeps.trans k fun _ _ h => h, h.cin.keeps (Nat.le_trans h.nn h.keeps.size) k, h.nn, h.lo, h.ord⟩
theorem D1.put {w : World} {x : Cfg} {C R O M N : Nat} {ys : List Core} {w' : World} (h : D1 w x C R O M N ys w') {y X : Core} (hX : x.cs[ys.length]? = some X) (hw : y.ws = X.ws) (hy : Lod eWin w' y.a y.ws ∧ (y.ws.length ≤ y.c ∧ y.c ≤ maxLen) ∧ (y.ws ≠ [] → ∀ b, y.a = some b → M < b.block ∧ b.block < w'.heap.size)) (hnew : ∀ z ∈ ys, ∀ b ∈ blk1 z.a z.ws, ∀ c ∈ blk1 y.a y.ws, b < c) :
    D1 w x C R O M N (ys ++ [y]) (w'.setCell ⟨M, ys.length, none⟩ y.v) := by
  have hlt := (List.getElem?_eq_some_iff.1 hX).1
  have k : Keeps (fun k => k = M) w' (w'.setCell ⟨M, ys.length, none⟩ y.v) := (Keeps.refl _ _).setCell ⟨M, ys.length, none⟩ _ fun _ => rfl
  have hlo := h.lo
  have hnn := h.nn
  have hseg : ∀ z : Core, (Lod eWin w' z.a z.ws ∧ (z.ws.length ≤ z.c ∧ z.c ≤ maxLen) ∧ (z.ws ≠ [] → ∀ b, z.a = some b → M < b.block ∧ b.block < w'.heap.size)) → Lod eWin (w'.setCell ⟨M, ys.length, none⟩ y.v) z.a z.ws ∧ (z.ws.length ≤ z.c ∧ z.c ≤ maxLen) ∧ (z.ws ≠ [] → ∀ b, z.a = some b → M < b.block ∧ b.block < (w'.setCell ⟨M, ys.length, none⟩ y.v).heap.size) := fun z hz =>
    ⟨hz.1.kept k fun hn b hb e => by have := (hz.2.2 hn b hb).1; omega, hz.2.1, fun hn b hb => ⟨(hz.2.2 hn b hb).1, Nat.lt_of_lt_of_le (hz.2.2 hn b hb).2 k.size⟩⟩
  refine ⟨h.cfg.kept k (by omega), h.res.kept k (by omega), h.out.kept k (by omega), ?_, ?_, by simp; omega, fun z hz => ?_, h.keeps.trans k fun b hb e => by omega, h.cin.below (k.below (Nat.le_trans hnn h.keeps.size) fun b e => by omega), hnn, hlo, fun i j z z' hij hz hz' => ?_⟩
  · have := h.row.setCell ys.length y.v
    have e : (ys.map Core.v ++ List.replicate (x.cs.length - ys.length) (Value.slice none 0 0)).set ys.length y.v = (ys ++ [y]).map Core.v ++ List.replicate (x.cs.length - (ys ++ [y]).length) (Value.slice none 0 0) := by
      rw [List.set_append_right _ _ (by simp), List.length_map, Nat.sub_self]
      obtain ⟨m, hm⟩ : ∃ m, x.cs.length - ys.length = m + 1 := ⟨x.cs.length - ys.length - 1, by omega⟩
      have hm2 : x.cs.length - (ys ++ [y]).length = m := by simp; omega
      rw [hm, hm2, List.replicate_succ, List.set_cons_zero]
      simp
    rw [e] at this
    exact this
  · rw [List.map_append, h.eqv, List.length_append, List.length_singleton, List.take_add_one, hX]
    simp [hw]
  · rcases List.mem_append.1 hz with hz | hz
    · exact hseg z (h.yin z hz)
    · have : z = y := by simpa using hz
      rw [this]
      exact hseg y hy
  · by_cases hj : j < ys.length
    · rw [List.getElem?_append_left hj] at hz'
      rw [List.getElem?_append_left (by omega)] at hz
      exact h.ord i j z z' hij hz hz'
    · rw [List.getElem?_append_right (by omega)] at hz'
      have hj0 : j - ys.length = 0 := by have := (List.getElem?_eq_some_iff.1 hz').1; simp at this; omega
      rw [hj0] at hz'
      cases hz'
      rw [List.getElem?_append_left (by omega)] at hz
      exact hnew z (List.mem_of_getElem? hz)

/-- A copied partition lies there: its lists behind M. -/
def ZID (M : Nat) (w : World) (z : Par) : Prop :=
  (Lod eRgn w z.ra z.rs ∧ (z.rs.length ≤ z.rc ∧ z.rc ≤ maxLen) ∧ (z.rs ≠ [] → ∀ b, z.ra = some b → M < b.block ∧ b.block < w.heap.size)) ∧
  (Lod ePrt w z.pa z.ps ∧ (z.ps.length ≤ z.pc ∧ z.pc ≤ maxLen) ∧ (z.ps ≠ [] → ∀ b, z.pa = some b → M < b.block ∧ b.block < w.heap.size))
theorem ZID.kept {M : Nat} {w w' : World} {z : Par} {S : Nat → Prop} (h : ZID M w z) (k : Keeps S w w') (hS : ∀ b, S b → b ≤ M ∨ w.heap.size ≤ b) : ZID M w' z :=
  ⟨⟨h.1.1.kept k fun hn b hb e => by have := h.1.2.2 hn b hb; have := hS _ e; omega, h.1.2.1, fun hn b hb => ⟨(h.1.2.2 hn b hb).1, Nat.lt_of_lt_of_le (h.1.2.2 hn b hb).2 k.size⟩⟩,
   ⟨h.2.1.kept k fun hn b hb e => by have := h.2.2.2 hn b hb; have := hS _ e; omega, h.2.2.1, fun hn b hb => ⟨(h.2.2.2 hn b hb).1, Nat.lt_of_lt_of_le (h.2.2.2 hn b hb).2 k.size⟩⟩⟩
/-- While the partitions are copied. -/
structure D2 (w : World) (x : Cfg) (C R O M M2 N : Nat) (ys : List Core) (zs : List Par) (w' : World) : Prop where
  cfg : Blk w' C x.vs 26
  res : Blk w' R [.int .i64 0, .int .i64 0, .int .i64 0, .int .i64 0, .slice none 0 0, .slice none 0 0, .slice none 0 0] 26
  out : Blk w' O [.int .i64 x.frames, .int .i64 x.major, .int .i64 x.kernel, .int .i64 x.room, .slice (some ⟨M, 0, none⟩) x.cs.length x.cs.length, .slice (some ⟨M2, 0, none⟩) x.ps.length x.ps.length, .slice x.ha x.hs.length x.hc] 26
  row : Blk w' M (ys.map Core.v) 43
  eqv : ys.map (·.ws) = x.cs.map (·.ws)
  yin : ∀ y ∈ ys, Lod eWin w' y.a y.ws ∧ (y.ws.length ≤ y.c ∧ y.c ≤ maxLen) ∧ (y.ws ≠ [] → ∀ b, y.a = some b → M < b.block ∧ b.block < M2)
  row2 : Blk w' M2 (zs.flatMap Par.vs ++ (List.replicate (x.ps.length - zs.length) zP).flatten) 37
  len : zs.length ≤ x.ps.length
  eqv2 : ∀ (j : Nat) (z P : Par), zs[j]? = some z → x.ps[j]? = some P → z.Eqv P
  zin : ∀ z ∈ zs, ZID M2 w' z
  keeps : Keeps (fun _ => False) w w'
  cin : x.In w' N
  nn : N ≤ w.heap.size
  lo : w.heap.size ≤ C ∧ C < R ∧ R < O ∧ O < M ∧ M < M2 ∧ M2 < w'.heap.size
  ord : ∀ (i j : Nat) (y y' : Core), i < j → ys[i]? = some y → ys[j]? = some y' → ∀ b ∈ blk1 y.a y.ws, ∀ c ∈ blk1 y'.a y'.ws, b < c
  zord : ∀ (i j : Nat) (z z' : Par), i < j → zs[i]? = some z → zs[j]? = some z' → ∀ b ∈ z.bl, ∀ c ∈ z'.bl, b < c
  zself : ∀ z ∈ zs, ∀ b ∈ blk1 z.ra z.rs, ∀ c ∈ blk1 z.pa z.ps, b < c
theorem D2.up {w : World} {x : Cfg} {C R O M M2 N : Nat} {ys : List Core} {zs : List Par} {w' w'' : World} {S : Nat → Prop} (h : D2 w x C R O M M2 N ys zs w') (k : Keeps S w' w'') (hS : ∀ b, S b → w'.heap.size ≤ b) : D2 w x C R O M M2 N ys zs w'' := by
  have hlo := h.lo
  have hn : ∀ b, b < w'.heap.size → ¬ S b := fun b hb e => by have := hS b e; omega
  exact ⟨h.cfg.kept k (hn _ (by omega)), h.res.kept k (hn _ (by omega)), h.out.kept k (hn _ (by omega)), h.row.kept k (hn _ (by omega)), h.eqv, fun y hy => ⟨(h.yin y hy).1.kept k fun hne b hb => hn _ (by have := (h.yin y hy).2.2 hne b hb; omega), (h.yin y hy).2⟩, h.row2.kept k (hn _ (by omega)), h.len, h.eqv2,
    fun z hz => (h.zin z hz).kept k fun b hb => .inr (hS b hb), h.keeps.trans k fun b hb e => hn b (by have := h.keeps.size; omega) e, h.cin.below (k.below (Nat.le_trans h.nn h.keeps.size) fun b e => by have := hS b e; have := h.nn; have := h.keeps.size; omega), h.nn, ⟨hlo.1, hlo.2.1, hlo.2.2.1, hlo.2.2.2.1, hlo.2.2.2.2.1, Nat.lt_of_lt_of_le hlo.2.2.2.2.2 k.size⟩, h.ord, h.zord, h.zself⟩
theorem D2.put {w : World} {x : Cfg} {C R O M M2 N : Nat} {ys : List Core} {zs : List Par} {w' : World} (h : D2 w x C R O M M2 N ys zs w') {z P : Par} (hP : x.ps[zs.length]? = some P) (he : z.Eqv P) (hz : ZID M2 w' z) (o : Nat) (ho : o = zs.length * 8) (hnew : ∀ u ∈ zs, ∀ b ∈ u.bl, ∀ c ∈ z.bl, b < c) (hself : ∀ b ∈ blk1 z.ra z.rs, ∀ c ∈ blk1 z.pa z.ps, b < c) :
    D2 w x C R O M M2 N ys (zs ++ [z]) ((((((((w'.setCell ⟨M2, o, none⟩ (.string z.name)).setCell ⟨M2, o + 1, none⟩ (.int .i64 z.entry)).setCell ⟨M2, o + 2, none⟩ (.int .i64 z.action)).setCell ⟨M2, o + 3, none⟩ (.int .i64 z.restarts)).setCell ⟨M2, o + 4, none⟩ (.int .i64 z.inputs)).setCell ⟨M2, o + 5, none⟩ (.int .i64 z.outputs)).setCell ⟨M2, o + 6, none⟩ (.slice z.ra z.rs.length z.rc)).setCell ⟨M2, o + 7, none⟩ (.slice z.pa z.ps.length z.pc)) := by
  have hlt := (List.getElem?_eq_some_iff.1 hP).1
  have hlo := h.lo
  have hnn := h.nn
  have k0 := Keeps.refl (fun k => k = M2) w'
  have k1 := k0.setCell ⟨M2, o, none⟩ (.string z.name) fun _ => rfl
  have k2 := k1.setCell ⟨M2, o + 1, none⟩ (.int .i64 z.entry) fun _ => rfl
  have k3 := k2.setCell ⟨M2, o + 2, none⟩ (.int .i64 z.action) fun _ => rfl
  have k4 := k3.setCell ⟨M2, o + 3, none⟩ (.int .i64 z.restarts) fun _ => rfl
  have k5 := k4.setCell ⟨M2, o + 4, none⟩ (.int .i64 z.inputs) fun _ => rfl
  have k6 := k5.setCell ⟨M2, o + 5, none⟩ (.int .i64 z.outputs) fun _ => rfl
  have k7 := k6.setCell ⟨M2, o + 6, none⟩ (.slice z.ra z.rs.length z.rc) fun _ => rfl
  have k8 := k7.setCell ⟨M2, o + 7, none⟩ (.slice z.pa z.ps.length z.pc) fun _ => rfl
  have b1 := h.row2.setCell o (.string z.name)
  have b2 := b1.setCell (o + 1) (.int .i64 z.entry)
  have b3 := b2.setCell (o + 2) (.int .i64 z.action)
  have b4 := b3.setCell (o + 3) (.int .i64 z.restarts)
  have b5 := b4.setCell (o + 4) (.int .i64 z.inputs)
  have b6 := b5.setCell (o + 5) (.int .i64 z.outputs)
  have b7 := b6.setCell (o + 6) (.slice z.ra z.rs.length z.rc)
  have b8 := b7.setCell (o + 7) (.slice z.pa z.ps.length z.pc)
  clear b1 b2 b3 b4 b5 b6 b7 k0 k1 k2 k3 k4 k5 k6 k7
  obtain ⟨W, hW⟩ : ∃ W, W = ((((((((w'.setCell ⟨M2, o, none⟩ (.string z.name)).setCell ⟨M2, o + 1, none⟩ (.int .i64 z.entry)).setCell ⟨M2, o + 2, none⟩ (.int .i64 z.action)).setCell ⟨M2, o + 3, none⟩ (.int .i64 z.restarts)).setCell ⟨M2, o + 4, none⟩ (.int .i64 z.inputs)).setCell ⟨M2, o + 5, none⟩ (.int .i64 z.outputs)).setCell ⟨M2, o + 6, none⟩ (.slice z.ra z.rs.length z.rc)).setCell ⟨M2, o + 7, none⟩ (.slice z.pa z.ps.length z.pc)) := ⟨_, rfl⟩
  rw [← hW] at k8 b8 ⊢
  clear hW
  refine ⟨h.cfg.kept k8 (by omega), h.res.kept k8 (by omega), h.out.kept k8 (by omega), h.row.kept k8 (by omega), h.eqv, fun y hy => ⟨(h.yin y hy).1.kept k8 fun hne b hb e => by have := (h.yin y hy).2.2 hne b hb; omega, (h.yin y hy).2⟩, ?_, by simp; omega, fun j z' P' hj hj' => ?_, fun z' hz' => ?_,
    h.keeps.trans k8 fun b hb e => by omega, h.cin.below (k8.below (Nat.le_trans hnn h.keeps.size) fun b e => by omega), hnn, ⟨hlo.1, hlo.2.1, hlo.2.2.1, hlo.2.2.2.1, hlo.2.2.2.2.1, Nat.lt_of_lt_of_le hlo.2.2.2.2.2 k8.size⟩, h.ord, fun i j u u' hij hu hu' => ?_, fun u hu => ?_⟩
  · obtain ⟨m, hm⟩ : ∃ m, x.ps.length - zs.length = m + 1 := ⟨x.ps.length - zs.length - 1, by omega⟩
    have hm2 : x.ps.length - (zs ++ [z]).length = m := by simp; omega
    have hpl : (zs.flatMap Par.vs).length = o := by have := flat_len ePar zs; rw [ho]; exact this
    rw [hm, List.replicate_succ, List.flatten_cons] at b8
    rw [hm2]
    have := set8 (zs.flatMap Par.vs) (List.replicate m zP).flatten (.string { data := #[] }) (.int .i64 0) (.int .i64 0) (.int .i64 0) (.int .i64 0) (.int .i64 0) (.slice none 0 0) (.slice none 0 0) (.string z.name) (.int .i64 z.entry) (.int .i64 z.action) (.int .i64 z.restarts) (.int .i64 z.inputs) (.int .i64 z.outputs) (.slice z.ra z.rs.length z.rc) (.slice z.pa z.ps.length z.pc)
    rw [hpl] at this
    unfold zP at b8 this ⊢
    rw [this] at b8
    rw [List.flatMap_append, List.append_assoc]
    simpa using b8
  · by_cases e : j < zs.length
    · rw [List.getElem?_append_left e] at hj
      exact h.eqv2 j z' P' hj hj'
    · rw [List.getElem?_append_right (by omega)] at hj
      have hj0 : j - zs.length = 0 := by
        have := (List.getElem?_eq_some_iff.1 hj).1
        simp at this
        omega
      rw [hj0] at hj
      cases hj
      have : j = zs.length := by omega
      rw [this, hP] at hj'
      cases hj'
      exact he
  · have hk : ∀ u : Par, ZID M2 w' u → ZID M2 W u := fun u hu => hu.kept k8 fun b e => .inl (by omega)
    rcases List.mem_append.1 hz' with h1 | h1
    · exact hk z' (h.zin z' h1)
    · have : z' = z := by simpa using h1
      rw [this]
      exact hk z hz
  · by_cases hj : j < zs.length
    · rw [List.getElem?_append_left hj] at hu'
      rw [List.getElem?_append_left (by omega)] at hu
      exact h.zord i j u u' hij hu hu'
    · rw [List.getElem?_append_right (by omega)] at hu'
      have hj0 : j - zs.length = 0 := by have := (List.getElem?_eq_some_iff.1 hu').1; simp at this; omega
      rw [hj0] at hu'
      cases hu'
      rw [List.getElem?_append_left (by omega)] at hu
      exact hnew u (List.mem_of_getElem? hu)
  · rcases List.mem_append.1 hu with h1 | h1
    · exact h.zself u h1
    · have : u = z := by simpa using h1
      rw [this]
      exact hself
end Go.Proofs.YtgookbkaacidpaaGreat
namespace Go.Proofs.YtgookbkaacidpaaGreat
open Go.RowKit
set_option linter.unusedVariables false
set_option linter.unusedSimpArgs false
set_option maxRecDepth 6000

/-- A configuration whose lists lie in blocks of their own. -/
structure Own (M M2 K : Nat) (y : Cfg) (w : World) : Prop where
  ca : y.ca = some ⟨M, 0, none⟩
  pa : y.pa = some ⟨M2, 0, none⟩
  cc : y.cc = y.cs.length
  pc : y.pc = y.ps.length
  row : Blk w M (y.cs.map Core.v) 43
  row2 : Blk w M2 (y.ps.flatMap Par.vs) 37
  win : ∀ X ∈ y.cs, Lod eWin w X.a X.ws ∧ (∀ b ∈ blk1 X.a X.ws, M < b ∧ b < M2)
  reg : ∀ z ∈ y.ps, Lod eRgn w z.ra z.rs ∧ Lod ePrt w z.pa z.ps ∧ (∀ b ∈ z.bl, M2 < b ∧ b < K)
  ord : ∀ (i j : Nat) (X X' : Core), i < j → y.cs[i]? = some X → y.cs[j]? = some X' → ∀ b ∈ blk1 X.a X.ws, ∀ c ∈ blk1 X'.a X'.ws, b < c
  zord : ∀ (i j : Nat) (z z' : Par), i < j → y.ps[i]? = some z → y.ps[j]? = some z' → ∀ b ∈ z.bl, ∀ c ∈ z'.bl, b < c
  zself : ∀ z ∈ y.ps, ∀ b ∈ blk1 z.ra z.rs, ∀ c ∈ blk1 z.pa z.ps, b < c
  hb : ∀ b ∈ blk1 y.ha y.hs, K ≤ b
  lo : M < M2
  kh : M2 < K
def CopD (x : Cfg) (w : World) (e : Ending) (w' : World) : Prop := ∃ (x' : Cfg) (M M2 K : Nat), e = .returned x'.v ∧ x.Eqv x' ∧ x'.In w' w'.heap.size ∧ Own M M2 K x' w' ∧ (w.heap.size ≤ M ∧ K ≤ w'.heap.size) ∧ Keeps (fun _ => False) w w'

set_option maxHeartbeats 8000000 in
theorem CopiedD_any (x : Cfg) (w : World) (N : Nat) (hi : x.In w N) (hN : N ≤ w.heap.size) (hs : Sml x) : Calls Tryz.prog 7 #[x.v] w (CopD x w) := by
  have HS : Hid (Sml x) := hs
  obtain ⟨W, hW⟩ : ∃ W, W = ((x.laid w).alloc (.cells #[.int .i64 0, .int .i64 0, .int .i64 0, .int .i64 0, .slice none 0 0, .slice none 0 0, .slice none 0 0] 26)).alloc (.cells #[.int .i64 x.frames, .int .i64 x.major, .int .i64 x.kernel, .int .i64 x.room, .slice x.ca x.cs.length x.cc, .slice x.pa x.ps.length x.pc, .slice x.ha x.hs.length x.hc] 26) := ⟨_, rfl⟩
  obtain ⟨C, hC⟩ : ∃ C, C = w.heap.size := ⟨_, rfl⟩
  obtain ⟨R, hR⟩ : ∃ R, R = w.heap.size + 1 := ⟨_, rfl⟩
  obtain ⟨O, hO⟩ : ∃ O, O = w.heap.size + 1 + 1 := ⟨_, rfl⟩
  have hE0 : Env x N [] w := ⟨hi, hN, fun b hb => by cases hb⟩
  have hE : Env x N [(O, x.vs, 26), (R, [.int .i64 0, .int .i64 0, .int .i64 0, .int .i64 0, .slice none 0 0, .slice none 0 0, .slice none 0 0], 26), (C, x.vs, 26)] W := by
    have := ((hE0.box x.vs 26).box [.int .i64 0, .int .i64 0, .int .i64 0, .int .i64 0, .slice none 0 0, .slice none 0 0, .slice none 0 0] 26).box x.vs 26
    rw [hW, hC, hR, hO]
    simpa [Cfg.laid, Cfg.vs] using this
  have kW : Keeps (fun _ => False) w W := by rw [hW]; exact (((Keeps.refl _ _).alloc _).alloc _).alloc _
  have hsz : W.heap.size = O + 1 := by rw [hW, hO]; simp [Cfg.laid]
  obtain ⟨M, hM⟩ : ∃ M, M = W.heap.size := ⟨_, rfl⟩
  obtain ⟨W1, hW1⟩ : ∃ W1, W1 = W.alloc (.cells (List.replicate x.cs.length (.slice none 0 0)).toArray 43) := ⟨_, rfl⟩
  have HM : Hid ((Instr.makeSlice 22 (.int .i64 x.cs.length) (.int .i64 x.cs.length)).run Tryz.prog W = .ok (.slice (some ⟨M, 0, none⟩) x.cs.length x.cs.length) W1) := by
    rw [hM, hW1]; exact run_make22 W x.cs.length hs.cs
  have hE1 : Env x N ((M, List.replicate x.cs.length (.slice none 0 0), 43) :: [(O, x.vs, 26), (R, [.int .i64 0, .int .i64 0, .int .i64 0, .int .i64 0, .slice none 0 0, .slice none 0 0, .slice none 0 0], 26), (C, x.vs, 26)]) W1 := by rw [hW1, hM]; exact hE.box _ _
  obtain ⟨W2, hW2⟩ : ∃ W2, W2 = W1.setCell ⟨O, 4, none⟩ (.slice (some ⟨M, 0, none⟩) x.cs.length x.cs.length) := ⟨_, rfl⟩
  have HC1 : Hid (D1 w x C R O M N [] W2) := by
    have k1 : Keeps (fun _ => False) w W1 := by rw [hW1]; exact kW.trans ((Keeps.refl (fun _ => False) _).alloc _) fun _ _ h => h
    have k2 : Keeps (fun k => k = O) W1 W2 := by rw [hW2]; exact (Keeps.refl _ _).setCell ⟨O, 4, none⟩ _ fun _ => rfl
    have hb := (hE1.bl _ (.tail _ (.head _))).setCell 4 (.slice (some ⟨M, 0, none⟩) x.cs.length x.cs.length)
    dsimp only at hb
    rw [← hW2] at hb
    refine ⟨(hE1.bl _ (.tail _ (.tail _ (.tail _ (.head _))))).kept k2 (by dsimp only; omega), (hE1.bl _ (.tail _ (.tail _ (.head _)))).kept k2 (by dsimp only; omega), hb, ?_, by simp, by simp, fun y hy => by simp at hy, k1.trans k2 fun b hb e => by omega, hE1.cin.below (k2.below hE1.nn fun b e => by omega), hN, by omega, fun i j y y' _ hy => by simp at hy⟩
    have := (hE1.bl _ (.head _)).kept k2 (by dsimp only; omega)
    simpa using this
  have HO4 : Hid (W1.cell? ⟨O, 4, none⟩ = some (.slice x.ca x.cs.length x.cc) ∧ W1.frozen? ⟨O, 4, none⟩ = false) := ⟨(hE1.bl _ (.tail _ (.head _))).cell (i := 4) rfl, (hE1.bl _ (.tail _ (.head _))).frozen 4⟩
  have c4 := (hE.bl _ (.tail _ (.tail _ (.head _)))).cell (i := 4) rfl
  dsimp only at c4
  clear hE hE0 hE1 kW hsz hi hN hs
  unfold Cfg.laid at hW
  go_enter Tryz.func7, Tryz.ntmps7
  go_upto_region 2 with fail
  rw [← hW, ← hO, ← hR, ← hC]
  clear hW hO hR hC
  obtain ⟨L, hL⟩ : ∃ L, x.cs.length = L := ⟨_, rfl⟩
  rw [hL] at c4 HM HO4 hW2 ⊢
  have HL : Hid (x.cs.length = L) := hL
  clear hL hW1 hM
  go_wp2_with (at_make; refine wpList_make_run rfl (.tmp 14) (.tmp 14) 22 rfl (.int .i64 L) (.int .i64 L) (.slice (some ⟨M, 0, none⟩) L L) W1 rfl rfl HM.out ?_; refine Hid.out ?_)
  refine Hid.mkq ?_
  obtain ⟨o4, o4f⟩ := HO4.out
  go_upto_region 3 with fail
  rw [← hW2]
  clear hW2 o4 o4f c4 HO4 HM
  go_wp2
  go_loopw [4] (fun i wr => ∃ ys : List Core, i = .int .i64 (ys.length : Int) ∧ D1 w x C R O M N ys wr) (fun i _ => L - (intOf i).toNat)
  case atStart => exact ⟨[], rfl, HC1.out⟩
  case round =>
    obtain ⟨ys, rfl, hI⟩ := hrel
    have hlenb : ys.length ≤ L := by have := hI.len; rw [HL.out] at this; exact this
    have HI : Hid (D1 w x C R O M N ys wr) := hI
    have hcc : (L : Int) ≤ x.cc ∧ (x.cc : Int) ≤ 9223372036854775807 := by have := hI.cin.clen; rw [HL.out] at this; unfold maxLen at this; omega
    obtain ⟨J, hJ⟩ : ∃ J, ys.length = J := ⟨_, rfl⟩
    have HJ : Hid (ys.length = J) := hJ
    rw [hJ] at hlenb ⊢
    by_cases hlt : J < L
    · obtain ⟨X, hX⟩ : ∃ X, x.cs[J]? = some X := ⟨_, List.getElem?_eq_getElem (by have := HL.out; omega)⟩
      obtain ⟨g0, o0, e0, p0⟩ := hI.cin.core hX
      have hXi := hI.cin.cin X (List.mem_of_getElem? hX)
      have c4 : wr.cell? ⟨C, 4, none⟩ = some (.slice (some ⟨g0, o0, none⟩) L x.cc) := by have := hI.cfg.cell (i := 4) rfl; rw [HL.out, e0] at this; exact this
      obtain ⟨i0, hi0, hz0, hz1, hz2⟩ := info_parts Tryz.inf45
      obtain ⟨ad, cp, W3, happ, hseg, hblk, hlen, hK⟩ := copy_appD eWin plainWin 43 i0 _ 24 Tryz.underlying43 hi0 hz0 hz1 hz2 rfl X.a X.ws X.c hXi.seg (by have := hXi.len; omega) (by have := HS.out.ws X (List.mem_of_getElem? hX); omega)
      dsimp only [Core.v] at p0
      obtain ⟨XL, hXL⟩ : ∃ XL, X.ws.length = XL := ⟨_, rfl⟩
      rw [hXL] at p0 happ
      have HAP : Hid (∀ ty, (Builtin.append_ #[43, 43] ty #[.slice none 0 0, .slice X.a XL X.c]).run Tryz.prog wr = .ok (.slice ad XL cp) W3) := happ
      have HI3 : Hid (D1 w x C R O M N ys W3) := hI.kept hK
      have o4 : W3.cell? ⟨O, 4, none⟩ = some (.slice (some ⟨M, 0, none⟩) L L) := by have := HI3.out.out.cell (i := 4) rfl; rw [HL.out] at this; exact this
      have m0 : W3.cell? ⟨M, J, none⟩ = some (.slice none 0 0) := HI3.out.row.cell (by
        rw [List.getElem?_append_right (by simp [hJ]), List.length_map, hJ, Nat.sub_self, List.getElem?_replicate, if_pos (by have := HL.out; omega)])
      have m1 := HI3.out.row.frozen J
      have HP : Hid (D1 w x C R O M N (ys ++ [⟨ad, cp, X.ws⟩]) (W3.setCell ⟨M, J, none⟩ (.slice ad XL cp))) := by
        have hlo : M < wr.heap.size := hI.row.lt
        have := HI3.out.put (y := ⟨ad, cp, X.ws⟩) (X := X) (by rw [hJ]; exact hX) rfl ⟨hseg, hlen, fun hn b hb => ⟨by have := (hblk hn b hb).1; omega, (hblk hn b hb).2⟩⟩ (fun z hz b hb c hc => by
          obtain ⟨n1, a1, e1, rfl⟩ := blk1_mem.1 hb
          obtain ⟨n2, a2, e2, rfl⟩ := blk1_mem.1 hc
          have h1 := ((hI.yin z hz).2.2 n1 a1 e1).2
          have h2 := (hblk n2 a2 e2).1
          omega)
        dsimp only [Core.v] at this
        rw [hJ, hXL] at this
        exact this
      clear happ hseg hblk hlen hK hXi hI hX e0 hXL hi0 hz0 hz1 hz2
      go_wp2_with (at_builtin; go_must (refine wpList_append_run rfl (.tmp 24) (.tmp 29) 43 43 rfl (Value.slice none 0 0) (.slice X.a XL X.c) (.slice ad XL cp) W3 rfl rfl HAP.out ?_; refine Hid.out ?_))
      refine Hid.mkq ?_
      clear c4 p0
      go_wp2
      go_roundw
      case rel => exact ⟨ys ++ [⟨ad, cp, X.ws⟩], by rw [List.length_append, HJ.out]; rfl, HP.out⟩
      case measure => simp [intOf]; omega
    · have hJL : J = L := by omega
      have c4 : wr.cell? ⟨C, 4, none⟩ = some (.slice x.ca L x.cc) := by have := hI.cfg.cell (i := 4) rfl; rw [HL.out] at this; exact this
      obtain ⟨PL, hPL⟩ : ∃ PL, x.ps.length = PL := ⟨_, rfl⟩
      have HPL : Hid (x.ps.length = PL) := hPL
      have c5 : wr.cell? ⟨C, 5, none⟩ = some (.slice x.pa PL x.pc) := by have := hI.cfg.cell (i := 5) rfl; rw [hPL] at this; exact this
      obtain ⟨M2, hM2⟩ : ∃ M2, M2 = wr.heap.size := ⟨_, rfl⟩
      obtain ⟨V1, hV1⟩ : ∃ V1, V1 = wr.alloc (.cells ((List.replicate PL zP).flatten).toArray 37) := ⟨_, rfl⟩
      have HM : Hid ((Instr.makeSlice 23 (.int .i64 PL) (.int .i64 PL)).run Tryz.prog wr = .ok (.slice (some ⟨M2, 0, none⟩) PL PL) V1) := by
        rw [hM2, hV1]; exact run_make23 wr PL (by have := HS.out.ps; rw [hPL] at this; exact this)
      have hI1 : D1 w x C R O M N ys V1 := by rw [hV1]; exact hI.kept ((Keeps.refl _ _).alloc _)
      have hB2 : Blk V1 M2 ((List.replicate PL zP).flatten) 37 := by rw [hV1, hM2]; exact Blk.new _ _ _
      have o5 := hI1.out.cell (i := 5) rfl
      have o5f := hI1.out.frozen 5
      obtain ⟨V2, hV2⟩ : ∃ V2, V2 = V1.setCell ⟨O, 5, none⟩ (.slice (some ⟨M2, 0, none⟩) PL PL) := ⟨_, rfl⟩
      have HC2 : Hid (D2 w x C R O M M2 N ys [] V2) := by
        have hlo := hI1.lo
        have hMlt : M < wr.heap.size := hI.row.lt
        have k2 : Keeps (fun k => k = O) V1 V2 := by rw [hV2]; exact (Keeps.refl _ _).setCell ⟨O, 5, none⟩ _ fun _ => rfl
        have hb := hI1.out.setCell 5 (.slice (some ⟨M2, 0, none⟩) PL PL)
        rw [← hV2, ← hPL] at hb
        have hyl : ys.length = x.cs.length := by rw [hJ, hJL]; exact HL.out.symm
        refine ⟨hI1.cfg.kept k2 (by omega), hI1.res.kept k2 (by omega), hb, ?_, ?_, fun y hy => ?_, ?_, by simp, fun j z P hj => by simp at hj, fun z hz => by simp at hz, hI1.keeps.trans k2 fun b hb e => by omega, hI1.cin.below (k2.below (Nat.le_trans hI1.nn hI1.keeps.size) fun b e => by have := hI1.nn; omega), hI1.nn, ⟨hlo.1, hlo.2.1, hlo.2.2.1, hlo.2.2.2, by omega, Nat.lt_of_lt_of_le hB2.lt k2.size⟩, hI1.ord, fun i j z z' _ hz => by simp at hz, fun z hz => by simp at hz⟩
        · have := hI1.row.kept k2 (by omega)
          rw [hyl, Nat.sub_self] at this
          simpa using this
        · have := hI1.eqv
          rw [hyl, List.take_length] at this
          exact this
        · have h1 := hI.yin y hy
          have h2 := hI1.yin y hy
          exact ⟨h2.1.kept k2 fun hn b hb e => by have := h1.2.2 hn b hb; omega, h1.2.1, fun hn b hb => by have := h1.2.2 hn b hb; exact ⟨this.1, by omega⟩⟩
        · have := hB2.kept k2 (by omega)
          rw [← hPL] at this
          simpa using this
      rw [hPL] at o5
      clear hI hI1 hB2 hPL hV1 HC1 HI hM2
      go_wp2_with (at_make; refine wpList_make_run rfl (.tmp 38) (.tmp 38) 23 rfl (.int .i64 PL) (.int .i64 PL) (.slice (some ⟨M2, 0, none⟩) PL PL) V1 rfl rfl HM.out ?_; refine Hid.out ?_)
      refine Hid.mkq ?_
      go_upto_region 10 with fail
      rw [← hV2]
      clear hV2 o5 o5f c4 c5 HM
      go_wp2
      go_loopw [6] (fun i wr => ∃ zs : List Par, i = .int .i64 (zs.length : Int) ∧ D2 w x C R O M M2 N ys zs wr) (fun i _ => PL - (intOf i).toNat)
      case atStart => exact ⟨[], rfl, HC2.out⟩
      case round =>
        obtain ⟨zs, rfl, hI⟩ := hrel
        have hlenb : zs.length ≤ PL := by have := hI.len; rw [HPL.out] at this; exact this
        have hcc : (PL : Int) ≤ x.pc ∧ (x.pc : Int) ≤ 9223372036854775807 := by have := hI.cin.plen; rw [HPL.out] at this; unfold maxLen at this; omega
        obtain ⟨K, hK⟩ : ∃ K, zs.length = K := ⟨_, rfl⟩
        have HK : Hid (zs.length = K) := hK
        rw [hK] at hlenb ⊢
        obtain ⟨wz, hwz⟩ : ∃ wz, wz = wr := ⟨_, rfl⟩
        subst hwz
        have HI : Hid (D2 w x C R O M M2 N ys zs wz) := hI
        by_cases hlt : K < PL
        · obtain ⟨P, hP⟩ : ∃ P, x.ps[K]? = some P := ⟨_, List.getElem?_eq_getElem (by have := HPL.out; omega)⟩
          obtain ⟨g0, o0, e0, hc⟩ := hI.cin.par hP
          have hPi := hI.cin.pin P (List.mem_of_getElem? hP)
          have c5 : wz.cell? ⟨C, 5, none⟩ = some (.slice (some ⟨g0, o0, none⟩) PL x.pc) := by have := hI.cfg.cell (i := 5) rfl; rw [HPL.out, e0] at this; exact this
          have p0 := hc 0 _ rfl
          rw [Nat.add_zero] at p0
          have p1 := hc 1 _ rfl
          have p2 := hc 2 _ rfl
          have p3 := hc 3 _ rfl
          have p4 := hc 4 _ rfl
          have p5 := hc 5 _ rfl
          have p6 := hc 6 _ rfl
          have p7 := hc 7 _ rfl
          obtain ⟨QL, hQL⟩ : ∃ QL, P.ps.length = QL := ⟨_, rfl⟩
          obtain ⟨RL, hRL⟩ : ∃ RL, P.rs.length = RL := ⟨_, rfl⟩
          rw [hQL] at p7
          rw [hRL] at p6
          obtain ⟨U1, hU1⟩ : ∃ U1, U1 = wz.alloc (.cells #[.string P.name, .int .i64 P.entry, .int .i64 P.action, .int .i64 P.restarts, .int .i64 P.inputs, .int .i64 P.outputs, .slice P.ra RL P.rc, .slice P.pa QL P.pc] 37) := ⟨_, rfl⟩
          obtain ⟨Q, hQ⟩ : ∃ Q, Q = wz.heap.size := ⟨_, rfl⟩
          have hB1 : Blk U1 Q [.string P.name, .int .i64 P.entry, .int .i64 P.action, .int .i64 P.restarts, .int .i64 P.inputs, .int .i64 P.outputs, .slice P.ra RL P.rc, .slice P.pa QL P.pc] 37 := by rw [hU1, hQ]; exact Blk.new _ _ _
          have kU1 : Keeps (fun _ => False) wz U1 := by rw [hU1]; exact (Keeps.refl _ _).alloc _
          have hPi1 := hPi.below (kU1.below (Nat.le_trans hI.nn hI.keeps.size) fun _ h => h.elim)
          obtain ⟨i0, hi0, hz0, hz1, hz2⟩ := info_parts Tryz.inf39
          obtain ⟨rad, rcp, U2, happ, hseg, hblk, hlen, kU2⟩ := copy_appD eRgn plainRgn 34 i0 _ 32 Tryz.underlying34 hi0 hz0 hz1 hz2 rfl P.ra P.rs P.rc hPi1.rseg (by have := hPi.rlen; omega) (by have := HS.out.rs P (List.mem_of_getElem? hP); omega)
          have hPi2 := hPi1.below (kU2.below (Nat.le_trans hI.nn (Nat.le_trans hI.keeps.size kU1.size)) fun _ h => h.elim)
          obtain ⟨i1, hi1, hy0, hy1, hy2⟩ := info_parts Tryz.inf51
          obtain ⟨pad, pcp, U3, happ2, hseg2, hblk2, hlen2, kU3⟩ := copy_appD ePrt plainPrt 35 i1 _ 16 Tryz.underlying35 hi1 hy0 hy1 hy2 rfl P.pa P.ps P.pc hPi2.pseg (by have := hPi.plen; omega) (by have := HS.out.qs P (List.mem_of_getElem? hP); omega)
          rw [hRL] at happ
          rw [hQL] at happ2
          have HAP : Hid (∀ ty, (Builtin.append_ #[34, 34] ty #[.slice none 0 0, .slice P.ra RL P.rc]).run Tryz.prog U1 = .ok (.slice rad RL rcp) U2) := happ
          have HAP2 : Hid (∀ ty, (Builtin.append_ #[35, 35] ty #[.slice none 0 0, .slice P.pa QL P.pc]).run Tryz.prog U2 = .ok (.slice pad QL pcp) U3) := happ2
          have hB2 := hB1.kept kU2 fun h => h
          have hB3 := hB2.kept kU3 fun h => h
          have q6 := hB1.cell (i := 6) rfl
          have q7 := hB2.cell (i := 7) rfl
          have z6 := hB3.cell (i := 6) rfl
          have z6f := hB3.frozen 6
          obtain ⟨U4, hU4⟩ : ∃ U4, U4 = U3.setCell ⟨Q, 6, none⟩ (.slice rad RL rcp) := ⟨_, rfl⟩
          have hB4 : Blk U4 Q [.string P.name, .int .i64 P.entry, .int .i64 P.action, .int .i64 P.restarts, .int .i64 P.inputs, .int .i64 P.outputs, .slice rad RL rcp, .slice P.pa QL P.pc] 37 := by rw [hU4]; exact hB3.setCell 6 _
          have z7 := hB4.cell (i := 7) rfl
          have z7f := hB4.frozen 7
          obtain ⟨U5, hU5⟩ : ∃ U5, U5 = U4.setCell ⟨Q, 7, none⟩ (.slice pad QL pcp) := ⟨_, rfl⟩
          have hB5 : Blk U5 Q [.string P.name, .int .i64 P.entry, .int .i64 P.action, .int .i64 P.restarts, .int .i64 P.inputs, .int .i64 P.outputs, .slice rad RL rcp, .slice pad QL pcp] 37 := by rw [hU5]; exact hB4.setCell 7 _
          have k45 : Keeps (fun k => k = Q) U3 U5 := by
            have a1 := (Keeps.refl (fun k => k = Q) U3).setCell ⟨Q, 6, none⟩ (.slice rad RL rcp) fun _ => rfl
            rw [← hU4] at a1
            have a2 := a1.setCell ⟨Q, 7, none⟩ (.slice pad QL pcp) fun _ => rfl
            rw [← hU5] at a2
            exact a2
          have kall : Keeps (fun k => k = Q) wz U5 := (((kU1.trans kU2 fun _ _ h => h).trans kU3 fun _ _ h => h).mono fun _ _ h => h.elim).trans k45 fun _ _ h => h
          have hI5 : D2 w x C R O M M2 N ys zs U5 := hI.up kall fun b e => by omega
          have hlo := hI.lo
          have hz : ZID M2 U5 ⟨P.name, P.entry, P.action, P.restarts, P.inputs, P.outputs, rad, rcp, P.rs, pad, pcp, P.ps⟩ := by
            have s1 := kU1.size
            have s2 := kU2.size
            have s3 := kU3.size
            have s5 := k45.size
            have hq1 : Q < U1.heap.size := hB1.lt
            refine ⟨⟨(hseg.kept kU3 fun _ _ _ h => h).kept k45 fun hn b hb e => by have := (hblk hn b hb).1; omega, hlen, fun hn b hb => ?_⟩, ⟨hseg2.kept k45 fun hn b hb e => by have := (hblk2 hn b hb).1; omega, hlen2, fun hn b hb => ?_⟩⟩
            · have := hblk hn b hb; omega
            · have := hblk2 hn b hb; omega
          have kU2s : wz.heap.size ≤ U1.heap.size ∧ U1.heap.size ≤ U2.heap.size := ⟨kU1.size, kU2.size⟩
          have HPUT : Hid (D2 w x C R O M M2 N ys (zs ++ [⟨P.name, P.entry, P.action, P.restarts, P.inputs, P.outputs, rad, rcp, P.rs, pad, pcp, P.ps⟩]) ((((((((U5.setCell ⟨M2, K * 8, none⟩ (.string P.name)).setCell ⟨M2, K * 8 + 1, none⟩ (.int .i64 P.entry)).setCell ⟨M2, K * 8 + 2, none⟩ (.int .i64 P.action)).setCell ⟨M2, K * 8 + 3, none⟩ (.int .i64 P.restarts)).setCell ⟨M2, K * 8 + 4, none⟩ (.int .i64 P.inputs)).setCell ⟨M2, K * 8 + 5, none⟩ (.int .i64 P.outputs)).setCell ⟨M2, K * 8 + 6, none⟩ (.slice rad RL rcp)).setCell ⟨M2, K * 8 + 7, none⟩ (.slice pad QL pcp))) := by
            have := hI5.put (z := ⟨P.name, P.entry, P.action, P.restarts, P.inputs, P.outputs, rad, rcp, P.rs, pad, pcp, P.ps⟩) (P := P) (by rw [hK]; exact hP) ⟨rfl, rfl, rfl, rfl, rfl, rfl, rfl, rfl⟩ hz (K * 8) (by rw [hK]) (fun u hu b hb c hc => by
              have s2 := kU2s
              have hb1 : b < wz.heap.size := by
                rcases List.mem_append.1 hb with hb | hb
                · obtain ⟨n1, a1, e1, rfl⟩ := blk1_mem.1 hb
                  exact ((HI.out.zin u hu).1.2.2 n1 a1 e1).2
                · obtain ⟨n1, a1, e1, rfl⟩ := blk1_mem.1 hb
                  exact ((HI.out.zin u hu).2.2.2 n1 a1 e1).2
              have hc1 : wz.heap.size ≤ c := by
                rcases List.mem_append.1 hc with hc | hc
                · obtain ⟨n1, a1, e1, rfl⟩ := blk1_mem.1 hc
                  have := (hblk n1 a1 e1).1
                  omega
                · obtain ⟨n1, a1, e1, rfl⟩ := blk1_mem.1 hc
                  have := (hblk2 n1 a1 e1).1
                  omega
              omega) (fun b hb c hc => by
              obtain ⟨n1, a1, e1, rfl⟩ := blk1_mem.1 hb
              obtain ⟨n2, a2, e2, rfl⟩ := blk1_mem.1 hc
              have h1 := (hblk n1 a1 e1).2
              have h2 := (hblk2 n2 a2 e2).1
              omega)
            dsimp only at this
            rw [hRL, hQL] at this
            exact this
          have o5 : U5.cell? ⟨O, 5, none⟩ = some (.slice (some ⟨M2, 0, none⟩) PL PL) := by have := hI5.out.cell (i := 5) rfl; rw [HPL.out] at this; exact this
          have hM : ∀ i v, zP[i]? = some v → i < 8 → U5.cell? ⟨M2, K * 8 + i, none⟩ = some v := fun i v hv hi8 => hI5.row2.cell (by
            have hpl : (zs.flatMap Par.vs).length = K * 8 := by have := flat_len ePar zs; rw [hK] at this; exact this
            rw [List.getElem?_append_right (by rw [hpl]; omega), hpl, Nat.add_sub_cancel_left, zP_get _ _ (by rw [hK]; have := HPL.out; omega), Nat.mod_eq_of_lt hi8]
            exact hv)
          have r0 := hM 0 _ rfl (by omega)
          rw [Nat.add_zero] at r0
          have r1 := hM 1 _ rfl (by omega)
          have r2 := hM 2 _ rfl (by omega)
          have r3 := hM 3 _ rfl (by omega)
          have r4 := hM 4 _ rfl (by omega)
          have r5 := hM 5 _ rfl (by omega)
          have r6 := hM 6 _ rfl (by omega)
          have r7 := hM 7 _ rfl (by omega)
          have f0 := hI5.row2.frozen (K * 8)
          have f1 := hI5.row2.frozen (K * 8 + 1)
          have f2 := hI5.row2.frozen (K * 8 + 2)
          have f3 := hI5.row2.frozen (K * 8 + 3)
          have f4 := hI5.row2.frozen (K * 8 + 4)
          have f5 := hI5.row2.frozen (K * 8 + 5)
          have f6 := hI5.row2.frozen (K * 8 + 6)
          have f7 := hI5.row2.frozen (K * 8 + 7)
          have y0 := hB5.cell (i := 0) rfl
          have y1 := hB5.cell (i := 1) rfl
          have y2 := hB5.cell (i := 2) rfl
          have y3 := hB5.cell (i := 3) rfl
          have y4 := hB5.cell (i := 4) rfl
          have y5 := hB5.cell (i := 5) rfl
          have y6 := hB5.cell (i := 6) rfl
          have y7 := hB5.cell (i := 7) rfl
          clear kU2s hM hI hI5 hz hB1 hB2 hB3 hB4 hB5 k45 kall kU1 kU2 kU3 hseg hseg2 hblk hblk2 hlen hlen2 happ happ2 hPi hPi1 hPi2 hc e0 hP hRL hQL hi0 hz0 hz1 hz2 hi1 hy0 hy1 hy2 hlo
          go_upto_region 14 with fail
          rw [← hU1, ← hQ]
          clear hU1 hQ p0 p1 p2 p3 p4 p5 p6 p7 c5
          go_wp2_with (at_builtin; go_must (refine wpList_append_run rfl (.tmp 53) (.tmp 55) 34 34 rfl (Value.slice none 0 0) (.slice P.ra RL P.rc) (.slice rad RL rcp) U2 rfl rfl HAP.out ?_; refine Hid.out ?_))
          refine Hid.mkq ?_
          clear q6
          go_wp2_with (at_builtin; go_must (refine wpList_append_run rfl (.tmp 57) (.tmp 59) 35 35 rfl (Value.slice none 0 0) (.slice P.pa QL P.pc) (.slice pad QL pcp) U3 rfl rfl HAP2.out ?_; refine Hid.out ?_))
          refine Hid.mkq ?_
          clear q7
          go_upto_region 19 with fail
          rw [← hU4]
          clear hU4 z6 z6f
          go_upto_region 20 with fail
          rw [← hU5]
          clear hU5 z7 z7f
          go_wp2
          go_roundw
          case rel => exact ⟨zs ++ [⟨P.name, P.entry, P.action, P.restarts, P.inputs, P.outputs, rad, rcp, P.rs, pad, pcp, P.ps⟩], by rw [List.length_append, HK.out]; rfl, HPUT.out⟩
          case measure => simp [intOf]; omega
        · have hKL : K = PL := by omega
          obtain ⟨HL3, hHL⟩ : ∃ HL3, x.hs.length = HL3 := ⟨_, rfl⟩
          have c5 : wz.cell? ⟨C, 5, none⟩ = some (.slice x.pa PL x.pc) := by have := hI.cfg.cell (i := 5) rfl; rw [HPL.out] at this; exact this
          have c6 : wz.cell? ⟨C, 6, none⟩ = some (.slice x.ha HL3 x.hc) := by have := hI.cfg.cell (i := 6) rfl; rw [hHL] at this; exact this
          obtain ⟨i0, hi0, hz0, hz1, hz2⟩ := info_parts Tryz.inf49
          obtain ⟨had, hcp, U1, happ, hseg, hblk, hlen, kU1⟩ := copy_appD eChn plainChn 24 i0 _ 24 Tryz.underlying24 hi0 hz0 hz1 hz2 rfl x.ha x.hs x.hc hI.cin.hseg (by have := hI.cin.hlen; omega) (by have := HS.out.hs; omega)
          rw [hHL] at happ
          have HAP : Hid (∀ ty, (Builtin.append_ #[24, 24] ty #[.slice none 0 0, .slice x.ha HL3 x.hc]).run Tryz.prog wz = .ok (.slice had HL3 hcp) U1) := happ
          have hI1 : D2 w x C R O M M2 N ys zs U1 := hI.up kU1 fun _ h => h.elim
          have o6 := hI1.out.cell (i := 6) rfl
          have o6f := hI1.out.frozen 6
          rw [hHL] at o6
          obtain ⟨U2, hU2⟩ : ∃ U2, U2 = U1.setCell ⟨O, 6, none⟩ (.slice had HL3 hcp) := ⟨_, rfl⟩
          have kU2 : Keeps (fun k => k = O) U1 U2 := by rw [hU2]; exact (Keeps.refl _ _).setCell ⟨O, 6, none⟩ _ fun _ => rfl
          have hBO : Blk U2 O [.int .i64 x.frames, .int .i64 x.major, .int .i64 x.kernel, .int .i64 x.room, .slice (some ⟨M, 0, none⟩) L L, .slice (some ⟨M2, 0, none⟩) PL PL, .slice had HL3 hcp] 26 := by
            have := hI1.out.setCell 6 (.slice had HL3 hcp)
            rw [← hU2, HL.out, HPL.out] at this
            exact this
          have hlo := hI1.lo
          have hBR := hI1.res.kept kU2 (by omega)
          have y0 := hBO.cell (i := 0) rfl
          have y1 := hBO.cell (i := 1) rfl
          have y2 := hBO.cell (i := 2) rfl
          have y3 := hBO.cell (i := 3) rfl
          have y4 := hBO.cell (i := 4) rfl
          have y5 := hBO.cell (i := 5) rfl
          have y6 := hBO.cell (i := 6) rfl
          have r0 := hBR.cell (i := 0) rfl
          have r1 := hBR.cell (i := 1) rfl
          have r2 := hBR.cell (i := 2) rfl
          have r3 := hBR.cell (i := 3) rfl
          have r4 := hBR.cell (i := 4) rfl
          have r5 := hBR.cell (i := 5) rfl
          have r6 := hBR.cell (i := 6) rfl
          have f0 := hBR.frozen 0
          have f1 := hBR.frozen 1
          have f2 := hBR.frozen 2
          have f3 := hBR.frozen 3
          have f4 := hBR.frozen 4
          have f5 := hBR.frozen 5
          have f6 := hBR.frozen 6
          obtain ⟨U3, hU3⟩ : ∃ U3, U3 = (((((((U2.setCell ⟨R, 0, none⟩ (.int .i64 x.frames)).setCell ⟨R, 1, none⟩ (.int .i64 x.major)).setCell ⟨R, 2, none⟩ (.int .i64 x.kernel)).setCell ⟨R, 3, none⟩ (.int .i64 x.room)).setCell ⟨R, 4, none⟩ (.slice (some ⟨M, 0, none⟩) L L)).setCell ⟨R, 5, none⟩ (.slice (some ⟨M2, 0, none⟩) PL PL)).setCell ⟨R, 6, none⟩ (.slice had HL3 hcp)) := ⟨_, rfl⟩
          have hB3 : Blk U3 R [.int .i64 x.frames, .int .i64 x.major, .int .i64 x.kernel, .int .i64 x.room, .slice (some ⟨M, 0, none⟩) L L, .slice (some ⟨M2, 0, none⟩) PL PL, .slice had HL3 hcp] 26 := by
            have b1 := hBR.setCell 0 (.int .i64 x.frames)
            have b2 := b1.setCell 1 (.int .i64 x.major)
            have b3 := b2.setCell 2 (.int .i64 x.kernel)
            have b4 := b3.setCell 3 (.int .i64 x.room)
            have b5 := b4.setCell 4 (.slice (some ⟨M, 0, none⟩) L L)
            have b6 := b5.setCell 5 (.slice (some ⟨M2, 0, none⟩) PL PL)
            have b7 := b6.setCell 6 (.slice had HL3 hcp)
            rw [← hU3] at b7
            exact b7
          have kU3 : Keeps (fun k => k = R) U2 U3 := by
            have a1 := (Keeps.refl (fun k => k = R) U2).setCell ⟨R, 0, none⟩ (.int .i64 x.frames) fun _ => rfl
            have a2 := a1.setCell ⟨R, 1, none⟩ (.int .i64 x.major) fun _ => rfl
            have a3 := a2.setCell ⟨R, 2, none⟩ (.int .i64 x.kernel) fun _ => rfl
            have a4 := a3.setCell ⟨R, 3, none⟩ (.int .i64 x.room) fun _ => rfl
            have a5 := a4.setCell ⟨R, 4, none⟩ (.slice (some ⟨M, 0, none⟩) L L) fun _ => rfl
            have a6 := a5.setCell ⟨R, 5, none⟩ (.slice (some ⟨M2, 0, none⟩) PL PL) fun _ => rfl
            have a7 := a6.setCell ⟨R, 6, none⟩ (.slice had HL3 hcp) fun _ => rfl
            rw [← hU3] at a7
            exact a7
          have HB3 : Hid (Blk U3 R [.int .i64 x.frames, .int .i64 x.major, .int .i64 x.kernel, .int .i64 x.room, .slice (some ⟨M, 0, none⟩) L L, .slice (some ⟨M2, 0, none⟩) PL PL, .slice had HL3 hcp] 26) := hB3
          have HFIN : Hid (CopD x w (.returned (.agg #[.int .i64 x.frames, .int .i64 x.major, .int .i64 x.kernel, .int .i64 x.room, .slice (some ⟨M, 0, none⟩) L L, .slice (some ⟨M2, 0, none⟩) PL PL, .slice had HL3 hcp])) U3) := by
            have hyl : ys.length = L := by have := congrArg List.length hI1.eqv; simp at this; rw [this]; exact HL.out
            have hzl : zs.length = PL := by rw [hK, hKL]
            have ks : Keeps (fun k => k = O ∨ k = R) U1 U3 := (kU2.mono fun _ _ h => .inl h).trans kU3 fun _ _ h => .inr h
            have s3 := ks.size
            have hwf : ∀ y ∈ ys, ∀ u ∈ y.ws, u.Fine := by
              intro y hy u hu
              have : y.ws ∈ x.cs.map (·.ws) := by rw [← hI1.eqv]; exact List.mem_map.2 ⟨y, hy, rfl⟩
              obtain ⟨X, hX, e⟩ := List.mem_map.1 this
              exact (hI1.cin.cin X hX).fine u (by rw [e]; exact hu)
            have hzq : ∀ z ∈ zs, ∃ P ∈ x.ps, z.Eqv P := by
              intro z hz
              obtain ⟨j, hj⟩ := List.getElem?_of_mem hz
              have hjl := (List.getElem?_eq_some_iff.1 hj).1
              obtain ⟨P, hP⟩ : ∃ P, x.ps[j]? = some P := ⟨_, List.getElem?_eq_getElem (by have := HPL.out; omega)⟩
              exact ⟨P, List.mem_of_getElem? hP, hI1.eqv2 j z P hj hP⟩
            have row := (hI1.row.kept ks (by omega))
            have row2 := (hI1.row2.kept ks (by omega))
            rw [show x.ps.length - zs.length = 0 by rw [hzl]; have := HPL.out; omega] at row2
            simp only [List.replicate_zero, List.flatten_nil, List.append_nil] at row2
            have rlt := row.lt
            have r2lt := row2.lt
            refine ⟨⟨x.frames, x.major, x.kernel, x.room, some ⟨M, 0, none⟩, L, ys, some ⟨M2, 0, none⟩, PL, zs, had, hcp, x.hs⟩, M, M2, wz.heap.size, ?_, ⟨rfl, rfl, rfl, rfl, hI1.eqv, by rw [hzl]; exact HPL.out.symm, hI1.eqv2, rfl⟩, ?_, ?_, ?_⟩
            · simp only [Cfg.v, hyl, hzl, hHL]
            · refine ⟨?_, fun _ y hy => by cases hy; exact rlt, ⟨Nat.le_of_eq hyl, ?_⟩, fun y hy => ?_, ?_, fun _ y hy => by cases hy; exact r2lt, ⟨Nat.le_of_eq hzl, ?_⟩, fun z hz => ?_, (Lod.seg (hseg.kept ks fun hn b hb e => by have := hblk hn b hb; have := hI.lo; omega)), fun hn b hb => by have := hblk hn b hb; omega, hlen, hI1.cin.hfine, hI1.cin.ns⟩
              · exact seg_blk' eCore (xs := ys) (t := 43) (by rw [show ys.flatMap eCore.vs = ys.map Core.v from flat_core ys]; exact row)
              · show L ≤ maxLen; have := hI1.cin.clen; have := HL.out; omega
              · have h1 := hI1.yin y hy
                exact ⟨Lod.seg (h1.1.kept ks fun hn b hb e => by have := h1.2.2 hn b hb; omega), fun hn b hb => by have := h1.2.2 hn b hb; omega, h1.2.1, hwf y hy⟩
              · exact seg_blk' ePar (xs := zs) row2
              · show PL ≤ maxLen; have := hI1.cin.plen; have := HPL.out; omega
              · have h1 := (hI1.zin z hz).kept ks (fun b e => .inl (by omega))
                obtain ⟨P, hP, e1, e2, e3, e4, e5, e6, e7, e8⟩ := hzq z hz
                have hPi := hI1.cin.pin P hP
                refine ⟨h1.1.1.seg, fun hn b hb => (h1.1.2.2 hn b hb).2, h1.1.2.1, by rw [e7]; exact hPi.rfine, h1.2.1.seg, fun hn b hb => (h1.2.2.2 hn b hb).2, h1.2.2.1, by rw [e8]; exact hPi.pfine, ?_, by rw [e1]; exact hPi.name⟩
                unfold Par.ns
                rw [e2, e3, e4, e5, e6]
                exact hPi.ns
            · refine ⟨rfl, rfl, hyl.symm, hzl.symm, row, row2, fun y hy => ⟨(hI1.yin y hy).1.kept ks fun hn b hb e => by have := (hI1.yin y hy).2.2 hn b hb; omega, fun b hb => ?_⟩, fun z hz => ⟨((hI1.zin z hz).kept ks (fun b e => .inl (by omega))).1.1, ((hI1.zin z hz).kept ks (fun b e => .inl (by omega))).2.1, fun b hb => ?_⟩, hI1.ord, hI1.zord, hI1.zself, fun b hb => ?_, hlo.2.2.2.2.1, hI.lo.2.2.2.2.2⟩
              · obtain ⟨n1, a1, e1, rfl⟩ := blk1_mem.1 hb
                exact (hI1.yin y hy).2.2 n1 a1 e1
              · rcases List.mem_append.1 hb with hb | hb
                · obtain ⟨n1, a1, e1, rfl⟩ := blk1_mem.1 hb
                  exact (hI.zin z hz).1.2.2 n1 a1 e1
                · obtain ⟨n1, a1, e1, rfl⟩ := blk1_mem.1 hb
                  exact (hI.zin z hz).2.2.2 n1 a1 e1
              · obtain ⟨n1, a1, e1, rfl⟩ := blk1_mem.1 hb
                exact (hblk n1 a1 e1).1
            · exact ⟨⟨by omega, by have := kU1.size; omega⟩, hI1.keeps.trans ks fun b hb e => by omega⟩
          clear hI hI1 hseg hblk hlen kU1 kU2 kU3 hB3 hBO hBR hlo happ hHL hi0 hz0 hz1 hz2
          go_wp2_with (at_builtin; go_must (refine wpList_append_run rfl (.tmp 70) (.tmp 72) 24 24 rfl (Value.slice none 0 0) (.slice x.ha HL3 x.hc) (.slice had HL3 hcp) U1 rfl rfl HAP.out ?_; refine Hid.out ?_))
          refine Hid.mkq ?_
          clear c5 c6
          go_upto_region 24 with fail
          rw [← hU2]
          clear hU2 o6 o6f
          go_wp2
          rw [← hU3]
          (try simp only [Exit.inBlock, Exit.then])
          refine bodyPost_ret (results_cell_row rfl _ _ R 26 _ (0, 0) _ rfl HB3.out Tryz.underlying26 rfl (by kernel_rfl)) rfl ?_
          exact HFIN.out
end Go.Proofs.YtgookbkaacidpaaGreat
namespace Go.Proofs.YtgookbkaacidpaaGreat
open Go.RowKit
set_option linter.unusedVariables false
set_option linter.unusedSimpArgs false
set_option maxRecDepth 6000

theorem swap_perm {α : Type} [DecidableEq α] (l : List α) (a b : Nat) (u v : α) (ha : l[a]? = some u) (hb : l[b]? = some v) : ((l.set a v).set b u).Perm l := by
  obtain ⟨ha1, ha2⟩ := List.getElem?_eq_some_iff.1 ha
  obtain ⟨hb1, hb2⟩ := List.getElem?_eq_some_iff.1 hb
  rw [List.perm_iff_count]
  intro z
  have hl : (l.set a v).length = l.length := List.length_set
  have e1 : (l.set a v)[b]'(by omega) = v := by
    rw [List.getElem_set]
    split
    · rfl
    · exact hb2
  rw [List.count_set (by omega), e1, List.count_set ha1, ha2]
  have hpos : (u == z) = true → 1 ≤ l.count z := fun h => by
    have : u = z := by simpa using h
    subst this
    exact List.count_pos_iff.2 (List.mem_of_getElem? ha)
  cases h1 : (u == z) <;> cases h2 : (v == z) <;> simp <;> (try have := hpos h1) <;> omega
theorem flat_set {α : Type} (E : Elem α) (ls : List α) (junk : List Value) (a : Nat) (v : α) (ha : a < ls.length) :
    (ls.flatMap E.vs ++ junk).take (a * E.k) ++ E.vs v ++ (ls.flatMap E.vs ++ junk).drop (a * E.k + (E.vs v).length) = (ls.set a v).flatMap E.vs ++ junk := by
  rw [E.len]
  induction ls generalizing a with
  | nil => simp at ha
  | cons x ls ih =>
    cases a with
    | zero =>
      simp only [Nat.zero_mul, List.take_zero, List.nil_append, Nat.zero_add, List.set_cons_zero, List.flatMap_cons, List.append_assoc]
      rw [List.drop_append_of_le_length (by rw [E.len]; omega), List.drop_of_length_le (by rw [E.len]; omega)]
      simp
    | succ a =>
      have := ih a (by simpa using ha)
      simp only [List.set_cons_succ, List.flatMap_cons, List.append_assoc] at this ⊢
      rw [← this, Nat.add_mul, Nat.one_mul, Nat.add_comm (a * E.k) E.k, Nat.add_assoc, List.take_append, List.take_of_length_le (l := E.vs x) (by rw [E.len]; omega), E.len, Nat.add_sub_cancel_left, List.drop_append, List.drop_of_length_le (l := E.vs x) (by rw [E.len]; omega), E.len, Nat.add_sub_cancel_left]
      simp
      congr 1
      omega
theorem flatMap_set_same {α : Type} (f : α → List Value) (l : List α) (p : Nat) (z z' : α) (hz : l[p]? = some z) (hf : f z' = f z) : (l.set p z').flatMap f = l.flatMap f := by
  have : (l.set p z').map f = l.map f := by
    apply List.ext_getElem?
    intro i
    rw [List.getElem?_map, List.getElem?_map, List.getElem?_set]
    by_cases e : p = i
    · subst e
      rw [if_pos rfl, if_pos (List.getElem?_eq_some_iff.1 hz).1, hz]
      simp [hf]
    · rw [if_neg e]
  rw [List.flatMap_def, List.flatMap_def, this]
theorem map_set_same {α β : Type} (f : α → β) (l : List α) (p : Nat) (z z' : α) (hz : l[p]? = some z) (hf : f z' = f z) : (l.set p z').map f = l.map f := by
  apply List.ext_getElem?
  intro i
  rw [List.getElem?_map, List.getElem?_map, List.getElem?_set]
  by_cases e : p = i
  · subst e
    rw [if_pos rfl, if_pos (List.getElem?_eq_some_iff.1 hz).1, hz]
    simp [hf]
  · rw [if_neg e]
theorem set_get {α : Type} {l : List α} {p i : Nat} {z' u : α} (h : (l.set p z')[i]? = some u) : (i = p ∧ u = z') ∨ (i ≠ p ∧ l[i]? = some u) := by
  rw [List.getElem?_set] at h
  by_cases e : p = i
  · subst e
    rw [if_pos rfl] at h
    split at h
    · cases h; exact .inl ⟨rfl, rfl⟩
    · cases h
  · rw [if_neg e] at h
    exact .inr ⟨fun h => e h.symm, h⟩
/-- A partition with its regions in another order; a core with its windows so. -/
def Par.wr (z : Par) (rs : List Rgn) : Par := { z with rs := rs }
def Core.ww (X : Core) (ws : List Win) : Core := { X with ws := ws }
def Cfg.sp (y : Cfg) (p : Nat) (z : Par) : Cfg := { y with ps := y.ps.set p z }
def Cfg.sc (y : Cfg) (i : Nat) (X : Core) : Cfg := { y with cs := y.cs.set i X }
theorem blk1_len {β γ : Type} {a : Option Addr} {l : List β} {l' : List γ} (h : l'.length = l.length) : blk1 a l' = blk1 a l := by
  unfold blk1
  cases a with
  | none => rfl
  | some y =>
    cases l <;> cases l' <;> simp_all
theorem Par.wr_bl {z : Par} {rs : List Rgn} (h : rs.length = z.rs.length) : (z.wr rs).bl = z.bl := by
  unfold Par.bl Par.wr
  rw [blk1_len h]
theorem Own.swapR {M M2 K g p : Nat} {y : Cfg} {w w' : World} {z : Par} {rs : List Rgn} {junk : List Value} (h : Own M M2 K y w) (hz : y.ps[p]? = some z) (hl : rs.length = z.rs.length) (hn : z.rs ≠ []) (hg : z.ra = some ⟨g, 0, none⟩) (k : Keeps (fun b => b = g) w w') (hb : Blk w' g (rs.flatMap Rgn.vs ++ junk) 39) :
    Own M M2 K (y.sp p (z.wr rs)) w' := by
  have hgm : g ∈ blk1 z.ra z.rs := blk1_mem.2 ⟨hn, _, hg, rfl⟩
  have hgb : g ∈ z.bl := List.mem_append_left _ hgm
  have hgl := (h.reg z (List.mem_of_getElem? hz)).2.2 g hgb
  have hlo := h.lo
  have hne : ∀ (q : Nat) (u : Par), q ≠ p → y.ps[q]? = some u → ∀ b ∈ u.bl, b ≠ g := fun q u hq hu b hb => by
    rcases Nat.lt_or_ge q p with h1 | h1
    · have := h.zord q p u z h1 hu hz b hb g hgb; omega
    · have := h.zord p q z u (by omega) hz hu g hgb b hb; omega
  have hbl := Par.wr_bl (z := z) hl
  refine ⟨h.ca, h.pa, h.cc, by show y.pc = (y.ps.set p _).length; rw [List.length_set]; exact h.pc, h.row.kept k (by omega), ?_, fun X hX => ⟨(h.win X hX).1.kept k fun hn b hb e => by have := (h.win X hX).2 b.block (blk1_mem.2 ⟨hn, b, hb, rfl⟩); omega, (h.win X hX).2⟩, fun u hu => ?_, h.ord, fun i j u u' hij hu hu' => ?_, fun u hu => ?_, h.hb, hlo, h.kh⟩
  · show Blk w' M2 ((y.ps.set p (z.wr rs)).flatMap Par.vs) 37
    rw [flatMap_set_same Par.vs y.ps p z _ hz (by unfold Par.wr Par.vs; dsimp only; rw [hl])]
    exact h.row2.kept k (by omega)
  · obtain ⟨q, hq⟩ := List.getElem?_of_mem hu
    rcases set_get hq with ⟨rfl, rfl⟩ | ⟨hqp, hq⟩
    · have hz' := h.reg z (List.mem_of_getElem? hz)
      refine ⟨.inr ⟨g, junk, hg, hb⟩, hz'.2.1.kept k fun hn b hb e => ?_, fun b hb => by rw [hbl] at hb; exact hz'.2.2 b hb⟩
      have := h.zself z (List.mem_of_getElem? hz) g hgm b.block (blk1_mem.2 ⟨hn, b, hb, rfl⟩)
      omega
    · have hu' := h.reg u (List.mem_of_getElem? hq)
      exact ⟨hu'.1.kept k fun hn b hb e => hne q u hqp hq b.block (List.mem_append_left _ (blk1_mem.2 ⟨hn, b, hb, rfl⟩)) e, hu'.2.1.kept k fun hn b hb e => hne q u hqp hq b.block (List.mem_append_right _ (blk1_mem.2 ⟨hn, b, hb, rfl⟩)) e, hu'.2.2⟩
  · have key : ∀ (q : Nat) (v : Par), (y.ps.set p (z.wr rs))[q]? = some v → ∃ v0, y.ps[q]? = some v0 ∧ v.bl = v0.bl := fun q v hv => by
      rcases set_get hv with ⟨rfl, rfl⟩ | ⟨_, hv⟩
      · exact ⟨z, hz, hbl⟩
      · exact ⟨v, hv, rfl⟩
    obtain ⟨v, hv, ev⟩ := key i u hu
    obtain ⟨v', hv', ev'⟩ := key j u' hu'
    rw [ev, ev']
    exact h.zord i j v v' hij hv hv'
  · obtain ⟨q, hq⟩ := List.getElem?_of_mem hu
    rcases set_get hq with ⟨rfl, rfl⟩ | ⟨_, hq⟩
    · have := h.zself z (List.mem_of_getElem? hz)
      unfold Par.wr
      dsimp only
      rw [blk1_len hl]
      exact this
    · exact h.zself u (List.mem_of_getElem? hq)
theorem Own.swapW {M M2 K g p : Nat} {y : Cfg} {w w' : World} {X : Core} {ws : List Win} {junk : List Value} (h : Own M M2 K y w) (hX : y.cs[p]? = some X) (hl : ws.length = X.ws.length) (hn : X.ws ≠ []) (hg : X.a = some ⟨g, 0, none⟩) (k : Keeps (fun b => b = g) w w') (hb : Blk w' g (ws.flatMap Win.vs ++ junk) 45) :
    Own M M2 K (y.sc p (X.ww ws)) w' := by
  have hgm : g ∈ blk1 X.a X.ws := blk1_mem.2 ⟨hn, _, hg, rfl⟩
  have hgl := (h.win X (List.mem_of_getElem? hX)).2 g hgm
  have hlo := h.lo
  have hbl : blk1 (X.ww ws).a (X.ww ws).ws = blk1 X.a X.ws := blk1_len hl
  refine ⟨h.ca, h.pa, by show y.cc = (y.cs.set p _).length; rw [List.length_set]; exact h.cc, h.pc, ?_, h.row2.kept k (by omega), fun U hU => ?_, fun z hz => ?_, fun i j u u' hij hu hu' => ?_, h.zord, h.zself, h.hb, hlo, h.kh⟩
  · show Blk w' M ((y.cs.set p (X.ww ws)).map Core.v) 43
    rw [map_set_same Core.v y.cs p X _ hX (by unfold Core.ww Core.v; dsimp only; rw [hl])]
    exact h.row.kept k (by omega)
  · obtain ⟨q, hq⟩ := List.getElem?_of_mem hU
    rcases set_get hq with ⟨rfl, rfl⟩ | ⟨hqp, hq⟩
    · exact ⟨.inr ⟨g, junk, hg, hb⟩, fun b hb => by rw [hbl] at hb; exact (h.win X (List.mem_of_getElem? hX)).2 b hb⟩
    · have hu' := h.win U (List.mem_of_getElem? hq)
      refine ⟨hu'.1.kept k fun hn b hb e => ?_, hu'.2⟩
      have hb' : b.block ∈ blk1 U.a U.ws := blk1_mem.2 ⟨hn, b, hb, rfl⟩
      rcases Nat.lt_or_ge q p with h1 | h1
      · have := h.ord q p U X h1 hq hX _ hb' g hgm; omega
      · have := h.ord p q X U (by omega) hX hq g hgm _ hb'; omega
  · have hz' := h.reg z hz
    exact ⟨hz'.1.kept k fun hn b hb e => by have := hz'.2.2 b.block (List.mem_append_left _ (blk1_mem.2 ⟨hn, b, hb, rfl⟩)); omega, hz'.2.1.kept k fun hn b hb e => by have := hz'.2.2 b.block (List.mem_append_right _ (blk1_mem.2 ⟨hn, b, hb, rfl⟩)); omega, hz'.2.2⟩
  · have key : ∀ (q : Nat) (v : Core), (y.cs.set p (X.ww ws))[q]? = some v → ∃ v0, y.cs[q]? = some v0 ∧ blk1 v.a v.ws = blk1 v0.a v0.ws := fun q v hv => by
      rcases set_get hv with ⟨rfl, rfl⟩ | ⟨_, hv⟩
      · exact ⟨X, hX, hbl⟩
      · exact ⟨v, hv, rfl⟩
    obtain ⟨v, hv, ev⟩ := key i u hu
    obtain ⟨v', hv', ev'⟩ := key j u' hu'
    rw [ev, ev']
    exact h.ord i j v v' hij hv hv'
end Go.Proofs.YtgookbkaacidpaaGreat
namespace Go.Proofs.YtgookbkaacidpaaGreat
open Go.RowKit
set_option linter.unusedVariables false
set_option linter.unusedSimpArgs false
set_option maxRecDepth 6000

/-- What holds of a configuration wherever it lies. -/
structure Rst (y : Cfg) : Prop where
  cl : ∀ X ∈ y.cs, (X.ws.length ≤ X.c ∧ X.c ≤ maxLen) ∧ ∀ u ∈ X.ws, u.Fine
  rl : ∀ z ∈ y.ps, (z.rs.length ≤ z.rc ∧ z.rc ≤ maxLen) ∧ ∀ u ∈ z.rs, u.Fine
  pl : ∀ z ∈ y.ps, ((z.ps.length ≤ z.pc ∧ z.pc ≤ maxLen) ∧ ∀ u ∈ z.ps, u.Fine) ∧ (∀ n ∈ z.ns, I64 n) ∧ z.name.size ≤ 9223372036854775807
  cc : y.cc ≤ maxLen
  pc : y.pc ≤ maxLen
  hl : y.hs.length ≤ y.hc ∧ y.hc ≤ maxLen
  hf : ∀ u ∈ y.hs, u.Fine
  ns : ∀ n ∈ y.ns, I64 n
theorem Cfg.In.rst {y : Cfg} {w : World} {N : Nat} (h : y.In w N) : Rst y :=
  ⟨fun X hX => ⟨(h.cin X hX).len, (h.cin X hX).fine⟩, fun z hz => ⟨(h.pin z hz).rlen, (h.pin z hz).rfine⟩, fun z hz => ⟨⟨(h.pin z hz).plen, (h.pin z hz).pfine⟩, (h.pin z hz).ns, (h.pin z hz).name⟩, h.clen.2, h.plen.2, h.hlen, h.hfine, h.ns⟩
theorem Own.toIn {M M2 K : Nat} {y : Cfg} {w : World} (h : Own M M2 K y w) (r : Rst y) (hs : SegA Chn.vs 3 w y.ha y.hs) (hK : K ≤ w.heap.size) : y.In w w.heap.size := by
  have hr2 := h.row2.lt
  have hr := h.row.lt
  refine ⟨?_, fun _ b hb => by rw [h.ca] at hb; cases hb; exact hr, ⟨Nat.le_of_eq h.cc.symm, r.cc⟩, fun X hX => ⟨(h.win X hX).1.seg, fun hn b hb => ?_, (r.cl X hX).1, (r.cl X hX).2⟩, ?_, fun _ b hb => by rw [h.pa] at hb; cases hb; exact hr2, ⟨Nat.le_of_eq h.pc.symm, r.pc⟩, fun z hz => ⟨(h.reg z hz).1.seg, fun hn b hb => ?_, (r.rl z hz).1, (r.rl z hz).2, (h.reg z hz).2.1.seg, fun hn b hb => ?_, (r.pl z hz).1.1, (r.pl z hz).1.2, (r.pl z hz).2.1, (r.pl z hz).2.2⟩, hs, fun hn b hb => segA_lt hs (fun _ => by simp) hn b hb, r.hl, r.hf, r.ns⟩
  · rw [h.ca]
    exact seg_blk' eCore (xs := y.cs) (t := 43) (by rw [show y.cs.flatMap eCore.vs = y.cs.map Core.v from flat_core y.cs]; exact h.row)
  · have := (h.win X hX).2 b.block (blk1_mem.2 ⟨hn, b, hb, rfl⟩); omega
  · rw [h.pa]
    exact seg_blk' ePar (xs := y.ps) h.row2
  · have := (h.reg z hz).2.2 b.block (List.mem_append_left _ (blk1_mem.2 ⟨hn, b, hb, rfl⟩)); omega
  · have := (h.reg z hz).2.2 b.block (List.mem_append_right _ (blk1_mem.2 ⟨hn, b, hb, rfl⟩)); omega
theorem Rst.swapR {y : Cfg} (r : Rst y) {p : Nat} {z : Par} {rs : List Rgn} (hz : y.ps[p]? = some z) (hp : rs.Perm z.rs) : Rst (y.sp p (z.wr rs)) := by
  have hm := List.mem_of_getElem? hz
  refine ⟨r.cl, fun u hu => ?_, fun u hu => ?_, r.cc, r.pc, r.hl, r.hf, r.ns⟩
  · obtain ⟨q, hq⟩ := List.getElem?_of_mem hu
    rcases set_get hq with ⟨rfl, rfl⟩ | ⟨_, hq⟩
    · exact ⟨by show rs.length ≤ _ ∧ _; rw [hp.length_eq]; exact (r.rl z hm).1, fun u hu => (r.rl z hm).2 u (hp.mem_iff.1 hu)⟩
    · exact r.rl u (List.mem_of_getElem? hq)
  · obtain ⟨q, hq⟩ := List.getElem?_of_mem hu
    rcases set_get hq with ⟨rfl, rfl⟩ | ⟨_, hq⟩
    · exact r.pl z hm
    · exact r.pl u (List.mem_of_getElem? hq)
theorem Rst.swapW {y : Cfg} (r : Rst y) {p : Nat} {X : Core} {ws : List Win} (hX : y.cs[p]? = some X) (hp : ws.Perm X.ws) : Rst (y.sc p (X.ww ws)) := by
  have hm := List.mem_of_getElem? hX
  refine ⟨fun u hu => ?_, r.rl, r.pl, r.cc, r.pc, r.hl, r.hf, r.ns⟩
  obtain ⟨q, hq⟩ := List.getElem?_of_mem hu
  rcases set_get hq with ⟨rfl, rfl⟩ | ⟨_, hq⟩
  · exact ⟨by show ws.length ≤ _ ∧ _; rw [hp.length_eq]; exact (r.cl X hm).1, fun u hu => (r.cl X hm).2 u (hp.mem_iff.1 hu)⟩
  · exact r.cl u (List.mem_of_getElem? hq)
theorem Cfg.Rel.swapR {x y : Cfg} (h : x.Rel y) {p : Nat} {z : Par} {rs : List Rgn} (hz : y.ps[p]? = some z) (hp : rs.Perm z.rs) : x.Rel (y.sp p (z.wr rs)) := by
  refine ⟨h.frames, h.major, h.kernel, h.room, h.clen, h.cs, by show (y.ps.set p _).length = _; rw [List.length_set]; exact h.plen, fun j P Q hP hQ => ?_, h.hs⟩
  rcases set_get hQ with ⟨rfl, rfl⟩ | ⟨_, hq⟩
  · have r := h.ps _ P z hP hz
    exact ⟨r.name, r.entry, r.action, r.restarts, r.inputs, r.outputs, hp.trans r.rs, r.ps⟩
  · exact h.ps j P Q hP hq
theorem Cfg.Rel.swapW {x y : Cfg} (h : x.Rel y) {p : Nat} {X : Core} {ws : List Win} (hX : y.cs[p]? = some X) (hp : ws.Perm X.ws) : x.Rel (y.sc p (X.ww ws)) := by
  refine ⟨h.frames, h.major, h.kernel, h.room, by show (y.cs.set p _).length = _; rw [List.length_set]; exact h.clen, fun j P Q hP hQ => ?_, h.plen, h.ps, h.hs⟩
  rcases set_get hQ with ⟨rfl, rfl⟩ | ⟨_, hq⟩
  · exact hp.trans (h.cs _ P X hP hX)
  · exact h.cs j P Q hP hq
/-- While two of each list change places. -/
structure St (w : World) (x x2 : Cfg) (C B M M2 K N : Nat) (y : Cfg) (w' : World) : Prop where
  one : One w x C N w'
  box : Blk w' B y.vs 26
  own : Own M M2 K y w'
  rst : Rst y
  hs : SegA Chn.vs 3 w' y.ha y.hs
  rel : x2.Rel y
  lo : C < M ∧ K ≤ B
theorem St.kept {w : World} {x x2 : Cfg} {C B M M2 K N : Nat} {y : Cfg} {w' w'' : World} (h : St w x x2 C B M M2 K N y w') (k : Keeps (fun _ => False) w' w'') : St w x x2 C B M M2 K N y w'' := by
  have o := h.own
  exact ⟨h.one.kept k, h.box.kept k fun h => h, ⟨o.ca, o.pa, o.cc, o.pc, o.row.kept k fun h => h, o.row2.kept k fun h => h, fun X hX => ⟨(o.win X hX).1.kept k fun _ _ _ h => h, (o.win X hX).2⟩, fun z hz => ⟨(o.reg z hz).1.kept k fun _ _ _ h => h, (o.reg z hz).2.1.kept k fun _ _ _ h => h, (o.reg z hz).2.2⟩, o.ord, o.zord, o.zself, o.hb, o.lo, o.kh⟩, h.rst, h.hs.kept k fun _ _ _ h => h, h.rel, h.lo⟩
theorem St.nn {w : World} {x x2 : Cfg} {C B M M2 K N : Nat} {y : Cfg} {w' : World} (h : St w x x2 C B M M2 K N y w') : y.In w' w'.heap.size := h.own.toIn h.rst h.hs (Nat.le_trans h.lo.2 (Nat.le_of_lt h.box.lt))
theorem St.swapR {w : World} {x x2 : Cfg} {C B M M2 K N : Nat} {y : Cfg} {w' w'' : World} (h : St w x x2 C B M M2 K N y w') {g p : Nat} {z : Par} {rs : List Rgn} {junk : List Value} (hz : y.ps[p]? = some z) (hp : rs.Perm z.rs) (hn : z.rs ≠ []) (hg : z.ra = some ⟨g, 0, none⟩) (k : Keeps (fun b => b = g) w' w'') (hb : Blk w'' g (rs.flatMap Rgn.vs ++ junk) 39) :
    St w x x2 C B M M2 K N (y.sp p (z.wr rs)) w'' := by
  have hgb : g ∈ z.bl := List.mem_append_left _ (blk1_mem.2 ⟨hn, _, hg, rfl⟩)
  have hgl := (h.own.reg z (List.mem_of_getElem? hz)).2.2 g hgb
  have hlo := h.lo
  have hl1 := h.own.lo
  have hl2 := h.own.kh
  have hC := h.one.lo
  have hN := h.one.n
  refine ⟨h.one.kept' k (by omega) (fun b e => by omega) (fun b e => by omega), ?_, h.own.swapR hz hp.length_eq hn hg k hb, h.rst.swapR hz hp, h.hs.kept k fun hn b hb e => by have := h.own.hb b.block (blk1_mem.2 ⟨hn, b, hb, rfl⟩); omega, h.rel.swapR hz hp, hlo⟩
  have : (y.sp p (z.wr rs)).vs = y.vs := by unfold Cfg.vs Cfg.sp; dsimp only; rw [List.length_set]
  rw [this]
  exact h.box.kept k (by omega)
theorem St.swapW {w : World} {x x2 : Cfg} {C B M M2 K N : Nat} {y : Cfg} {w' w'' : World} (h : St w x x2 C B M M2 K N y w') {g p : Nat} {X : Core} {ws : List Win} {junk : List Value} (hX : y.cs[p]? = some X) (hp : ws.Perm X.ws) (hn : X.ws ≠ []) (hg : X.a = some ⟨g, 0, none⟩) (k : Keeps (fun b => b = g) w' w'') (hb : Blk w'' g (ws.flatMap Win.vs ++ junk) 45) :
    St w x x2 C B M M2 K N (y.sc p (X.ww ws)) w'' := by
  have hgl := (h.own.win X (List.mem_of_getElem? hX)).2 g (blk1_mem.2 ⟨hn, _, hg, rfl⟩)
  have hlo := h.lo
  have hl1 := h.own.lo
  have hl2 := h.own.kh
  have hC := h.one.lo
  have hN := h.one.n
  refine ⟨h.one.kept' k (by omega) (fun b e => by omega) (fun b e => by omega), ?_, h.own.swapW hX hp.length_eq hn hg k hb, h.rst.swapW hX hp, h.hs.kept k fun hn b hb e => ?_, h.rel.swapW hX hp, hlo⟩
  · have : (y.sc p (X.ww ws)).vs = y.vs := by unfold Cfg.vs Cfg.sc; dsimp only; rw [List.length_set]
    rw [this]
    exact h.box.kept k (by omega)
  · have h1 := h.own.hb b.block (blk1_mem.2 ⟨hn, b, hb, rfl⟩)
    have h2 := h.own.kh
    omega
end Go.Proofs.YtgookbkaacidpaaGreat
