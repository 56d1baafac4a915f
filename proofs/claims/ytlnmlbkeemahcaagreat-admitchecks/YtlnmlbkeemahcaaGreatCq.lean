import Derived.Test.YtlnmlbkeemahcaaGreatGd
namespace Go.Proofs.YtlnmlbkeemahcaaGreat
open Go.RowKit
set_option linter.unusedVariables false
set_option linter.unusedSimpArgs false
set_option maxRecDepth 6000
theorem flat_cell {α : Type} (E : Elem α) {w : World} {g o : Nat} {ls : List α} (hs : ∀ j x, ls[j]? = some x → ∀ i v, (E.vs x)[i]? = some v → w.cell? ⟨g, o + j * E.k + i, none⟩ = some v) {j : Nat} {u : Value} (hj : (ls.flatMap E.vs)[j]? = some u) : w.cell? ⟨g, o + j, none⟩ = some u := by
 have hlt := (List.getElem?_eq_some_iff.1 hj).1
 rw [flat_len] at hlt
 have hk := E.pos
 have hq : j / E.k < ls.length := (Nat.div_lt_iff_lt_mul hk).2 hlt
 have hr : j % E.k < E.k := Nat.mod_lt _ hk
 obtain ⟨x, hx⟩ : ∃ x, ls[j / E.k]? = some x := ⟨_, List.getElem?_eq_getElem hq⟩
 obtain ⟨v, hv⟩ : ∃ v, (E.vs x)[j % E.k]? = some v := ⟨_, List.getElem?_eq_getElem (by rw [E.len]; exact hr)⟩
 have h1 := flat_get E ls (j / E.k) x (j % E.k) v hx hv
 have e : j / E.k * E.k + j % E.k = j := by rw [Nat.mul_comm]; exact Nat.div_add_mod j E.k
 rw [e, hj] at h1
 cases h1
 have h2 := hs _ x hx _ _ hv
 rw [Nat.add_assoc, e] at h2
 exact h2
structure Plain {α : Type} (E : Elem α) : Prop where
 one : ∀ x, ∀ u ∈ E.vs x, u.oneCell' = true
 bl : ∀ x, E.bl x = []
theorem plainWin : Plain eWin := ⟨fun x u hu => by simp [eWin, Win.vs] at hu; rcases hu with rfl | rfl | rfl <;> rfl, fun _ => rfl⟩
theorem plainRgn : Plain eRgn := ⟨fun x u hu => by simp [eRgn, Rgn.vs] at hu; rcases hu with rfl | rfl | rfl | rfl <;> rfl, fun _ => rfl⟩
theorem plainPrt : Plain ePrt := ⟨fun x u hu => by simp [ePrt, Prt.vs] at hu; rcases hu with rfl | rfl <;> rfl, fun _ => rfl⟩
theorem plainChn : Plain eChn := ⟨fun x u hu => by simp [eChn, Chn.vs] at hu; rcases hu with rfl | rfl | rfl <;> rfl, fun _ => rfl⟩
theorem copy_app {α : Type} (E : Elem α) (hE : Plain E) (t : TypeId) (i : TypeInfo) (z : Value) (bytes : Nat) (ht : Tryz.prog.underlying t = some (.slice E.ety)) (hi : Tryz.prog.info? E.ety = some i) (hz : i.zero = some z) (hsz : i.size = E.k) (hb : i.bytes = bytes) (hzs : z.cells.size = E.k)
  {w : World} (a : Option Addr) (ls : List α) (c : Nat) (hs : SegA E.vs E.k w a ls) (hl : ls.length ≤ maxLen) (hlb : ls.length * bytes ≤ 140737488355328) :
  ∃ ad cp W', (∀ ty, (Builtin.append_ #[t, t] ty #[.slice none 0 0, .slice a ls.length c]).run Tryz.prog w = .ok (.slice ad ls.length cp) W') ∧ SegA E.vs E.k W' ad ls ∧ (ls ≠ [] → ∀ y, ad = some y → w.heap.size ≤ y.block ∧ y.block < W'.heap.size) ∧ (ls.length ≤ cp ∧ cp ≤ maxLen) ∧ KF w W' := by
 have hnil : ls = [] ∨ ls ≠ [] := by cases ls <;> simp
 have hfin : ∀ (v' : Value) (W' : World), W'.ownsRow 0 E.ety E.k v' ls.length (ls.flatMap E.vs) → (∀ g, v'.ownBlock = some g → w.heap.size ≤ g) → ∃ ad cp, v' = .slice ad ls.length cp ∧ SegA E.vs E.k W' ad ls ∧ (ls ≠ [] → ∀ y, ad = some y → w.heap.size ≤ y.block ∧ y.block < W'.heap.size) ∧ (ls.length ≤ cp ∧ cp ≤ maxLen) := by
  intro v' W' hown hlo
  rcases hown.2 with ⟨rfl, h0⟩ | ⟨g, cap, cur, rfl, _, hg, h1, h2, h3, h4⟩
  ·
   have : ls = [] := List.length_eq_zero_iff.1 h0
   subst this
   exact ⟨none, 0, rfl, .inl rfl, fun e => (e rfl).elim, by simp, by unfold maxLen; omega⟩
  ·
   refine ⟨some ⟨g, 0, none⟩, cap, rfl, .inr ⟨g, 0, rfl, fun j x hj i v hv => ?_⟩, fun _ y hy => by cases hy; exact ⟨hlo g rfl, (Array.getElem?_eq_some_iff.1 hg).1⟩, h1, h2⟩
   have hget := flat_get E ls j x i v hj hv
   have : cur.toList[j * E.k + i]? = some v := by
    have h5 : (cur.toList.take (ls.length * E.k))[j * E.k + i]? = some v := by rw [h4]; exact hget
    rw [List.getElem?_take] at h5
    split at h5
    ·
     exact h5
    ·
     cases h5
   rw [Nat.zero_add]
   have hB : Blk W' g cur.toList E.ety := by unfold Blk; rw [Array.toArray_toList]; exact hg
   exact hB.cell this
 cases a with
 | none =>
  obtain rfl : ls = [] := by
   rcases hs with h | ⟨g, o, ha, _⟩
   ·
    exact h
   ·
    simp at ha
  refine ⟨none, 0, w, fun ty => append_none t E.ety i E.k ht hi hsz E.pos (.slice none 0 0) 0 c [] (World.ownsRow_nil w 0 E.ety E.k) ty, .inl rfl, fun e => (e rfl).elim, ⟨by simp, by unfold maxLen; omega⟩, Keeps.refl _ _⟩
 | some x =>
  by_cases he : ls = []
  ·
   subst he
   obtain ⟨v', W', h1, h2, h3, h4⟩ := append_many (w := w) t E.ety i z E.k bytes ht hi hz hsz hb hzs E.pos (.slice none 0 0) 0 [] (World.ownsRow_nil w 0 E.ety E.k) x 0 c [] (by simp) (fun j u hj => by simp at hj) (fun u hu => by cases hu) (by unfold maxLen; omega) (by omega)
   obtain ⟨ad, cp, rfl, g1, g2, g3⟩ := hfin v' W' (by simpa using h2) (fun g hg => by
    rcases h3 with e | ⟨k, e, hk⟩
    ·
     rw [e] at hg; simp [Value.ownBlock] at hg
    ·
     rw [e] at hg; cases hg; exact hk)
   exact ⟨ad, cp, W', h1, g1, g2, g3, h4.mono fun k hk e => by simp [Value.ownBlock] at e⟩
  ·
   obtain ⟨g, o, ha, hc⟩ : ∃ g o, some x = some (⟨g, o, none⟩ : Addr) ∧ ∀ j y, ls[j]? = some y → ∀ i v, (E.vs y)[i]? = some v → w.cell? ⟨g, o + j * E.k + i, none⟩ = some v := by
    rcases hs with h | h
    ·
     exact (he h).elim
    ·
     exact h
   cases ha
   obtain ⟨v', W', h1, h2, h3, h4⟩ := append_many (w := w) t E.ety i z E.k bytes ht hi hz hsz hb hzs E.pos (.slice none 0 0) 0 [] (World.ownsRow_nil w 0 E.ety E.k) ⟨g, o, none⟩ ls.length c (ls.flatMap E.vs) (flat_len E ls) (fun j u hj => by rw [addr_add]; exact flat_cell E hc hj) (fun u hu => by
    obtain ⟨y, _, hy⟩ := List.mem_flatMap.1 hu
    exact hE.one y u hy) (by omega) (by rw [Nat.zero_add]; exact hlb)
   obtain ⟨ad, cp, rfl, g1, g2, g3⟩ := hfin v' W' (by simpa using h2) (fun g hg => by
    rcases h3 with e | ⟨k, e, hk⟩
    ·
     rw [e] at hg; simp [Value.ownBlock] at hg
    ·
     rw [e] at hg; cases hg; exact hk)
   exact ⟨ad, cp, W', h1, g1, g2, g3, h4.mono fun k hk e => by simp [Value.ownBlock] at e⟩
theorem Tryz.inf45 : (Tryz.prog.info? 44).map (fun i => (i.zero, i.size, i.bytes)) = some (some (.agg #[.int .i64 0, .int .i64 0, .int .i64 0]), 3, 24) := by kernel_rfl
theorem Tryz.inf39 : (Tryz.prog.info? 54).map (fun i => (i.zero, i.size, i.bytes)) = some (some (.agg #[.int .i64 0, .int .i64 0, .int .i64 0, .int .i64 0]), 4, 32) := by kernel_rfl
theorem Tryz.inf51 : (Tryz.prog.info? 57).map (fun i => (i.zero, i.size, i.bytes)) = some (some (.agg #[.int .i64 0, .bool false]), 2, 16) := by kernel_rfl
theorem Tryz.inf49 : (Tryz.prog.info? 48).map (fun i => (i.zero, i.size, i.bytes)) = some (some (.agg #[.int .i64 0, .int .i64 0, .int .i64 0]), 3, 24) := by kernel_rfl
theorem Tryz.inf43 : (Tryz.prog.info? 42).map (fun i => (i.zero, i.size, i.bytes)) = some (some (.slice none 0 0), 1, 24) := by kernel_rfl
theorem Tryz.inf37 : (Tryz.prog.info? 41).map (fun i => (i.zero, i.size, i.bytes)) = some (some (.agg #[.string { data := #[] }, .int .i64 0, .int .i64 0, .int .i64 0, .int .i64 0, .int .i64 0, .slice none 0 0, .slice none 0 0]), 8, 104) := by kernel_rfl
def zP : List Value := [.string { data := #[] }, .int .i64 0, .int .i64 0, .int .i64 0, .int .i64 0, .int .i64 0, .slice none 0 0, .slice none 0 0]
theorem zP_get (n i : Nat) (hi : i < n * 8) : ((List.replicate n zP).flatten)[i]? = zP[i % 8]? := by
 induction n generalizing i with
 | zero => omega
 | succ n ih =>
  rw [List.replicate_succ, List.flatten_cons]
  by_cases h5 : i < 8
  ·
   rw [List.getElem?_append_left (by simp [zP]; exact h5), Nat.mod_eq_of_lt h5]
  ·
   rw [List.getElem?_append_right (by simp [zP]; omega)]
   have h6 : (i - zP.length) % 8 = i % 8 := by simp [zP]; omega
   rw [← h6]
   exact ih (i - zP.length) (by simp [zP]; omega)
theorem madeCells_zP (n : Nat) : madeCells (Value.agg #[.string { data := #[] }, .int .i64 0, .int .i64 0, .int .i64 0, .int .i64 0, .int .i64 0, .slice none 0 0, .slice none 0 0]).cells (n * 8) = ((List.replicate n zP).flatten).toArray := by
 apply Array.ext'
 apply List.ext_getElem?
 intro i
 have hl : ((List.replicate n zP).flatten).length = n * 8 := by simp [zP]
 by_cases hi : i < n * 8
 ·
  show _ = ((List.replicate n zP).flatten)[i]?
  rw [zP_get n i hi]
  simp [madeCells, hi, Value.cells]
  have h3 : i % 8 = 0 ∨ i % 8 = 1 ∨ i % 8 = 2 ∨ i % 8 = 3 ∨ i % 8 = 4 ∨ i % 8 = 5 ∨ i % 8 = 6 ∨ i % 8 = 7 := by omega
  rcases h3 with h3 | h3 | h3 | h3 | h3 | h3 | h3 | h3 <;> simp [h3, zP]
 ·
  show _ = ((List.replicate n zP).flatten)[i]?
  rw [List.getElem?_eq_none (l := ((List.replicate n zP).flatten)) (by rw [hl]; omega)]
  simp [madeCells, hi]
theorem madeCells_z1 (n : Nat) : madeCells (Value.slice none 0 0).cells (n * 1) = (List.replicate n (Value.slice none 0 0)).toArray := by
 apply Array.ext'
 apply List.ext_getElem?
 intro i
 by_cases hi : i < n
 ·
  simp [madeCells, hi, Value.cells, Nat.mod_one]
 ·
  simp [madeCells, hi]
theorem run_make22 (w : World) (n : Nat) (hn : n * 24 ≤ 140737488351232) :
  (Instr.makeSlice 22 (.int .i64 n) (.int .i64 n)).run Tryz.prog w = .ok (.slice (some ⟨w.heap.size, 0, none⟩) n n) (w.alloc (.cells (List.replicate n (.slice none 0 0)).toArray 42)) := by
 obtain ⟨i0, hi, hz0, hz1, hz2⟩ := info_parts Tryz.inf43
 have h := run_make (P := Tryz.prog) w 22 42 i0 _ Tryz.underlying22 hi hz0 .i64 .i64 n n (by omega) (by omega) (by rw [hz2]; omega) (by omega)
 rw [Int.toNat_natCast, hz1, madeCells_z1] at h
 exact h
theorem run_make23 (w : World) (n : Nat) (hn : n * 104 ≤ 140737488351232) :
  (Instr.makeSlice 23 (.int .i64 n) (.int .i64 n)).run Tryz.prog w = .ok (.slice (some ⟨w.heap.size, 0, none⟩) n n) (w.alloc (.cells ((List.replicate n zP).flatten).toArray 41)) := by
 obtain ⟨i0, hi, hz0, hz1, hz2⟩ := info_parts Tryz.inf37
 have h := run_make (P := Tryz.prog) w 23 41 i0 _ Tryz.underlying23 hi hz0 .i64 .i64 n n (by omega) (by omega) (by rw [hz2]; omega) (by omega)
 rw [Int.toNat_natCast, hz1, madeCells_zP] at h
 exact h
structure Sml (x : Cfg) : Prop where
 cs : x.cs.length * 24 ≤ 140737488351232
 ps : x.ps.length * 104 ≤ 140737488351232
 hs : x.hs.length * 24 ≤ 140737488351232
 ws : ∀ X ∈ x.cs, X.ws.length * 24 ≤ 140737488351232
 rs : ∀ P ∈ x.ps, P.rs.length * 32 ≤ 140737488351232
 qs : ∀ P ∈ x.ps, P.ps.length * 16 ≤ 140737488351232
def Par.Eqv (P Q : Par) : Prop := P.name = Q.name ∧ P.entry = Q.entry ∧ P.action = Q.action ∧ P.restarts = Q.restarts ∧ P.inputs = Q.inputs ∧ P.outputs = Q.outputs ∧ P.rs = Q.rs ∧ P.ps = Q.ps
structure C1 (w : World) (x : Cfg) (C R O M N : Nat) (ys : List Core) (w' : World) : Prop where
 cfg : Blk w' C x.vs 26
 res : Blk w' R [.int .i64 0, .int .i64 0, .int .i64 0, .int .i64 0, .slice none 0 0, .slice none 0 0, .slice none 0 0] 26
 out : Blk w' O [.int .i64 x.frames, .int .i64 x.major, .int .i64 x.kernel, .int .i64 x.room, .slice (some ⟨M, 0, none⟩) x.cs.length x.cs.length, .slice x.pa x.ps.length x.pc, .slice x.ha x.hs.length x.hc] 26
 row : Blk w' M (ys.map Core.v ++ List.replicate (x.cs.length - ys.length) (.slice none 0 0)) 42
 eqv : ys.map (·.ws) = (x.cs.take ys.length).map (·.ws)
 len : ys.length ≤ x.cs.length
 yin : ∀ y ∈ ys, SegA Win.vs 3 w' y.a y.ws ∧ (y.ws.length ≤ y.c ∧ y.c ≤ maxLen) ∧ (y.ws ≠ [] → ∀ b, y.a = some b → M < b.block ∧ b.block < w'.heap.size)
 keeps : KF w w'
 cin : x.In w' N
 nn : N ≤ w.heap.size
 lo : w.heap.size ≤ C ∧ C < R ∧ R < O ∧ O < M
theorem C1.kept {w : World} {x : Cfg} {C R O M N : Nat} {ys : List Core} {w' w'' : World} (h : C1 w x C R O M N ys w') (k : KF w' w'') : C1 w x C R O M N ys w'' :=
 ⟨h.cfg.kept k fun h => h, h.res.kept k fun h => h, h.out.kept k fun h => h, h.row.kept k fun h => h, h.eqv, h.len, fun y hy => ⟨(h.yin y hy).1.kept k fun _ _ _ h => h, (h.yin y hy).2.1, fun hn b hb => ⟨((h.yin y hy).2.2 hn b hb).1, Nat.lt_of_lt_of_le ((h.yin y hy).2.2 hn b hb).2 k.size⟩⟩, h.keeps.trans k fun _ _ h => h, h.cin.keeps (Nat.le_trans h.nn h.keeps.size) k, h.nn, h.lo⟩
theorem C1.put {w : World} {x : Cfg} {C R O M N : Nat} {ys : List Core} {w' : World} (h : C1 w x C R O M N ys w') {y X : Core} (hX : x.cs[ys.length]? = some X) (hw : y.ws = X.ws) (hy : SegA Win.vs 3 w' y.a y.ws ∧ (y.ws.length ≤ y.c ∧ y.c ≤ maxLen) ∧ (y.ws ≠ [] → ∀ b, y.a = some b → M < b.block ∧ b.block < w'.heap.size)) :
  C1 w x C R O M N (ys ++ [y]) (w'.setCell ⟨M, ys.length, none⟩ y.v) := by
 have hlt := (List.getElem?_eq_some_iff.1 hX).1
 have k : Keeps (fun k => k = M) w' (w'.setCell ⟨M, ys.length, none⟩ y.v) := (Keeps.refl _ _).setCell ⟨M, ys.length, none⟩ _ fun _ => rfl
 have hlo := h.lo
 have hnn := h.nn
 have hseg : ∀ z : Core, (SegA Win.vs 3 w' z.a z.ws ∧ (z.ws.length ≤ z.c ∧ z.c ≤ maxLen) ∧ (z.ws ≠ [] → ∀ b, z.a = some b → M < b.block ∧ b.block < w'.heap.size)) → SegA Win.vs 3 (w'.setCell ⟨M, ys.length, none⟩ y.v) z.a z.ws ∧ (z.ws.length ≤ z.c ∧ z.c ≤ maxLen) ∧ (z.ws ≠ [] → ∀ b, z.a = some b → M < b.block ∧ b.block < (w'.setCell ⟨M, ys.length, none⟩ y.v).heap.size) := fun z hz =>
  ⟨hz.1.kept k fun hn b hb e => by have := (hz.2.2 hn b hb).1; omega, hz.2.1, fun hn b hb => ⟨(hz.2.2 hn b hb).1, Nat.lt_of_lt_of_le (hz.2.2 hn b hb).2 k.size⟩⟩
 refine ⟨h.cfg.kept k (by omega), h.res.kept k (by omega), h.out.kept k (by omega), ?_, ?_, by simp; omega, fun z hz => ?_, h.keeps.trans k fun b hb e => by omega, h.cin.below (k.below (Nat.le_trans hnn h.keeps.size) fun b e => by omega), hnn, hlo⟩
 ·
  have := h.row.setCell ys.length y.v
  have e : (ys.map Core.v ++ List.replicate (x.cs.length - ys.length) (Value.slice none 0 0)).set ys.length y.v = (ys ++ [y]).map Core.v ++ List.replicate (x.cs.length - (ys ++ [y]).length) (Value.slice none 0 0) := by
   rw [List.set_append_right _ _ (by simp), List.length_map, Nat.sub_self]
   obtain ⟨m, hm⟩ : ∃ m, x.cs.length - ys.length = m + 1 := ⟨x.cs.length - ys.length - 1, by omega⟩
   have hm2 : x.cs.length - (ys ++ [y]).length = m := by simp; omega
   rw [hm, hm2, List.replicate_succ, List.set_cons_zero]
   simp
  rw [e] at this
  exact this
 ·
  rw [List.map_append, h.eqv, List.length_append, List.length_singleton, List.take_add_one, hX]
  simp [hw]
 ·
  rcases List.mem_append.1 hz with hz | hz
  ·
   exact hseg z (h.yin z hz)
  ·
   have : z = y := by simpa using hz
   rw [this]
   exact hseg y hy
end Go.Proofs.YtlnmlbkeemahcaaGreat
