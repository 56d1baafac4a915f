import Derived.Test.YtpccdhoaicabcaaRe
namespace Go.Proofs.Ytpccdhoaicabcaa
open Go.RowKit
set_option linter.unusedVariables false
set_option linter.unusedSimpArgs false

def flatR (rs : List Rgn) : List Value := rs.flatMap Rgn.vs
theorem flatR_append (a b : List Rgn) : flatR (a ++ b) = flatR a ++ flatR b := by simp [flatR]
theorem flatR_cons (r : Rgn) (l : List Rgn) : flatR (r :: l) = .int .i64 r.page :: .int .i64 r.pages :: .int .i64 r.frame :: .int .i64 r.rights :: flatR l := by simp [flatR]
theorem flatR_length (rs : List Rgn) : (flatR rs).length = rs.length * 4 := by
  induction rs with
  | nil => rfl
  | cons p r ih => simp [flatR] at ih ⊢; omega
theorem flatR_get (rs : List Rgn) (i : Nat) (r : Rgn) (h : rs[i]? = some r) : (flatR rs)[i * 4]? = some (.int .i64 r.page) ∧ (flatR rs)[i * 4 + 1]? = some (.int .i64 r.pages) ∧ (flatR rs)[i * 4 + 2]? = some (.int .i64 r.frame) ∧ (flatR rs)[i * 4 + 3]? = some (.int .i64 r.rights) := by
  induction rs generalizing i with
  | nil => simp at h
  | cons q l ih =>
    cases i with
    | zero => simp at h; subst h; simp [flatR]
    | succ i =>
      have := ih i (by simpa using h)
      have e1 : (i + 1) * 4 = i * 4 + 1 + 1 + 1 + 1 := by omega
      rw [e1]
      simpa [flatR] using this
theorem flatR_set (xs : List Rgn) (i : Nat) (r : Rgn) (hi : i < xs.length) : ((((flatR xs).set (i * 4) (.int .i64 r.page)).set (i * 4 + 1) (.int .i64 r.pages)).set (i * 4 + 2) (.int .i64 r.frame)).set (i * 4 + 3) (.int .i64 r.rights) = flatR (xs.set i r) := by
  induction xs generalizing i with
  | nil => simp at hi
  | cons x l ih =>
    cases i with
    | zero => simp [flatR_cons]
    | succ i =>
      have := ih i (by simpa using hi)
      rw [List.set_cons_succ, flatR_cons, flatR_cons, ← this, show (i + 1) * 4 = i * 4 + 1 + 1 + 1 + 1 by omega]
      simp
theorem flatR_one (rs : List Rgn) : ∀ v ∈ flatR rs, v.oneCell' = true := by
  intro v hv
  obtain ⟨r, _, hr⟩ := List.mem_flatMap.1 hv
  simp at hr
  rcases hr with rfl | rfl | rfl | rfl <;> rfl
abbrev setRg (w : World) (g i : Nat) (r : Rgn) : World := (((w.setCell ⟨g, i * 4, none⟩ (.int .i64 r.page)).setCell ⟨g, i * 4 + 1, none⟩ (.int .i64 r.pages)).setCell ⟨g, i * 4 + 2, none⟩ (.int .i64 r.frame)).setCell ⟨g, i * 4 + 3, none⟩ (.int .i64 r.rights)
theorem Blk.setRgn {w : World} {g : Nat} {xs : List Rgn} {t : TypeId} (h : Blk w g (flatR xs) t) {i : Nat} (hi : i < xs.length) (r : Rgn) : Blk (setRg w g i r) g (flatR (xs.set i r)) t := by
  rw [← flatR_set xs i r hi]
  exact (((h.setCell _ _).setCell _ _).setCell _ _).setCell _ _
theorem Keeps.setRgn {S : Nat → Prop} {w w' : World} (h : Keeps S w w') (g i : Nat) (r : Rgn) (hg : g < w.heap.size → S g) : Keeps S w (setRg w' g i r) :=
  (((h.setCell _ _ hg).setCell _ _ hg).setCell _ _ hg).setCell _ _ hg
theorem Blk.rgAt {w : World} {g : Nat} {xs : List Rgn} {t : TypeId} (h : Blk w g (flatR xs) t) {i : Nat} {r : Rgn} (hi : xs[i]? = some r) : RgAt w g (i * 4) r := by
  obtain ⟨h1, h2, h3, h4⟩ := flatR_get xs i r hi
  exact ⟨h.cell h1, h.cell h2, h.cell h3, h.cell h4⟩
theorem Blk.segR {w : World} {g : Nat} {xs ys : List Rgn} {t : TypeId} (h : Blk w g (flatR (xs ++ ys)) t) : SegR w (some ⟨g, 0, none⟩) xs :=
  .inr ⟨g, 0, rfl, fun j l hj => by
    rw [Nat.zero_add]
    exact h.rgAt (by rw [List.getElem?_append_left (List.getElem?_eq_some_iff.1 hj).1]; exact hj)⟩
theorem ivs_at (ts : List Int) (i : Nat) (t : Int) (h : ts[i]? = some t) : (ivs ts)[i]? = some (.int .i64 t) := by unfold ivs; rw [List.getElem?_map, h]; rfl
theorem ivs_append (a b : List Int) : ivs (a ++ b) = ivs a ++ ivs b := by simp [ivs]
theorem ivs_set (ts : List Int) (i : Nat) (t : Int) : (ivs ts).set i (.int .i64 t) = ivs (ts.set i t) := by unfold ivs; rw [List.map_set]
theorem Blk.segI {w : World} {g : Nat} {xs ys : List Int} {t : TypeId} (h : Blk w g (ivs (xs ++ ys)) t) : SegI w (some ⟨g, 0, none⟩) xs :=
  .inr ⟨g, 0, rfl, fun j l hj => by
    rw [Nat.zero_add]
    exact h.cell (ivs_at _ _ _ (by rw [List.getElem?_append_left (List.getElem?_eq_some_iff.1 hj).1]; exact hj))⟩

def rg0 : Rgn := ⟨0, 0, 0, 0⟩
theorem made_rgns (n : Nat) : madeCells (Value.agg #[.int .i64 0, .int .i64 0, .int .i64 0, .int .i64 0]).cells (n * 4) = (flatR (List.replicate n rg0)).toArray := by
  apply Array.ext'
  apply List.ext_getElem?
  intro i
  by_cases hi : i < n * 4
  · have e : i = i / 4 * 4 + i % 4 := by omega
    have h2 : (List.replicate n rg0)[i / 4]? = some rg0 := by rw [List.getElem?_replicate, if_pos (by omega)]
    obtain ⟨h3, h4, h5, h5'⟩ := flatR_get _ _ _ h2
    have hm : i % 4 = 0 ∨ i % 4 = 1 ∨ i % 4 = 2 ∨ i % 4 = 3 := by omega
    have h6 : (flatR (List.replicate n rg0))[i]? = some (.int .i64 0) := by
      rcases hm with h | h | h | h
      · rw [e, h]; exact h3
      · rw [e, h]; exact h4
      · rw [e, h]; exact h5
      · rw [e, h]; exact h5'
    rw [List.toList_toArray, h6]
    simp only [madeCells]
    rcases hm with h | h | h | h <;> simp [hi, h, Value.cells]
  · have h1 : (flatR (List.replicate n rg0))[i]? = none := by
      rw [List.getElem?_eq_none_iff, flatR_length]; simp; omega
    rw [List.toList_toArray, h1]
    simp [madeCells]
    omega
theorem Try.info54 : (Try.prog.info? 54).map (fun i => (i.zero, i.size, i.bytes)) = some (some (.agg #[.int .i64 0, .int .i64 0, .int .i64 0, .int .i64 0]), 4, 32) := by kernel_rfl
theorem Try.size54 : (Try.prog.info? 54).map (·.size) = some 4 := by kernel_rfl
theorem Try.size3 : (Try.prog.info? 3).map (·.size) = some 1 := by kernel_rfl
theorem run_make_rgns {w : World} (n : Nat) (hn : n ≤ 4294967296) :
    (Instr.makeSlice 29 (.int .i64 n) (.int .i64 n)).run Try.prog w = .ok (.slice (some ⟨w.heap.size, 0, none⟩) n n) (w.alloc (.cells (flatR (List.replicate n rg0)).toArray 54)) := by
  obtain ⟨i0, hi, hz0, hz1, hz2⟩ := info_parts Try.info54
  have h := run_make (P := Try.prog) w 29 54 i0 _ Try.underlying29 hi hz0 .i64 .i64 n n (by omega) (by omega) (by rw [hz2]; omega) (by omega)
  rw [hz1, Int.toNat_natCast, made_rgns] at h
  exact h
theorem run_make_intsB {w : World} (n : Nat) (hn : n ≤ 4294967296) :
    (Instr.makeSlice 28 (.int .i64 n) (.int .i64 n)).run Try.prog w = .ok (.slice (some ⟨w.heap.size, 0, none⟩) n n) (w.alloc (.cells (ivs (List.replicate n 0)).toArray 3)) := by
  obtain ⟨i0, hi, hz0, hz1, hz2⟩ := info_parts Try.info3
  have h := run_make (P := Try.prog) w 28 3 i0 (.int .i64 0) Try.underlying28 hi hz0 .i64 .i64 n n (by omega) (by omega) (by rw [hz2]; omega) (by omega)
  rw [hz1, Nat.mul_one, Int.toNat_natCast, madeCells_ints] at h
  rw [h]; simp [ivs]

/-- copy(dst, src), all of src, over the head of dst. -/
theorem run_copy_big {w : World} (dT ty elem : TypeId) (k : Nat) (hk : 0 < k) (g dLen dCap : Nat) (a : Option Addr) (sLen sCap : Nat) (cur : List Value) (t : TypeId) (cs : List Value)
    (hu : Try.prog.underlying dT = some (.slice elem)) (hs : (Try.prog.info? elem).map (·.size) = some k) (hg : Blk w g cur t) (hn : cs.length = sLen * k) (hle : sLen ≤ dLen)
    (hsrc : cs = [] ∨ ∃ b p, a = some ⟨b, p, none⟩ ∧ ∀ j v, cs[j]? = some v → w.cell? ⟨b, p + j, none⟩ = some v) (hfit : cs.length ≤ cur.length) (h1 : ∀ v ∈ cs, v.oneCell' = true) :
    (Builtin.copy_ #[dT, dT] ty #[.slice (some ⟨g, 0, none⟩) dLen dCap, .slice a sLen sCap]).run Try.prog w = .ok (goInt sLen) (w.setRow g (cs ++ cur.drop cs.length).toArray) := by
  have hmin : min sLen dLen = sLen := by omega
  have hst := run_storeCells_at Try.prog g 0 t cs 0 cur.toArray w hg (by simpa using hfit) h1
  simp only [Nat.zero_add, List.take_zero, List.nil_append, List.toList_toArray, Nat.add_zero] at hst
  cases hq : Try.prog.info? elem with
  | none => simp [hq] at hs
  | some i =>
    have hi : i.size = k := by simpa [hq] using hs
    rcases hsrc with rfl | ⟨b, p, rfl, hc⟩
    · have h0 : sLen = 0 := by
        have : sLen * k = 0 := by simpa using hn.symm
        rcases Nat.mul_eq_zero.1 this with h | h
        · exact h
        · omega
      subst h0
      cases a with
      | none => simp [Builtin.copy_, run_underlying hu, Builtin.lenOf, Builtin.firstCells, sizeOf, typeInfo, hq, hi, hst]
      | some x => simp [Builtin.copy_, run_underlying hu, Builtin.lenOf, Builtin.firstCells, sizeOf, typeInfo, hq, hi, hst, loadCells, loadCellsFrom]
    · have hl := run_loadCells_list (P := Try.prog) w ⟨b, p, none⟩ cs (fun j v hj => by rw [addr_add]; exact hc j v hj)
      rw [hn] at hl
      simp [Builtin.copy_, run_underlying hu, Builtin.lenOf, Builtin.firstCells, sizeOf, typeInfo, hq, hi, hmin, hl, hst]

theorem segI_cells {w : World} {a : Option Addr} {ts : List Int} (h : SegI w a ts) : ivs ts = [] ∨ ∃ b p, a = some ⟨b, p, none⟩ ∧ ∀ j v, (ivs ts)[j]? = some v → w.cell? ⟨b, p + j, none⟩ = some v := by
  rcases h with rfl | ⟨g, o, ha, hc⟩
  · exact .inl rfl
  · refine .inr ⟨g, o, ha, fun j v hj => ?_⟩
    obtain ⟨t, ht, rfl⟩ := ivs_get ts j v hj
    exact hc j t ht
theorem segR_go {w : World} {g : Nat} : ∀ {ls : List Rgn} {o : Nat}, (∀ j l, ls[j]? = some l → RgAt w g (o + j * 4) l) → ∀ j u, (flatR ls)[j]? = some u → w.cell? ⟨g, o + j, none⟩ = some u
  | [], _, _, j, u, hj => by simp [flatR] at hj
  | l :: r, o, h, j, u, hj => by
    have h0 := h 0 l rfl
    rw [Nat.zero_mul, Nat.add_zero] at h0
    rw [flatR_cons] at hj
    match j, hj with
    | 0, hj => simp at hj; rw [← hj]; exact h0.1
    | 1, hj => simp at hj; rw [← hj]; exact h0.2.1
    | 2, hj => simp at hj; rw [← hj]; exact h0.2.2.1
    | 3, hj => simp at hj; rw [← hj]; exact h0.2.2.2
    | j + 4, hj =>
      have hj' : (flatR r)[j]? = some u := by simpa using hj
      have := segR_go (ls := r) (o := o + 4) (fun i m hi => by
        have := h (i + 1) m (by simpa using hi)
        rw [show o + (i + 1) * 4 = o + 4 + i * 4 by omega] at this
        exact this) j u hj'
      rw [show o + (j + 4) = o + 4 + j by omega]
      exact this
theorem segR_cells {w : World} {a : Option Addr} {rs : List Rgn} (h : SegR w a rs) : flatR rs = [] ∨ ∃ b p, a = some ⟨b, p, none⟩ ∧ ∀ j v, (flatR rs)[j]? = some v → w.cell? ⟨b, p + j, none⟩ = some v := by
  rcases h with rfl | ⟨g, o, ha, hc⟩
  · exact .inl rfl
  · exact .inr ⟨g, o, ha, segR_go hc⟩

end Go.Proofs.Ytpccdhoaicabcaa
