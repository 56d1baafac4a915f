import Derived.Test.YtgookbkaacidpaaGreatCq
namespace Go.Proofs.YtgookbkaacidpaaGreat
open Go.RowKit
set_option linter.unusedVariables false
set_option linter.unusedSimpArgs false
set_option maxRecDepth 6000

/-- A copied partition lies there: its lists behind M. -/
def ZIn (M : Nat) (w : World) (z : Par) : Prop :=
  (SegA Rgn.vs 4 w z.ra z.rs ∧ (z.rs.length ≤ z.rc ∧ z.rc ≤ maxLen) ∧ (z.rs ≠ [] → ∀ b, z.ra = some b → M < b.block ∧ b.block < w.heap.size)) ∧
  (SegA Prt.vs 2 w z.pa z.ps ∧ (z.ps.length ≤ z.pc ∧ z.pc ≤ maxLen) ∧ (z.ps ≠ [] → ∀ b, z.pa = some b → M < b.block ∧ b.block < w.heap.size))
theorem ZIn.kept {M : Nat} {w w' : World} {z : Par} {S : Nat → Prop} (h : ZIn M w z) (k : Keeps S w w') (hS : ∀ b, S b → b ≤ M ∨ w.heap.size ≤ b) : ZIn M w' z :=
  ⟨⟨h.1.1.kept k fun hn b hb e => by have := h.1.2.2 hn b hb; have := hS _ e; omega, h.1.2.1, fun hn b hb => ⟨(h.1.2.2 hn b hb).1, Nat.lt_of_lt_of_le (h.1.2.2 hn b hb).2 k.size⟩⟩,
   ⟨h.2.1.kept k fun hn b hb e => by have := h.2.2.2 hn b hb; have := hS _ e; omega, h.2.2.1, fun hn b hb => ⟨(h.2.2.2 hn b hb).1, Nat.lt_of_lt_of_le (h.2.2.2 hn b hb).2 k.size⟩⟩⟩
/-- While the partitions are copied. -/
structure C2 (w : World) (x : Cfg) (C R O M M2 N : Nat) (ys : List Core) (zs : List Par) (w' : World) : Prop where
  cfg : Blk w' C x.vs 26
  res : Blk w' R [.int .i64 0, .int .i64 0, .int .i64 0, .int .i64 0, .slice none 0 0, .slice none 0 0, .slice none 0 0] 26
  out : Blk w' O [.int .i64 x.frames, .int .i64 x.major, .int .i64 x.kernel, .int .i64 x.room, .slice (some ⟨M, 0, none⟩) x.cs.length x.cs.length, .slice (some ⟨M2, 0, none⟩) x.ps.length x.ps.length, .slice x.ha x.hs.length x.hc] 26
  row : Blk w' M (ys.map Core.v) 43
  eqv : ys.map (·.ws) = x.cs.map (·.ws)
  yin : ∀ y ∈ ys, SegA Win.vs 3 w' y.a y.ws ∧ (y.ws.length ≤ y.c ∧ y.c ≤ maxLen) ∧ (y.ws ≠ [] → ∀ b, y.a = some b → M < b.block ∧ b.block < M2)
  row2 : Blk w' M2 (zs.flatMap Par.vs ++ (List.replicate (x.ps.length - zs.length) zP).flatten) 37
  len : zs.length ≤ x.ps.length
  eqv2 : ∀ (j : Nat) (z P : Par), zs[j]? = some z → x.ps[j]? = some P → z.Eqv P
  zin : ∀ z ∈ zs, ZIn M2 w' z
  keeps : Keeps (fun _ => False) w w'
  cin : x.In w' N
  nn : N ≤ w.heap.size
  lo : w.heap.size ≤ C ∧ C < R ∧ R < O ∧ O < M ∧ M < M2 ∧ M2 < w'.heap.size
theorem C2.up {w : World} {x : Cfg} {C R O M M2 N : Nat} {ys : List Core} {zs : List Par} {w' w'' : World} {S : Nat → Prop} (h : C2 w x C R O M M2 N ys zs w') (k : Keeps S w' w'') (hS : ∀ b, S b → w'.heap.size ≤ b) : C2 w x C R O M M2 N ys zs w'' := by
  have hlo := h.lo
  have hn : ∀ b, b < w'.heap.size → ¬ S b := fun b hb e => by have := hS b e; omega
  exact ⟨h.cfg.kept k (hn _ (by omega)), h.res.kept k (hn _ (by omega)), h.out.kept k (hn _ (by omega)), h.row.kept k (hn _ (by omega)), h.eqv, fun y hy => ⟨(h.yin y hy).1.kept k fun hne b hb => hn _ (by have := (h.yin y hy).2.2 hne b hb; omega), (h.yin y hy).2⟩, h.row2.kept k (hn _ (by omega)), h.len, h.eqv2,
    fun z hz => (h.zin z hz).kept k fun b hb => .inr (hS b hb), h.keeps.trans k fun b hb e => hn b (by have := h.keeps.size; omega) e, h.cin.below (k.below (Nat.le_trans h.nn h.keeps.size) fun b e => by have := hS b e; have := h.nn; have := h.keeps.size; omega), h.nn, ⟨hlo.1, hlo.2.1, hlo.2.2.1, hlo.2.2.2.1, hlo.2.2.2.2.1, Nat.lt_of_lt_of_le hlo.2.2.2.2.2 k.size⟩⟩
theorem set8 (pre post : List Value) (a0 a1 a2 a3 a4 a5 a6 a7 v0 v1 v2 v3 v4 v5 v6 v7 : Value) :
    ((((((((pre ++ ([a0, a1, a2, a3, a4, a5, a6, a7] ++ post)).set pre.length v0).set (pre.length + 1) v1).set (pre.length + 2) v2).set (pre.length + 3) v3).set (pre.length + 4) v4).set (pre.length + 5) v5).set (pre.length + 6) v6).set (pre.length + 7) v7 = pre ++ ([v0, v1, v2, v3, v4, v5, v6, v7] ++ post) := by
  have h (l : List Value) (i : Nat) (v : Value) : (pre ++ l).set (pre.length + i) v = pre ++ l.set i v := by
    rw [List.set_append_right _ _ (by omega), Nat.add_sub_cancel_left]
  have h0 (l : List Value) (v : Value) : (pre ++ l).set pre.length v = pre ++ l.set 0 v := h l 0 v
  simp only [h, h0]
  rfl
theorem C2.put {w : World} {x : Cfg} {C R O M M2 N : Nat} {ys : List Core} {zs : List Par} {w' : World} (h : C2 w x C R O M M2 N ys zs w') {z P : Par} (hP : x.ps[zs.length]? = some P) (he : z.Eqv P) (hz : ZIn M2 w' z) (o : Nat) (ho : o = zs.length * 8) :
    C2 w x C R O M M2 N ys (zs ++ [z]) ((((((((w'.setCell ⟨M2, o, none⟩ (.string z.name)).setCell ⟨M2, o + 1, none⟩ (.int .i64 z.entry)).setCell ⟨M2, o + 2, none⟩ (.int .i64 z.action)).setCell ⟨M2, o + 3, none⟩ (.int .i64 z.restarts)).setCell ⟨M2, o + 4, none⟩ (.int .i64 z.inputs)).setCell ⟨M2, o + 5, none⟩ (.int .i64 z.outputs)).setCell ⟨M2, o + 6, none⟩ (.slice z.ra z.rs.length z.rc)).setCell ⟨M2, o + 7, none⟩ (.slice z.pa z.ps.length z.pc)) := by
  have hlt := (List.getElem?_eq_some_iff.1 hP).1
  have hlo := h.lo
  have hnn := h.nn
  have k0 := Keeps.refl (fun k => k = M2) w'
  have k1 := k0.setCell ⟨M2, o, none⟩ (.string z.name) fun _ => rfl
  have k2 := k1.setCell ⟨M2, o + 1, none⟩ (.int .i64 z.entry) fun _ => rfl
  have k3 := k2.setCell ⟨M2, o + 2, none⟩ (.int .i64 z.action) fun _ => rfl
  have k4 := k3.setCell ⟨M2, o + 3, none⟩ (.int .i64 z.restarts) fun _ => rfl
  have k5 := k4.setCell ⟨M2, o + 4, none⟩ (.int .i64 z.inputs) fun _ => rfl
  have k6 := k5.setCell ⟨M2, o + 5, none⟩ (.int .i64 z.outputs) fun _ => rfl
  have k7 := k6.setCell ⟨M2, o + 6, none⟩ (.slice z.ra z.rs.length z.rc) fun _ => rfl
  have k8 := k7.setCell ⟨M2, o + 7, none⟩ (.slice z.pa z.ps.length z.pc) fun _ => rfl
  have b1 := h.row2.setCell o (.string z.name)
  have b2 := b1.setCell (o + 1) (.int .i64 z.entry)
  have b3 := b2.setCell (o + 2) (.int .i64 z.action)
  have b4 := b3.setCell (o + 3) (.int .i64 z.restarts)
  have b5 := b4.setCell (o + 4) (.int .i64 z.inputs)
  have b6 := b5.setCell (o + 5) (.int .i64 z.outputs)
  have b7 := b6.setCell (o + 6) (.slice z.ra z.rs.length z.rc)
  have b8 := b7.setCell (o + 7) (.slice z.pa z.ps.length z.pc)
  clear b1 b2 b3 b4 b5 b6 b7 k0 k1 k2 k3 k4 k5 k6 k7
  obtain ⟨W, hW⟩ : ∃ W, W = ((((((((w'.setCell ⟨M2, o, none⟩ (.string z.name)).setCell ⟨M2, o + 1, none⟩ (.int .i64 z.entry)).setCell ⟨M2, o + 2, none⟩ (.int .i64 z.action)).setCell ⟨M2, o + 3, none⟩ (.int .i64 z.restarts)).setCell ⟨M2, o + 4, none⟩ (.int .i64 z.inputs)).setCell ⟨M2, o + 5, none⟩ (.int .i64 z.outputs)).setCell ⟨M2, o + 6, none⟩ (.slice z.ra z.rs.length z.rc)).setCell ⟨M2, o + 7, none⟩ (.slice z.pa z.ps.length z.pc)) := ⟨_, rfl⟩
  rw [← hW] at k8 b8 ⊢
  clear hW
  refine ⟨h.cfg.kept k8 (by omega), h.res.kept k8 (by omega), h.out.kept k8 (by omega), h.row.kept k8 (by omega), h.eqv, fun y hy => ⟨(h.yin y hy).1.kept k8 fun hne b hb e => by have := (h.yin y hy).2.2 hne b hb; omega, (h.yin y hy).2⟩, ?_, by simp; omega, fun j z' P' hj hj' => ?_, fun z' hz' => ?_,
    h.keeps.trans k8 fun b hb e => by omega, h.cin.below (k8.below (Nat.le_trans hnn h.keeps.size) fun b e => by omega), hnn, ⟨hlo.1, hlo.2.1, hlo.2.2.1, hlo.2.2.2.1, hlo.2.2.2.2.1, Nat.lt_of_lt_of_le hlo.2.2.2.2.2 k8.size⟩⟩
  · obtain ⟨m, hm⟩ : ∃ m, x.ps.length - zs.length = m + 1 := ⟨x.ps.length - zs.length - 1, by omega⟩
    have hm2 : x.ps.length - (zs ++ [z]).length = m := by simp; omega
    have hpl : (zs.flatMap Par.vs).length = o := by have := flat_len ePar zs; rw [ho]; exact this
    rw [hm, List.replicate_succ, List.flatten_cons] at b8
    rw [hm2]
    have := set8 (zs.flatMap Par.vs) (List.replicate m zP).flatten (.string { data := #[] }) (.int .i64 0) (.int .i64 0) (.int .i64 0) (.int .i64 0) (.int .i64 0) (.slice none 0 0) (.slice none 0 0) (.string z.name) (.int .i64 z.entry) (.int .i64 z.action) (.int .i64 z.restarts) (.int .i64 z.inputs) (.int .i64 z.outputs) (.slice z.ra z.rs.length z.rc) (.slice z.pa z.ps.length z.pc)
    rw [hpl] at this
    unfold zP at b8 this ⊢
    rw [this] at b8
    rw [List.flatMap_append, List.append_assoc]
    simpa using b8
  · by_cases e : j < zs.length
    · rw [List.getElem?_append_left e] at hj
      exact h.eqv2 j z' P' hj hj'
    · rw [List.getElem?_append_right (by omega)] at hj
      have hj0 : j - zs.length = 0 := by
        have := (List.getElem?_eq_some_iff.1 hj).1
        simp at this
        omega
      rw [hj0] at hj
      cases hj
      have : j = zs.length := by omega
      rw [this, hP] at hj'
      cases hj'
      exact he
  · have hk : ∀ u : Par, ZIn M2 w' u → ZIn M2 W u := fun u hu => hu.kept k8 fun b e => .inl (by omega)
    rcases List.mem_append.1 hz' with h1 | h1
    · exact hk z' (h.zin z' h1)
    · have : z' = z := by simpa using h1
      rw [this]
      exact hk z hz
end Go.Proofs.YtgookbkaacidpaaGreat
