import Derived.Test.YtjadpbkhfclldaaGreatMd
namespace Go.Proofs.YtjadpbkhfclldaaGreat.Gw
open Go.RowKit
set_option linter.unusedVariables false
set_option linter.unusedSimpArgs false
set_option maxRecDepth 8000

/-- A longer row that begins as the old one does, in its block: the old one is there still. -/
theorem owns_prefix {w : World} {e : TypeId} {size n m g cap : Nat} {vs news : List Value} (h0 : vs.length = n * size) (hnm : n ≤ m)
    (h : w.ownsRow 0 e size (.slice (some ⟨g, 0, none⟩) m cap) m (vs ++ news)) : w.ownsRow 0 e size (.slice (some ⟨g, 0, none⟩) n cap) n vs := by
  refine ⟨h0, ?_⟩
  rcases h.2 with ⟨h2, _⟩ | ⟨g2, cap2, cur, h2, hb, hg, h3, h4, h5, h6⟩
  · cases h2
  · cases h2
    refine .inr ⟨g, cap, cur, rfl, hb, hg, by omega, h4, h5, ?_⟩
    have : n * size ≤ m * size := Nat.mul_le_mul_right _ hnm
    have h7 : (cur.toList.take (m * size)).take (n * size) = (vs ++ news).take (n * size) := by rw [h6]
    rw [List.take_take, Nat.min_eq_left this, ← h0, List.take_left] at h7
    rw [← h0]; exact h7

/-- append to a row of one's own: in place where there is room, else anew; the old row is as it was. -/
theorem append_old {w : World} (t e : TypeId) (i : TypeInfo) (z : Value) (size bytes : Nat) (ht : Tryz.prog.underlying t = some (.slice e)) (hi : Tryz.prog.info? e = some i) (hz : i.zero = some z)
    (hs : i.size = size) (hb : i.bytes = bytes) (hzs : z.cells.size = size) (h0 : 0 < size) (v : Value) (n : Nat) (vs : List Value) (hown : w.ownsRow 0 e size v n vs)
    (a : Addr) (m c : Nat) (hm0 : 0 < m) (news : List Value) (hl : news.length = m * size) (hnews : ∀ j u, news[j]? = some u → w.cell? (a.add j) = some u) (h1 : ∀ u ∈ news, u.oneCell' = true)
    (hm : n + m ≤ maxLen) (hbytes : (n + m) * bytes ≤ 140737488355328) :
    ∃ v' W', (∀ ty, (Builtin.append_ #[t, t] ty #[v, .slice (some a) m c]).run Tryz.prog w = .ok v' W') ∧ W'.ownsRow 0 e size v' (n + m) (vs ++ news) ∧ W'.ownsRow 0 e size v n vs ∧
      Keeps (fun k => some k = v.ownBlock) w W' ∧
      ((∃ g cap, v = .slice (some ⟨g, 0, none⟩) n cap ∧ n + m ≤ cap ∧ v' = .slice (some ⟨g, 0, none⟩) (n + m) cap) ∨ ((∃ k, v'.ownBlock = some k ∧ w.heap.size ≤ k) ∧ Keeps (fun _ => False) w W')) := by
  obtain ⟨v', W', hr, ho, hg, hnil⟩ := run_append_own (P := Tryz.prog) w 0 t 0 e i z size bytes ht hi hz hs hb hzs h0 v n vs hown a m c news hl hnews h1 hm hbytes (Nat.zero_le _)
  have hbig : n + m ≤ 9223372036854775807 := by unfold maxLen at hm; omega
  refine ⟨v', W', fun ty => hr, ho, ?_⟩
  have hKg := Keeps.of_grown hg
  rcases hown.2 with ⟨rfl, rfl⟩ | ⟨g, cap, cur, rfl, hb0, hg1, hnc, hcm, hcs, htake⟩
  · have h2 := run_append_nil (P := Tryz.prog) w t 0 e i z ht hi hz a m c news (by rw [hs]; exact hl) hnews (by omega) (by omega) (by
        rw [hb]
        rw [Nat.zero_add] at hbytes
        omega)
    rw [hr] at h2
    have e1 : v' = _ := (Result.ok.inj h2).1
    have hK : Keeps (fun _ => False) w W' := hKg.mono fun k _ e => by cases e
    exact ⟨owns_kept hown hK fun _ _ h => h, hKg, .inr ⟨by rw [e1]; exact ⟨_, rfl, by simp⟩, hK⟩⟩
  · by_cases hroom : n + m ≤ cap
    · have h2 := run_append_room (P := Tryz.prog) w t 0 e i ht hi g n cap cur hg1 a m c news (by rw [hs]; exact hl) hnews h1 hroom (by
        rw [hs, hcs, hl, ← Nat.add_mul]; exact Nat.mul_le_mul_right _ hroom)
      rw [hr] at h2
      have e1 : v' = _ := (Result.ok.inj h2).1
      refine ⟨?_, hKg, .inl ⟨g, cap, rfl, hroom, e1⟩⟩
      rw [e1] at ho
      exact owns_prefix hown.1 (by omega) ho
    · have h2 := run_append_grow (P := Tryz.prog) w t 0 e i z ht hi hz ⟨g, 0, none⟩ n cap vs (by rw [hs]; exact hown.1) (hown.cells rfl) a m c news (by rw [hs]; exact hl) hnews (by omega) (by omega) (by
        rw [hb]; exact growslice_fits (by omega) hbytes)
      rw [hr] at h2
      have e1 : v' = _ := (Result.ok.inj h2).1
      have e2 : W' = _ := (Result.ok.inj h2).2
      have hK : Keeps (fun _ => False) w W' := by rw [e2]; exact ((Keeps.refl _ _).drew).alloc _
      exact ⟨owns_kept hown hK fun _ _ h => h, hKg, .inr ⟨by rw [e1]; exact ⟨_, rfl, by simp⟩, hK⟩⟩

/-- append of a new block of one. -/
theorem append_one {w : World} (t e : TypeId) (i : TypeInfo) (z : Value) (size bytes : Nat) (ht : Tryz.prog.underlying t = some (.slice e)) (hi : Tryz.prog.info? e = some i) (hz : i.zero = some z)
    (hs : i.size = size) (hb : i.bytes = bytes) (hzs : z.cells.size = size) (h0 : 0 < size) (v : Value) (n : Nat) (vs : List Value) (hown : w.ownsRow 0 e size v n vs)
    (xs : Array Value) (hl : xs.size = size) (h1 : ∀ u ∈ xs.toList, u.oneCell' = true)
    (hm : n + 1 ≤ maxLen) (hbytes : (n + 1) * bytes ≤ 140737488355328) :
    ∃ v' W', (∀ ty, (Builtin.append_ #[t, t] ty #[v, .slice (some ⟨w.heap.size, 0, none⟩) 1 1]).run Tryz.prog (w.alloc (.cells xs e)) = .ok v' W') ∧ W'.ownsRow 0 e size v' (n + 1) (vs ++ xs.toList) ∧ W'.ownsRow 0 e size v n vs ∧
      Keeps (fun k => some k = v.ownBlock) w W' ∧
      ((∃ g cap, v = .slice (some ⟨g, 0, none⟩) n cap ∧ n + 1 ≤ cap ∧ v' = .slice (some ⟨g, 0, none⟩) (n + 1) cap) ∨ ((∃ k, v'.ownBlock = some k ∧ w.heap.size ≤ k) ∧ Keeps (fun _ => False) w W')) := by
  have hW : Keeps (fun _ => False) w (w.alloc (.cells xs e)) := (Keeps.refl _ w).alloc _
  have hown1 : (w.alloc (.cells xs e)).ownsRow 0 e size v n vs := owns_kept hown hW (fun _ _ h => h)
  obtain ⟨v', W', hr, ho, hold, hK, hfr⟩ := append_old t e i z size bytes ht hi hz hs hb hzs h0 v n vs hown1 ⟨w.heap.size, 0, none⟩ 1 1 (by omega) xs.toList (by simpa using hl) (by
    intro j u hj
    have hB := Blk.new w xs e
    rw [addr_add]
    exact hB.cell (by rw [Nat.zero_add]; exact hj)) h1 hm hbytes
  refine ⟨v', W', hr, ho, hold, (hW.mono fun _ _ h => h.elim).trans hK fun _ _ h => h, ?_⟩
  rcases hfr with h | ⟨⟨k, h, h2⟩, h3⟩
  · exact .inl h
  · exact .inr ⟨⟨k, h, by simp at h2; omega⟩, hW.trans h3 fun _ _ e => e⟩

theorem own_cell {w : World} {e : TypeId} {size n g cap : Nat} {xs : List Value} (h : w.ownsRow 0 e size (.slice (some ⟨g, 0, none⟩) n cap) n xs) {i : Nat} {v : Value} (hi : xs[i]? = some v) : w.cell? ⟨g, i, none⟩ = some v := by
  have := h.cells rfl i v hi
  rw [addr_add] at this
  simpa using this
theorem own_ne {w : World} {e1 e2 : TypeId} {s1 s2 n1 n2 : Nat} {u v : Value} {xs ys : List Value} (h1 : w.ownsRow 0 e1 s1 u n1 xs) (h2 : w.ownsRow 0 e2 s2 v n2 ys) (hne : e1 ≠ e2) {k : Nat} (hu : u.ownBlock = some k) : v.ownBlock ≠ some k := fun hv => by
  rcases h1.2 with ⟨e, _⟩ | ⟨g, cap, cur, e, _, q1, _⟩
  · rw [e] at hu; cases hu
  · rcases h2.2 with ⟨e', _⟩ | ⟨g', cap', cur', e', _, q2, _⟩
    · rw [e'] at hv; cases hv
    · rw [e] at hu; rw [e'] at hv
      cases hu
      cases hv
      rw [q1] at q2
      simp only [Option.some.injEq, Obj.cells.injEq] at q2
      exact hne q2.2.1
theorem own_form {w : World} {e : TypeId} {size n : Nat} {v : Value} {xs : List Value} (h : w.ownsRow 0 e size v n xs) (hn : 0 < n) : ∃ g cap, v = .slice (some ⟨g, 0, none⟩) n cap ∧ n ≤ cap ∧ cap ≤ maxLen := by
  rcases h.2 with ⟨_, h0⟩ | ⟨g, cap, cur, e, _, _, h1, h2, _⟩
  · omega
  · exact ⟨g, cap, e, h1, h2⟩

theorem own_lt {w : World} {e : TypeId} {s n : Nat} {v : Value} {xs : List Value} (h : w.ownsRow 0 e s v n xs) {k : Nat} (hv : v.ownBlock = some k) : k < w.heap.size := by
  rcases h.2 with ⟨h2, _⟩ | ⟨g, cap, cur, h2, _, h3, _⟩
  · rw [h2] at hv; cases hv
  · rw [h2] at hv; cases hv
    exact (Array.getElem?_eq_some_iff.1 h3).1
theorem own_blk_ne {w : World} {e t : TypeId} {s n b : Nat} {v : Value} {xs cs : List Value} (h : w.ownsRow 0 e s v n xs) (hB : Blk w b cs t) (hne : e ≠ t) : v.ownBlock ≠ some b := fun hv => by
  rcases h.2 with ⟨h2, _⟩ | ⟨g, cap, cur, h2, _, h3, _⟩
  · rw [h2] at hv; cases hv
  · rw [h2] at hv; cases hv
    unfold Blk at hB
    rw [h3] at hB
    simp only [Option.some.injEq, Obj.cells.injEq] at hB
    exact hne hB.2.1

theorem own_slice {w : World} {e : TypeId} {s n : Nat} {v : Value} {xs : List Value} (h : w.ownsRow 0 e s v n xs) : ∃ a cap, v = .slice a n cap ∧ n ≤ cap ∧ cap ≤ maxLen := by
  rcases h.2 with ⟨h2, h3⟩ | ⟨g, cap, cur, h2, _, _, h4, h5, _⟩
  · exact ⟨none, 0, by rw [h2, h3], by omega, by unfold maxLen; omega⟩
  · exact ⟨_, cap, h2, h4, h5⟩
theorem own_one {w : World} {e : TypeId} {s n : Nat} {v : Value} {xs : List Value} (h : w.ownsRow 0 e s v n xs) : v.oneCell' = true := by
  obtain ⟨a, cap, e, _⟩ := own_slice h
  rw [e]; rfl
def PwU (n : Nat) (U : Nat → Value) : Prop := ∀ i j, i < n → j < n → i ≠ j → ∀ k, (U i).ownBlock = some k → (U j).ownBlock ≠ some k

/-- Lists of a kind, the first of which have grown, one of which grows, and the list of the grown ones. -/
structure GB (W : World) (e te : TypeId) (s n M : Nat) (U : Nat → Value) (ln : Nat → Nat) (X : Nat → List Value) (nw : Nat → Nat → List Value) (j k : Nat) (V : Nat → Value) (v tv : Value) (w : World) : Prop where
  old : ∀ i, i < n → w.ownsRow 0 e s (U i) (ln i) (X i)
  lo : ∀ i, i < n → ∀ b, (U i).ownBlock = some b → b < W.heap.size
  pw : PwU n U
  new : ∀ i, i < j → w.ownsRow 0 e s (V i) (ln i + M) (X i ++ apN (nw i) M)
  blk : ∀ i, i < j → (V i).ownBlock = (U i).ownBlock ∨ ∃ b, (V i).ownBlock = some b ∧ W.heap.size ≤ b
  cur : j < n → w.ownsRow 0 e s v (ln j + k) (X j ++ apN (nw j) k)
  cbl : j < n → (∃ a cap, U j = .slice a (ln j) cap ∧ v = .slice a (ln j + k) cap) ∨ ∃ b, v.ownBlock = some b ∧ W.heap.size ≤ b
  dis : j < n → ∀ i, i < j → ∀ b, v.ownBlock = some b → (V i).ownBlock ≠ some b
  tab : w.ownsRow 0 te 1 tv j ((List.range j).map V)
  tbl : ∀ b, tv.ownBlock = some b → W.heap.size ≤ b
  wl : W.heap.size ≤ w.heap.size
section
variable {W w w' : World} {e te : TypeId} {s n M : Nat} {U V : Nat → Value} {ln : Nat → Nat} {X : Nat → List Value} {nw : Nat → Nat → List Value} {j k : Nat} {v tv : Value}
theorem GB.own_u (h : GB W e te s n M U ln X nw j k V v tv w) (hj : j < n) {i : Nat} (hi : i < n) (hne : i ≠ j) {b : Nat} (hb : (U i).ownBlock = some b) : v.ownBlock ≠ some b := fun hv => by
  rcases h.cbl hj with ⟨a, cap, e1, e2⟩ | ⟨c, e1, e2⟩
  · have : (U j).ownBlock = some b := by
      rw [e2] at hv; rw [e1]
      cases a with
      | none => cases hv
      | some a => exact hv
    exact h.pw i j hi hj hne b hb this
  · rw [e1] at hv; cases hv
    have := h.lo i hi b hb
    omega
theorem GB.start {W : World} (hlo : ∀ i, i < n → W.ownsRow 0 e s (U i) (ln i) (X i)) (hp : PwU n U) : GB W e te s n M U ln X nw 0 0 U (U 0) (.slice none 0 0) W := by
  refine ⟨hlo, fun i hi b hb => own_lt (hlo i hi) hb, hp, fun i hi => by omega, fun i hi => by omega, fun h0 => by simpa [apN] using hlo 0 h0, fun h0 => .inl ?_, fun _ i hi => by omega, ⟨by simp, .inl ⟨rfl, rfl⟩⟩, fun b hb => (by cases hb), Nat.le_refl _⟩
  obtain ⟨a, cap, e1, _⟩ := own_slice (hlo 0 h0)
  exact ⟨a, cap, e1, e1⟩
/-- One more is put behind the list that grows. -/
theorem GB.step (h : GB W e te s n M U ln X nw j k V v tv w) (hj : j < n) (hne : te ≠ e)
    (t : TypeId) (z : Value) (bytes : Nat) (hte : Tryz.prog.underlying t = some (.slice e)) (hin : (Tryz.prog.info? e).map (fun i => (i.zero, i.size, i.bytes)) = some (some z, s, bytes)) (hzs : z.cells.size = s) (hs : 0 < s) (hby : bytes ≤ 1000)
    (xs : Array Value) (hxs : xs.toList = nw j k) (hlen : (nw j k).length = s) (h1 : ∀ u ∈ nw j k, u.oneCell' = true) (hn : ln j + k < 3000000000) :
    ∃ v' W', (∀ ty, (Builtin.append_ #[t, t] ty #[v, .slice (some ⟨w.heap.size, 0, none⟩) 1 1]).run Tryz.prog (w.alloc (.cells xs e)) = .ok v' W') ∧ GB W e te s n M U ln X nw j (k + 1) V v' tv W' ∧ Keeps (fun b => some b = v.ownBlock) w W' ∧ v'.oneCell' = true := by
  obtain ⟨i0, hi, hz, hsz, hb⟩ := info_parts hin
  have hmul : (ln j + k + 1) * bytes ≤ 3000000000 * 1000 := Nat.mul_le_mul (by omega) hby
  obtain ⟨v', W', hr, ho, hold, hK, hfr⟩ := append_one t e i0 z s bytes hte hi hz hsz hb hzs hs v (ln j + k) (X j ++ apN (nw j) k) (h.cur hj) xs (by rw [← hlen, ← hxs]; simp) (by rw [hxs]; exact h1) (by unfold maxLen; omega) (by omega)
  have ho' : W'.ownsRow 0 e s v' (ln j + (k + 1)) (X j ++ apN (nw j) (k + 1)) := by rw [apN_succ, ← List.append_assoc, ← hxs]; exact ho
  refine ⟨v', W', hr, ⟨fun i hi => ?_, h.lo, h.pw, fun i hi => ?_, h.blk, fun _ => ho', fun _ => ?_, fun _ i hi b hb' => ?_, ?_, h.tbl, Nat.le_trans h.wl hK.size⟩, hK, own_one ho'⟩
  · by_cases q : i = j
    · subst q
      rcases h.cbl hj with ⟨a, cap, e1, e2⟩ | ⟨b, e1, e2⟩
      · rw [e2] at hold
        rcases hold.2 with ⟨h2, h3⟩ | ⟨g, cap2, cur, h2, _⟩
        · have hX : X i = [] := by
            have := (h.old i hj).1
            rw [show ln i = 0 by omega, Nat.zero_mul] at this
            exact List.length_eq_zero_iff.1 this
          injection h2 with q1 q2 q3
          subst q1 q3
          have hn0 : ln i = 0 := by omega
          rw [e1, hX, hn0]
          exact ⟨by simp, .inl ⟨rfl, rfl⟩⟩
        · injection h2 with q1 q2 q3
          subst q1
          rw [e1]
          exact owns_prefix (h.old i hj).1 (by omega) hold
      · refine owns_kept (h.old i hj) hK fun b' hb' eb => ?_
        rw [e1] at eb; cases eb
        have := h.lo i hj b hb'
        omega
    · exact owns_kept (h.old i hi) hK fun b hb' eb => h.own_u hj hi q hb' eb.symm
  · exact owns_kept (h.new i hi) hK fun b hb' eb => h.dis hj i hi b eb.symm hb'
  · rcases hfr with ⟨g, cap, q1, _, q3⟩ | ⟨⟨b, q1, q2⟩, _⟩
    · rcases h.cbl hj with ⟨a, cap2, e1, e2⟩ | ⟨b, e1, e2⟩
      · rw [e2] at q1
        injection q1 with r1 r2 r3
        subst r1 r3
        exact .inl ⟨_, _, e1, q3⟩
      · rw [q1] at e1
        exact .inr ⟨b, by rw [q3]; exact e1, e2⟩
    · exact .inr ⟨b, q1, Nat.le_trans h.wl q2⟩
  · rcases hfr with ⟨g, cap, q1, _, q3⟩ | ⟨⟨c, q1, q2⟩, _⟩
    · exact h.dis hj i hi b (by rw [q1]; rw [q3] at hb'; exact hb')
    · rw [q1] at hb'; cases hb'
      intro hv
      have := own_lt (h.new i hi) hv
      omega
  · exact owns_kept h.tab hK fun b hb' eb => own_ne (h.cur hj) h.tab hne.symm eb.symm hb'
/-- The grown list is put behind the others. -/
theorem GB.next (h : GB W e te s n M U ln X nw j M V v tv w) (hj : j < n) (t : TypeId) (hne : te ≠ e) (hte : Tryz.prog.underlying t = some (.slice te)) (hin : (Tryz.prog.info? te).map (fun i => (i.zero, i.size, i.bytes)) = some (some (.slice none 0 0), 1, 24)) (hn : n < 3000000000) :
    ∃ tv' w2, (∀ ty, (Builtin.append_ #[t, t] ty #[tv, .slice (some ⟨w.heap.size, 0, none⟩) 1 1]).run Tryz.prog (w.alloc (.cells #[v] te)) = .ok tv' w2) ∧ (∃ V', GB W e te s n M U ln X nw (j + 1) 0 V' (U (j + 1)) tv' w2) ∧ Keeps (fun b => some b = tv.ownBlock) w w2 ∧ tv'.oneCell' = true := by
  obtain ⟨i0, hi, hz, hsz, hb⟩ := info_parts hin
  have hv1 := own_one (h.cur hj)
  obtain ⟨tv', w2, hr, ho, _, hK1, hfr⟩ := append_one t te i0 _ 1 24 hte hi hz hsz hb rfl (by omega) tv j _ h.tab #[v] rfl (fun u hu => by simp only [List.mem_cons, List.not_mem_nil, or_false] at hu; rw [hu]; exact hv1) (by unfold maxLen; omega) (by omega)
  have other : ∀ {u : Value} {m : Nat} {xs : List Value}, w.ownsRow 0 e s u m xs → w2.ownsRow 0 e s u m xs := fun hu => owns_kept hu hK1 fun b hb' eb => own_ne h.tab hu hne eb.symm hb'
  have e1 : (List.range (j + 1)).map (fun i => if i = j then v else V i) = (List.range j).map V ++ [v] := by
    rw [List.range_succ, List.map_append]
    congr 1
    · apply List.map_congr_left
      intro i hi
      rw [if_neg (by have := List.mem_range.1 hi; omega)]
    · simp
  have hbk : ∀ i, i < j + 1 → (if i = j then v else V i).ownBlock = (U i).ownBlock ∨ ∃ b, (if i = j then v else V i).ownBlock = some b ∧ W.heap.size ≤ b := fun i hi => by
    by_cases q : i = j
    · subst q; rw [if_pos rfl]
      rcases h.cbl hj with ⟨a, cap, e1, e2⟩ | ⟨b, e1, e2⟩
      · left; rw [e1, e2]; cases a <;> rfl
      · exact .inr ⟨b, e1, e2⟩
    · rw [if_neg q]; exact h.blk i (by omega)
  refine ⟨tv', w2, hr, ⟨fun i => if i = j then v else V i, fun i hi => other (h.old i hi), h.lo, h.pw, fun i hi => ?_, hbk, fun h1 => ?_, fun h1 => .inl ?_, fun h1 i hi b hb' => ?_, by rw [e1]; exact ho, fun b hb' => ?_, Nat.le_trans h.wl hK1.size⟩, hK1, own_one ho⟩
  · by_cases q : i = j
    · subst q; rw [if_pos rfl]; exact other (h.cur hj)
    · rw [if_neg q]; exact other (h.new i (by omega))
  · simpa [apN] using other (h.old (j + 1) h1)
  · obtain ⟨a, cap, e1, _⟩ := own_slice (h.old (j + 1) h1)
    exact ⟨a, cap, e1, e1⟩
  · intro hv
    rcases hbk i hi with q | ⟨c, q, qc⟩
    · rw [q] at hv; exact h.pw (j + 1) i h1 (by omega) (by omega) b hb' hv
    · rw [q] at hv; cases hv
      have := h.lo (j + 1) h1 b hb'
      omega
  · rcases hfr with ⟨g, cap, q1, _, q3⟩ | ⟨⟨c, q1, q2⟩, _⟩
    · rw [q3] at hb'; cases hb'; exact h.tbl g (by rw [q1]; rfl)
    · rw [q1] at hb'; cases hb'
      exact Nat.le_trans h.wl q2
/-- Something of another kind was touched. -/
theorem GB.other (h : GB W e te s n M U ln X nw j k V v tv w) {e2 : TypeId} {s2 n2 : Nat} {v2 : Value} {Y : List Value} (h2 : w.ownsRow 0 e2 s2 v2 n2 Y) (hne : e2 ≠ e) (hne2 : e2 ≠ te) (hK : Keeps (fun b => some b = v2.ownBlock) w w') : GB W e te s n M U ln X nw j k V v tv w' := by
  have o1 : ∀ {u : Value} {m : Nat} {xs : List Value}, w.ownsRow 0 e s u m xs → w'.ownsRow 0 e s u m xs := fun hu => owns_kept hu hK fun b hb' eb => own_ne h2 hu hne eb.symm hb'
  exact ⟨fun i hi => o1 (h.old i hi), h.lo, h.pw, fun i hi => o1 (h.new i hi), h.blk, fun hj => o1 (h.cur hj), h.cbl, h.dis, owns_kept h.tab hK fun b hb' eb => own_ne h2 h.tab hne2 eb.symm hb', h.tbl, Nat.le_trans h.wl hK.size⟩
theorem GB.grown (h : GB W e te s n M U ln X nw j k V v tv w) (hK : Keeps (fun _ => False) w w') : GB W e te s n M U ln X nw j k V v tv w' := by
  have o1 : ∀ {u : Value} {e : TypeId} {s m : Nat} {xs : List Value}, w.ownsRow 0 e s u m xs → w'.ownsRow 0 e s u m xs := fun hu => owns_kept hu hK fun _ _ e => e
  exact ⟨fun i hi => o1 (h.old i hi), h.lo, h.pw, fun i hi => o1 (h.new i hi), h.blk, fun hj => o1 (h.cur hj), h.cbl, h.dis, o1 h.tab, h.tbl, Nat.le_trans h.wl hK.size⟩
/-- Which blocks were touched. -/
theorem GB.curB (h : GB W e te s n M U ln X nw j k V v tv w) (hj : j < n) {b : Nat} (hb : v.ownBlock = some b) : (U j).ownBlock = some b ∨ W.heap.size ≤ b := by
  rcases h.cbl hj with ⟨a, cap, e1, e2⟩ | ⟨c, e1, e2⟩
  · left
    rw [e2] at hb; rw [e1]
    cases a with
    | none => cases hb
    | some a => exact hb
  · rw [e1] at hb; cases hb; exact .inr e2
end
end Go.Proofs.YtjadpbkhfclldaaGreat.Gw
