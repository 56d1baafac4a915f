import Derived.Test.YthaoopaafdgioaaOz
import Derived.Test.YthaoopaafdgioaaPq
namespace Go.Proofs.Ythaoopaafdgioaa
open Go.RowKit
set_option linter.unusedVariables false
set_option linter.unusedSimpArgs false
set_option maxRecDepth 8000

/-- A longer row that begins as the old one does, in its block: the old one is there still. -/
theorem owns_prefix {w : World} {e : TypeId} {size n m g cap : Nat} {vs news : List Value} (h0 : vs.length = n * size) (hnm : n ≤ m)
    (h : w.ownsRow 0 e size (.slice (some ⟨g, 0, none⟩) m cap) m (vs ++ news)) : w.ownsRow 0 e size (.slice (some ⟨g, 0, none⟩) n cap) n vs := by
  refine ⟨h0, ?_⟩
  rcases h.2 with ⟨h2, _⟩ | ⟨g2, cap2, cur, h2, hb, hg, h3, h4, h5, h6⟩
  · cases h2
  · cases h2
    refine .inr ⟨g, cap, cur, rfl, hb, hg, by omega, h4, h5, ?_⟩
    have : n * size ≤ m * size := Nat.mul_le_mul_right _ hnm
    have h7 : (cur.toList.take (m * size)).take (n * size) = (vs ++ news).take (n * size) := by rw [h6]
    rw [List.take_take, Nat.min_eq_left this, ← h0, List.take_left] at h7
    rw [← h0]; exact h7

/-- append to a row of one's own: in place where there is room, else anew; the old row is as it was. -/
theorem append_old {w : World} (t e : TypeId) (i : TypeInfo) (z : Value) (size bytes : Nat) (ht : Try.prog.underlying t = some (.slice e)) (hi : Try.prog.info? e = some i) (hz : i.zero = some z)
    (hs : i.size = size) (hb : i.bytes = bytes) (hzs : z.cells.size = size) (h0 : 0 < size) (v : Value) (n : Nat) (vs : List Value) (hown : w.ownsRow 0 e size v n vs)
    (a : Addr) (m c : Nat) (hm0 : 0 < m) (news : List Value) (hl : news.length = m * size) (hnews : ∀ j u, news[j]? = some u → w.cell? (a.add j) = some u) (h1 : ∀ u ∈ news, u.oneCell' = true)
    (hm : n + m ≤ maxLen) (hbytes : (n + m) * bytes ≤ 140737488355328) :
    ∃ v' W', (∀ ty, (Builtin.append_ #[t, t] ty #[v, .slice (some a) m c]).run Try.prog w = .ok v' W') ∧ W'.ownsRow 0 e size v' (n + m) (vs ++ news) ∧ W'.ownsRow 0 e size v n vs ∧
      Keeps (fun k => some k = v.ownBlock) w W' ∧
      ((∃ g cap, v = .slice (some ⟨g, 0, none⟩) n cap ∧ n + m ≤ cap ∧ v' = .slice (some ⟨g, 0, none⟩) (n + m) cap) ∨ ((∃ k, v'.ownBlock = some k ∧ w.heap.size ≤ k) ∧ Keeps (fun _ => False) w W')) := by
  obtain ⟨v', W', hr, ho, hg, hnil⟩ := run_append_own (P := Try.prog) w 0 t 0 e i z size bytes ht hi hz hs hb hzs h0 v n vs hown a m c news hl hnews h1 hm hbytes (Nat.zero_le _)
  have hbig : n + m ≤ 9223372036854775807 := by unfold maxLen at hm; omega
  refine ⟨v', W', fun ty => hr, ho, ?_⟩
  have hKg := Keeps.of_grown hg
  rcases hown.2 with ⟨rfl, rfl⟩ | ⟨g, cap, cur, rfl, hb0, hg1, hnc, hcm, hcs, htake⟩
  · have h2 := run_append_nil (P := Try.prog) w t 0 e i z ht hi hz a m c news (by rw [hs]; exact hl) hnews (by omega) (by omega) (by
        rw [hb]
        rw [Nat.zero_add] at hbytes
        omega)
    rw [hr] at h2
    have e1 : v' = _ := (Result.ok.inj h2).1
    have hK : Keeps (fun _ => False) w W' := hKg.mono fun k _ e => by cases e
    exact ⟨owns_kept hown hK fun _ _ h => h, hKg, .inr ⟨by rw [e1]; exact ⟨_, rfl, by simp⟩, hK⟩⟩
  · by_cases hroom : n + m ≤ cap
    · have h2 := run_append_room (P := Try.prog) w t 0 e i ht hi g n cap cur hg1 a m c news (by rw [hs]; exact hl) hnews h1 hroom (by
        rw [hs, hcs, hl, ← Nat.add_mul]; exact Nat.mul_le_mul_right _ hroom)
      rw [hr] at h2
      have e1 : v' = _ := (Result.ok.inj h2).1
      refine ⟨?_, hKg, .inl ⟨g, cap, rfl, hroom, e1⟩⟩
      rw [e1] at ho
      exact owns_prefix hown.1 (by omega) ho
    · have h2 := run_append_grow (P := Try.prog) w t 0 e i z ht hi hz ⟨g, 0, none⟩ n cap vs (by rw [hs]; exact hown.1) (hown.cells rfl) a m c news (by rw [hs]; exact hl) hnews (by omega) (by omega) (by
        rw [hb]; exact growslice_fits (by omega) hbytes)
      rw [hr] at h2
      have e1 : v' = _ := (Result.ok.inj h2).1
      have e2 : W' = _ := (Result.ok.inj h2).2
      have hK : Keeps (fun _ => False) w W' := by rw [e2]; exact ((Keeps.refl _ _).drew).alloc _
      exact ⟨owns_kept hown hK fun _ _ h => h, hKg, .inr ⟨by rw [e1]; exact ⟨_, rfl, by simp⟩, hK⟩⟩

/-- append of a new block of one. -/
theorem append_one {w : World} (t e : TypeId) (i : TypeInfo) (z : Value) (size bytes : Nat) (ht : Try.prog.underlying t = some (.slice e)) (hi : Try.prog.info? e = some i) (hz : i.zero = some z)
    (hs : i.size = size) (hb : i.bytes = bytes) (hzs : z.cells.size = size) (h0 : 0 < size) (v : Value) (n : Nat) (vs : List Value) (hown : w.ownsRow 0 e size v n vs)
    (xs : Array Value) (hl : xs.size = size) (h1 : ∀ u ∈ xs.toList, u.oneCell' = true)
    (hm : n + 1 ≤ maxLen) (hbytes : (n + 1) * bytes ≤ 140737488355328) :
    ∃ v' W', (∀ ty, (Builtin.append_ #[t, t] ty #[v, .slice (some ⟨w.heap.size, 0, none⟩) 1 1]).run Try.prog (w.alloc (.cells xs e)) = .ok v' W') ∧ W'.ownsRow 0 e size v' (n + 1) (vs ++ xs.toList) ∧ W'.ownsRow 0 e size v n vs ∧
      Keeps (fun k => some k = v.ownBlock) w W' ∧
      ((∃ g cap, v = .slice (some ⟨g, 0, none⟩) n cap ∧ n + 1 ≤ cap ∧ v' = .slice (some ⟨g, 0, none⟩) (n + 1) cap) ∨ ((∃ k, v'.ownBlock = some k ∧ w.heap.size ≤ k) ∧ Keeps (fun _ => False) w W')) := by
  have hW : Keeps (fun _ => False) w (w.alloc (.cells xs e)) := (Keeps.refl _ w).alloc _
  have hown1 : (w.alloc (.cells xs e)).ownsRow 0 e size v n vs := owns_kept hown hW (fun _ _ h => h)
  obtain ⟨v', W', hr, ho, hold, hK, hfr⟩ := append_old t e i z size bytes ht hi hz hs hb hzs h0 v n vs hown1 ⟨w.heap.size, 0, none⟩ 1 1 (by omega) xs.toList (by simpa using hl) (by
    intro j u hj
    have hB := Blk.new w xs e
    rw [addr_add]
    exact hB.cell (by rw [Nat.zero_add]; exact hj)) h1 hm hbytes
  refine ⟨v', W', hr, ho, hold, (hW.mono fun _ _ h => h.elim).trans hK fun _ _ h => h, ?_⟩
  rcases hfr with h | ⟨⟨k, h, h2⟩, h3⟩
  · exact .inl h
  · exact .inr ⟨⟨k, h, by simp at h2; omega⟩, hW.trans h3 fun _ _ e => e⟩

theorem own_cell {w : World} {e : TypeId} {size n g cap : Nat} {xs : List Value} (h : w.ownsRow 0 e size (.slice (some ⟨g, 0, none⟩) n cap) n xs) {i : Nat} {v : Value} (hi : xs[i]? = some v) : w.cell? ⟨g, i, none⟩ = some v := by
  have := h.cells rfl i v hi
  rw [addr_add] at this
  simpa using this
theorem own_ne {w : World} {e1 e2 : TypeId} {s1 s2 n1 n2 : Nat} {u v : Value} {xs ys : List Value} (h1 : w.ownsRow 0 e1 s1 u n1 xs) (h2 : w.ownsRow 0 e2 s2 v n2 ys) (hne : e1 ≠ e2) {k : Nat} (hu : u.ownBlock = some k) : v.ownBlock ≠ some k := fun hv => by
  rcases h1.2 with ⟨e, _⟩ | ⟨g, cap, cur, e, _, q1, _⟩
  · rw [e] at hu; cases hu
  · rcases h2.2 with ⟨e', _⟩ | ⟨g', cap', cur', e', _, q2, _⟩
    · rw [e'] at hv; cases hv
    · rw [e] at hu; rw [e'] at hv
      cases hu
      cases hv
      rw [q1] at q2
      simp only [Option.some.injEq, Obj.cells.injEq] at q2
      exact hne q2.2.1
theorem own_form {w : World} {e : TypeId} {size n : Nat} {v : Value} {xs : List Value} (h : w.ownsRow 0 e size v n xs) (hn : 0 < n) : ∃ g cap, v = .slice (some ⟨g, 0, none⟩) n cap ∧ n ≤ cap ∧ cap ≤ maxLen := by
  rcases h.2 with ⟨_, h0⟩ | ⟨g, cap, cur, e, _, _, h1, h2, _⟩
  · omega
  · exact ⟨g, cap, e, h1, h2⟩

def lkV (c : Int) (j : Nat) : List Value := [.int .i64 (c - j), .int .i64 0, .int .i64 0, .int .i64 0, .slice none 0 0]
def lkN (c : Int) (k : Nat) : List Value := (List.range k).flatMap (lkV c)
theorem lkN_succ (c : Int) (k : Nat) : lkN c (k + 1) = lkN c k ++ lkV c k := by unfold lkN; rw [List.range_succ, List.flatMap_append]; simp
theorem lkN_len (c : Int) (k : Nat) : (lkN c k).length = k * 5 := by
  induction k with
  | zero => rfl
  | succ k ih => rw [lkN_succ, List.length_append, ih]; simp [lkV]; omega
theorem lkN_get (c : Int) {k K : Nat} (h : k < K) : (lkN c K)[k * 5]? = some (.int .i64 (c - k)) := by
  induction K with
  | zero => omega
  | succ K ih =>
    rw [lkN_succ]
    by_cases e : k = K
    · subst e
      rw [List.getElem?_append_right (by rw [lkN_len]; omega), lkN_len, Nat.sub_self]; rfl
    · rw [List.getElem?_append_left (by rw [lkN_len]; omega)]; exact ih (by omega)

/-- A list of places that grows, beginning with one that has no room. -/
structure Gr (W : World) (e : TypeId) (a : Option Addr) (n : Nat) (vs : List Value) (c : Int) (k : Nat) (v : Value) (w : World) : Prop where
  own : w.ownsRow 0 e 5 v (n + k) (vs ++ lkN c k)
  old : (k = 0 ∧ v = .slice a n n) ∨ ∃ g, v.ownBlock = some g ∧ W.heap.size ≤ g

theorem Gr.step {W w : World} {a : Option Addr} {n : Nat} {vs : List Value} {c : Int} {k : Nat} {v : Value} (t e : TypeId) (hte : Try.prog.underlying t = some (.slice e))
    (hin : (Try.prog.info? e).map (fun i => (i.zero, i.size, i.bytes)) = some (some (.agg #[.int .i64 0, .int .i64 0, .int .i64 0, .int .i64 0, .slice none 0 0]), 5, 56))
    (hG : Gr W e a n vs c k v w) (hK : Keeps (fun _ => False) W w) (hn : n + k < 1000000) :
    ∃ v' W', (∀ ty, (Builtin.append_ #[t, t] ty #[v, .slice (some ⟨w.heap.size, 0, none⟩) 1 1]).run Try.prog (w.alloc (.cells #[.int .i64 (c - k), .int .i64 0, .int .i64 0, .int .i64 0, .slice none 0 0] e)) = .ok v' W') ∧
      Gr W e a n vs c (k + 1) v' W' ∧ Keeps (fun _ => False) W W' ∧ Keeps (fun j => some j = v.ownBlock) w W' := by
  obtain ⟨i, hi, hz, hs, hb⟩ := info_parts hin
  obtain ⟨v', W', hr, ho, hold, hK1, hfr⟩ := append_one t e i _ 5 56 hte hi hz hs hb rfl (by omega) v (n + k) (vs ++ lkN c k) hG.own #[.int .i64 (c - k), .int .i64 0, .int .i64 0, .int .i64 0, .slice none 0 0] rfl
    (fun u hu => by simp only [List.mem_cons, List.not_mem_nil, or_false] at hu; rcases hu with rfl | rfl | rfl | rfl | rfl <;> rfl) (by unfold maxLen; omega) (by omega)
  have ho' : W'.ownsRow 0 e 5 v' (n + (k + 1)) (vs ++ lkN c (k + 1)) := by
    rw [lkN_succ, ← List.append_assoc]; exact ho
  rcases hfr with ⟨g, cap, e1, e2, e3⟩ | ⟨⟨g, e1, e2⟩, e3⟩
  · rcases hG.old with ⟨h0, hv⟩ | ⟨g2, h1, h2⟩
    · subst h0
      rw [hv] at e1
      injection e1 with _ _ e4
      omega
    · refine ⟨v', W', hr, ⟨ho', .inr ⟨g, by rw [e3]; rfl, ?_⟩⟩, hK.trans hK1 fun j hj e => ?_, hK1⟩
      · rw [e1] at h1; cases h1; exact h2
      · rw [h1] at e; cases e; omega
  · exact ⟨v', W', hr, ⟨ho', .inr ⟨g, e1, Nat.le_trans hK.size e2⟩⟩, hK.trans e3 fun _ _ e => e, hK1⟩
theorem Gr.kept {W w w' : World} {e : TypeId} {a : Option Addr} {n : Nat} {vs : List Value} {c : Int} {k : Nat} {v : Value} {S : Nat → Prop} (h : Gr W e a n vs c k v w) (hK : Keeps S w w') (hS : ∀ j, v.ownBlock = some j → ¬ S j) : Gr W e a n vs c k v w' :=
  ⟨owns_kept h.own hK hS, h.old⟩
/-- The other one of two lists. -/
theorem Gr.other {W w w' : World} {e e2 : TypeId} {a b : Option Addr} {n m : Nat} {vs us : List Value} {c d : Int} {k l : Nat} {v u : Value} (h : Gr W e a n vs c k v w) (h2 : Gr W e2 b m us d l u w) (hne : e2 ≠ e) (hK : Keeps (fun j => some j = u.ownBlock) w w') : Gr W e a n vs c k v w' :=
  h.kept hK fun j hj ej => own_ne h2.own h.own hne ej.symm hj


/-- k things, put behind one another. -/
def apN (f : Nat → List Value) (k : Nat) : List Value := (List.range k).flatMap f
theorem apN_succ (f : Nat → List Value) (k : Nat) : apN f (k + 1) = apN f k ++ f k := by unfold apN; rw [List.range_succ, List.flatMap_append]; simp
theorem apN_len {f : Nat → List Value} {s : Nat} (hf : ∀ k, (f k).length = s) (k : Nat) : (apN f k).length = k * s := by
  induction k with
  | zero => simp [apN]
  | succ k ih => rw [apN_succ, List.length_append, ih, hf, Nat.add_mul, Nat.one_mul]
theorem apN_get {f : Nat → List Value} {s : Nat} (hf : ∀ k, (f k).length = s) {k K : Nat} (h : k < K) (hs : 0 < s) : (apN f K)[k * s]? = (f k)[0]? := by
  induction K with
  | zero => omega
  | succ K ih =>
    rw [apN_succ]
    by_cases e : k = K
    · subst e
      rw [List.getElem?_append_right (by rw [apN_len hf]; exact Nat.le_refl _), apN_len hf, Nat.sub_self]
    · have : k * s < K * s := Nat.mul_lt_mul_of_pos_right (by omega) hs
      rw [List.getElem?_append_left (by rw [apN_len hf]; exact this)]; exact ih (by omega)
theorem own_lt {w : World} {e : TypeId} {s n : Nat} {v : Value} {xs : List Value} (h : w.ownsRow 0 e s v n xs) {k : Nat} (hv : v.ownBlock = some k) : k < w.heap.size := by
  rcases h.2 with ⟨h2, _⟩ | ⟨g, cap, cur, h2, _, h3, _⟩
  · rw [h2] at hv; cases hv
  · rw [h2] at hv; cases hv
    exact (Array.getElem?_eq_some_iff.1 h3).1
theorem own_blk_ne {w : World} {e t : TypeId} {s n b : Nat} {v : Value} {xs cs : List Value} (h : w.ownsRow 0 e s v n xs) (hB : Blk w b cs t) (hne : e ≠ t) : v.ownBlock ≠ some b := fun hv => by
  rcases h.2 with ⟨h2, _⟩ | ⟨g, cap, cur, h2, _, h3, _⟩
  · rw [h2] at hv; cases hv
  · rw [h2] at hv; cases hv
    unfold Blk at hB
    rw [h3] at hB
    simp only [Option.some.injEq, Obj.cells.injEq] at hB
    exact hne hB.2.1

/-- Things are put behind a list, which itself stays as it is. -/
structure Apd (W : World) (e : TypeId) (s : Nat) (u : Value) (n : Nat) (X : List Value) (f : Nat → List Value) (k : Nat) (v : Value) (w : World) : Prop where
  own : w.ownsRow 0 e s v (n + k) (X ++ apN f k)
  old : w.ownsRow 0 e s u n X
  kp : Keeps (fun b => some b = u.ownBlock) W w
  blk : (∃ a cap, u = .slice a n cap ∧ v = .slice a (n + k) cap) ∨ ∃ b, v.ownBlock = some b ∧ W.heap.size ≤ b
theorem Apd.start {W : World} {e : TypeId} {s n : Nat} {u : Value} {X : List Value} (f : Nat → List Value) (h : W.ownsRow 0 e s u n X) : Apd W e s u n X f 0 u W := by
  refine ⟨by simpa [apN] using h, h, Keeps.refl _ _, .inl ?_⟩
  rcases h.2 with ⟨h2, h3⟩ | ⟨g, cap, cur, h2, _⟩
  · exact ⟨none, 0, by rw [h2, h3], by rw [h2, h3]⟩
  · exact ⟨_, cap, h2, h2⟩
theorem Apd.step {W w : World} {e : TypeId} {s n : Nat} {u v : Value} {X : List Value} {f : Nat → List Value} {k : Nat} (h : Apd W e s u n X f k v w) (hu : W.ownsRow 0 e s u n X)
    (t : TypeId) (z : Value) (bytes : Nat) (hte : Try.prog.underlying t = some (.slice e)) (hin : (Try.prog.info? e).map (fun i => (i.zero, i.size, i.bytes)) = some (some z, s, bytes)) (hzs : z.cells.size = s) (hs : 0 < s) (hby : bytes ≤ 1000)
    (xs : Array Value) (hxs : xs.toList = f k) (hlen : (f k).length = s) (h1 : ∀ u ∈ f k, u.oneCell' = true) (hn : n + k < 1000000) :
    ∃ v' W', (∀ ty, (Builtin.append_ #[t, t] ty #[v, .slice (some ⟨w.heap.size, 0, none⟩) 1 1]).run Try.prog (w.alloc (.cells xs e)) = .ok v' W') ∧ Apd W e s u n X f (k + 1) v' W' := by
  obtain ⟨i, hi, hz, hsz, hb⟩ := info_parts hin
  have hmul : (n + k + 1) * bytes ≤ 1000000 * 1000 := Nat.mul_le_mul (by omega) hby
  obtain ⟨v', W', hr, ho, hold, hK1, hfr⟩ := append_one t e i z s bytes hte hi hz hsz hb hzs hs v (n + k) (X ++ apN f k) h.own xs (by rw [← hlen, ← hxs]; simp) (by rw [hxs]; exact h1) (by unfold maxLen; omega) (by omega)
  refine ⟨v', W', hr, ?_, ?_, ?_, ?_⟩
  · rw [apN_succ, ← List.append_assoc, ← hxs]; exact ho
  · rcases h.blk with ⟨a, cap, e1, e2⟩ | ⟨b, e1, e2⟩
    · rw [e2] at hold
      rcases hold.2 with ⟨h2, h3⟩ | ⟨g, cap2, cur, h2, _⟩
      · have hX : X = [] := by
          have := hu.1
          rw [show n = 0 by omega, Nat.zero_mul] at this
          exact List.length_eq_zero_iff.1 this
        injection h2 with q1 q2 q3
        subst q1 q3
        have hn0 : n = 0 := by omega
        subst hn0
        rw [e1, hX]
        exact ⟨by simp, .inl ⟨rfl, rfl⟩⟩
      · injection h2 with q1 q2 q3
        subst q1
        rw [e1]
        exact owns_prefix hu.1 (by omega) hold
    · refine owns_kept h.old hK1 fun k hk ek => ?_
      rw [e1] at ek
      cases ek
      have := own_lt hu hk
      omega
  · refine h.kp.trans hK1 fun j hj ej => ?_
    rcases h.blk with ⟨a, cap, e1, e2⟩ | ⟨b, e1, e2⟩
    · rw [e2] at ej; rw [e1]
      cases a with
      | none => cases ej
      | some a => exact ej
    · rw [e1] at ej; cases ej; omega
  · rcases hfr with ⟨g, cap, q1, _, q3⟩ | ⟨⟨b, q1, q2⟩, _⟩
    · rcases h.blk with ⟨a, cap2, e1, e2⟩ | ⟨b, e1, e2⟩
      · rw [e2] at q1
        injection q1 with r1 r2 r3
        subst r1 r3
        exact .inl ⟨_, _, e1, q3⟩
      · rw [q1] at e1
        exact .inr ⟨b, by rw [q3]; exact e1, e2⟩
    · exact .inr ⟨b, q1, Nat.le_trans h.kp.size q2⟩

/-- All lists of a kind, the first ones of which have grown; and the list of the grown ones. -/
structure GA (W : World) (e te : TypeId) (s n M : Nat) (U : Nat → Value) (ln : Nat → Nat) (X : Nat → List Value) (nw : Nat → Nat → List Value) (j : Nat) (V : Nat → Value) (tv : Value) (w : World) : Prop where
  kp : Keeps (fun b => ∃ i, i < n ∧ (U i).ownBlock = some b) W w
  old : ∀ i, i < n → w.ownsRow 0 e s (U i) (ln i) (X i)
  new : ∀ i, i < j → w.ownsRow 0 e s (V i) (ln i + M) (X i ++ apN (nw i) M)
  blk : ∀ i, i < j → (V i).ownBlock = (U i).ownBlock ∨ ∃ b, (V i).ownBlock = some b ∧ W.heap.size ≤ b
  tab : w.ownsRow 0 te 1 tv j ((List.range j).map V)
  tbl : ∀ b, tv.ownBlock = some b → W.heap.size ≤ b
def PwU (n : Nat) (U : Nat → Value) : Prop := ∀ i j, i < n → j < n → i ≠ j → ∀ k, (U i).ownBlock = some k → (U j).ownBlock ≠ some k
theorem GA.start {W : World} {e te : TypeId} {s n M : Nat} {U : Nat → Value} {ln : Nat → Nat} {X : Nat → List Value} {nw : Nat → Nat → List Value} (h : ∀ i, i < n → W.ownsRow 0 e s (U i) (ln i) (X i)) : GA W e te s n M U ln X nw 0 U (.slice none 0 0) W :=
  ⟨Keeps.refl _ _, h, fun i hi => by omega, fun i hi => by omega, ⟨by simp, .inl ⟨rfl, rfl⟩⟩, fun b hb => by cases hb⟩
/-- One list has grown, and was put behind the others. -/
theorem GA.step {W w w1 : World} {e te : TypeId} {s n M : Nat} {U V : Nat → Value} {ln : Nat → Nat} {X : Nat → List Value} {nw : Nat → Nat → List Value} {j : Nat} {tv v : Value} (h : GA W e te s n M U ln X nw j V tv w) (hW : ∀ i, i < n → W.ownsRow 0 e s (U i) (ln i) (X i)) (hpw : PwU n U) (hj : j < n)
    (hA : Apd w e s (U j) (ln j) (X j) (nw j) M v w1) (t : TypeId) (hne : te ≠ e) (hte : Try.prog.underlying t = some (.slice te)) (hin : (Try.prog.info? te).map (fun i => (i.zero, i.size, i.bytes)) = some (some (.slice none 0 0), 1, 24)) (hn : n < 1000) (hv1 : v.oneCell' = true) :
    ∃ tv' w2, (∀ ty, (Builtin.append_ #[t, t] ty #[tv, .slice (some ⟨w1.heap.size, 0, none⟩) 1 1]).run Try.prog (w1.alloc (.cells #[v] te)) = .ok tv' w2) ∧ ∃ V', GA W e te s n M U ln X nw (j + 1) V' tv' w2 := by
  obtain ⟨i0, hi, hz, hsz, hb⟩ := info_parts hin
  have tab1 : w1.ownsRow 0 te 1 tv j ((List.range j).map V) := owns_kept h.tab hA.kp fun k hk ek => own_ne (h.old j hj) h.tab hne.symm ek.symm hk
  obtain ⟨tv', w2, hr, ho, _, hK1, hfr⟩ := append_one t te i0 _ 1 24 hte hi hz hsz hb rfl (by omega) tv j _ tab1 #[v] rfl (fun u hu => by simp only [List.mem_cons, List.not_mem_nil, or_false] at hu; rw [hu]; exact hv1) (by unfold maxLen; omega) (by omega)
  have old1 : ∀ i, i < n → w1.ownsRow 0 e s (U i) (ln i) (X i) := fun i hi => by
    by_cases q : i = j
    · subst q; exact hA.old
    · exact owns_kept (h.old i hi) hA.kp fun k hk ek => hpw i j hi hj q k hk ek.symm
  have new1 : ∀ i, i < j → w1.ownsRow 0 e s (V i) (ln i + M) (X i ++ apN (nw i) M) := fun i hi => owns_kept (h.new i hi) hA.kp fun k hk ek => by
    rcases h.blk i hi with q | ⟨b, q, qb⟩
    · rw [q] at hk; exact hpw i j (by omega) hj (by omega) k hk ek.symm
    · rw [q] at hk; cases hk
      have := own_lt (hW j hj) ek.symm
      omega
  have other : ∀ {u : Value} {m : Nat} {xs : List Value}, w1.ownsRow 0 e s u m xs → w2.ownsRow 0 e s u m xs := fun hu => owns_kept hu hK1 fun k hk ek => own_ne tab1 hu hne ek.symm hk
  refine ⟨tv', w2, hr, fun i => if i = j then v else V i, ?_, fun i hi => other (old1 i hi), fun i hi => ?_, fun i hi => ?_, ?_, fun b hb => ?_⟩
  · refine (h.kp.trans hA.kp fun k hk ek => ⟨j, hj, ek.symm⟩).trans hK1 fun k hk ek => ?_
    have := h.tbl k ek.symm
    omega
  · by_cases q : i = j
    · subst q; rw [if_pos rfl]; exact other hA.own
    · rw [if_neg q]; exact other (new1 i (by omega))
  · by_cases q : i = j
    · subst q; rw [if_pos rfl]
      rcases hA.blk with ⟨a, cap, e1, e2⟩ | ⟨b, e1, e2⟩
      · left; rw [e1, e2]; cases a <;> rfl
      · exact .inr ⟨b, e1, Nat.le_trans h.kp.size e2⟩
    · rw [if_neg q]; exact h.blk i (by omega)
  · have e1 : (List.range (j + 1)).map (fun i => if i = j then v else V i) = (List.range j).map V ++ [v] := by
      rw [List.range_succ, List.map_append]
      congr 1
      · apply List.map_congr_left
        intro i hi
        rw [if_neg (by have := List.mem_range.1 hi; omega)]
      · simp
    rw [e1]; exact ho
  · rcases hfr with ⟨g, cap, q1, _, q3⟩ | ⟨⟨k, q1, q2⟩, _⟩
    · rw [q3] at hb; cases hb; exact h.tbl g (by rw [q1]; rfl)
    · rw [q1] at hb; cases hb
      exact Nat.le_trans (Nat.le_trans h.kp.size hA.kp.size) q2
theorem GA.kept {W w w' : World} {e te : TypeId} {s n M : Nat} {U V : Nat → Value} {ln : Nat → Nat} {X : Nat → List Value} {nw : Nat → Nat → List Value} {j : Nat} {tv : Value} {S : Nat → Prop} (h : GA W e te s n M U ln X nw j V tv w) (hK : Keeps S w w') (hS : ∀ k, S k → (∀ {m : Nat} {u : Value} {xs : List Value}, w.ownsRow 0 e s u m xs → u.ownBlock ≠ some k) ∧ tv.ownBlock ≠ some k) :
    (∀ i, i < n → w'.ownsRow 0 e s (U i) (ln i) (X i)) ∧ (∀ i, i < j → w'.ownsRow 0 e s (V i) (ln i + M) (X i ++ apN (nw i) M)) ∧ w'.ownsRow 0 te 1 tv j ((List.range j).map V) :=
  ⟨fun i hi => owns_kept (h.old i hi) hK fun k hk e => (hS k e).1 (h.old i hi) hk, fun i hi => owns_kept (h.new i hi) hK fun k hk e => (hS k e).1 (h.new i hi) hk, owns_kept h.tab hK fun k hk e => (hS k e).2 hk⟩
end Go.Proofs.Ythaoopaafdgioaa
