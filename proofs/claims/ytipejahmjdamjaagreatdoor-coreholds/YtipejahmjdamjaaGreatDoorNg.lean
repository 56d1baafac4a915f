import Derived.Test.YtipejahmjdamjaaGreatDoorNc
namespace Go.Proofs.YtipejahmjdamjaaGreatDoor
open Go.RowKit Go.Shelf
set_option maxRecDepth 6000
set_option linter.unusedVariables false

theorem owns_kept {S : Nat → Prop} {w w' : World} {e : TypeId} {size n : Nat} {v : Value} {vs : List Value} (h : w.ownsRow 0 e size v n vs) (hK : Keeps S w w') (hn : ∀ k, v.ownBlock = some k → ¬ S k) : w'.ownsRow 0 e size v n vs := by
  refine ⟨h.1, ?_⟩
  rcases h.2 with h2 | ⟨g, cap, cur, rfl, hb, hg, h3⟩
  · exact .inl h2
  · refine .inr ⟨g, cap, cur, rfl, hb, ?_, h3⟩
    rw [hK.block g (Array.getElem?_eq_some_iff.1 hg).1 (hn g rfl)]
    exact hg


theorem own_slice {w : World} {e : TypeId} {size n : Nat} {v : Value} {vs : List Value} (h : w.ownsRow 0 e size v n vs) : ∃ a c, v = .slice a n c ∧ n ≤ c ∧ c ≤ maxLen := by
  rcases h.2 with ⟨rfl, rfl⟩ | ⟨g, cap, cur, rfl, _, hg1, hnc, hcm, hcs, htake⟩
  · exact ⟨none, 0, rfl, Nat.le_refl _, Nat.zero_le _⟩
  · exact ⟨_, _, rfl, hnc, hcm⟩

theorem append_many {w : World} (t e : TypeId) (i : TypeInfo) (z : Value) (size bytes : Nat) (ht : Tryz.prog.underlying t = some (.slice e)) (hi : Tryz.prog.info? e = some i) (hz : i.zero = some z)
    (hs : i.size = size) (hb : i.bytes = bytes) (hzs : z.cells.size = size) (h0 : 0 < size) (v : Value) (n : Nat) (vs : List Value) (hown : w.ownsRow 0 e size v n vs)
    (a : Addr) (m c : Nat) (news : List Value) (hl : news.length = m * size) (hnews : ∀ j u, news[j]? = some u → w.cell? (a.add j) = some u) (h1 : ∀ u ∈ news, u.oneCell' = true)
    (hm : n + m ≤ maxLen) (hbytes : (n + m) * bytes ≤ 140737488355328) :
    ∃ v' W', (∀ ty, (Builtin.append_ #[t, t] ty #[v, .slice (some a) m c]).run Tryz.prog w = .ok v' W') ∧ W'.ownsRow 0 e size v' (n + m) (vs ++ news) ∧
      (v'.ownBlock = v.ownBlock ∨ ∃ k, v'.ownBlock = some k ∧ w.heap.size ≤ k) ∧ Keeps (fun k => some k = v.ownBlock) w W' := by
  obtain ⟨v', W', hr, ho, hg, hnil⟩ := run_append_own (P := Tryz.prog) w 0 t 0 e i z size bytes ht hi hz hs hb hzs h0 v n vs hown a m c news hl hnews h1 hm hbytes (Nat.zero_le _)
  refine ⟨v', W', fun ty => hr, ho, ?_, Keeps.of_grown hg⟩
  have hbig : n + m ≤ 9223372036854775807 := by unfold maxLen at hm; omega
  rcases hown.2 with ⟨rfl, rfl⟩ | ⟨g, cap, cur, rfl, _, hg1, hnc, hcm, hcs, htake⟩
  · by_cases hm0 : m = 0
    · left; rw [hnil.2 ⟨rfl, hm0⟩]
    · have h2 := run_append_nil (P := Tryz.prog) w t 0 e i z ht hi hz a m c news (by rw [hs]; exact hl) hnews (by omega) (by omega) (by
        rw [hb]
        rw [Nat.zero_add] at hbytes
        omega)
      rw [hr] at h2
      have e1 : v' = _ := (Result.ok.inj h2).1
      right
      rw [e1]
      exact ⟨_, rfl, by simp⟩
  · by_cases hroom : n + m ≤ cap
    · have h2 := run_append_room (P := Tryz.prog) w t 0 e i ht hi g n cap cur hg1 a m c news (by rw [hs]; exact hl) hnews h1 hroom (by
        rw [hs, hcs, hl, ← Nat.add_mul]; exact Nat.mul_le_mul_right _ hroom)
      rw [hr] at h2
      have e1 : v' = _ := (Result.ok.inj h2).1
      left
      rw [e1]
      rfl
    · have h2 := run_append_grow (P := Tryz.prog) w t 0 e i z ht hi hz ⟨g, 0, none⟩ n cap vs (by rw [hs]; exact hown.1) (hown.cells rfl) a m c news (by rw [hs]; exact hl) hnews (by omega) (by omega) (by
        rw [hb]; exact growslice_fits (by omega) hbytes)
      rw [hr] at h2
      have e1 : v' = _ := (Result.ok.inj h2).1
      right
      rw [e1]
      exact ⟨_, rfl, by simp⟩

/-- A type of things of one cell, and that of their lists. -/
structure Elem (st et : TypeId) : Prop where
  und : Tryz.prog.underlying st = some (.slice et)
  inf : ∃ i z b, Tryz.prog.info? et = some i ∧ i.zero = some z ∧ i.size = 1 ∧ i.bytes = b ∧ z.cells.size = 1 ∧ b ≤ 24
theorem elemI : Elem 99 3 := by
  obtain ⟨i, h1, h2, h3, h4⟩ := info_parts Ch.Tryz.info3
  exact ⟨Tryz.underlying99, i, _, _, h1, h2, h3, h4, rfl, by omega⟩
theorem elemR : Elem 41 99 := by
  obtain ⟨i, h1, h2, h3, h4⟩ := info_parts Ch.Tryz.info99
  exact ⟨Tryz.underlying41, i, _, _, h1, h2, h3, h4, rfl, by omega⟩

theorem owns_lt {w : World} {e : TypeId} {size n g : Nat} {v : Value} {vs : List Value} (h : w.ownsRow 0 e size v n vs) (hg : v.ownBlock = some g) : g < w.heap.size := by
  rcases h.2 with ⟨rfl, _⟩ | ⟨g', cap, cur, rfl, _, hgg, _⟩
  · simp [Value.ownBlock] at hg
  · simp [Value.ownBlock] at hg
    subst hg
    exact (Array.getElem?_eq_some_iff.1 hgg).1
theorem Keeps.none {S : Nat → Prop} {w w' : World} (h : Keeps (fun _ => False) w w') : Keeps S w w' := h.mono fun _ _ e => e.elim

/-- append to a row of words of one's own: in place, or into a new block: then nothing else is written. -/
theorem app_two {st et : TypeId} (ET : Elem st et) {w : World} (a0 : Option Addr) (n c0 : Nat) (vs : List Value) (hown : w.ownsRow 0 et 1 (.slice a0 n c0) n vs) (a : Addr) (m c : Nat) (news : List Value) (hl : news.length = m) (hm0 : 0 < m) (hnews : ∀ j u, news[j]? = some u → w.cell? (a.add j) = some u) (h1 : ∀ u ∈ news, u.oneCell' = true) (hn : n + m ≤ 8589934592) :
    ∃ v' W', (∀ ty, (Builtin.append_ #[st, st] ty #[.slice a0 n c0, .slice (some a) m c]).run Tryz.prog w = .ok v' W') ∧ W'.ownsRow 0 et 1 v' (n + m) (vs ++ news) ∧
      ((v' = .slice a0 (n + m) c0 ∧ Keeps (fun k => some k = (Value.slice a0 n c0).ownBlock) w W') ∨ ((∃ k, v'.ownBlock = some k ∧ w.heap.size ≤ k) ∧ Keeps (fun _ => False) w W')) := by
  obtain ⟨i0, z, by_, hi, hz, hs, hb, hzs, hby⟩ := ET.inf
  have hbytes : (n + m) * by_ ≤ 140737488355328 := Nat.le_trans (Nat.mul_le_mul_left _ hby) (by omega)
  have hbig : n + m ≤ 9223372036854775807 := by omega
  obtain ⟨v', W', hr, ho, hfr, hK⟩ := append_many st et i0 z 1 by_ ET.und hi hz hs hb hzs (by omega) (.slice a0 n c0) n vs hown a m c news (by omega) hnews h1 (by unfold maxLen; omega) hbytes
  refine ⟨v', W', hr, ho, ?_⟩
  rcases hown.2 with ⟨h0, hn0⟩ | ⟨g, cap, cur, h0, _, hg1, hnc, hcm, hcs, htake⟩
  · right
    cases h0
    have h2 := run_append_nil (P := Tryz.prog) w st 0 et i0 _ ET.und hi hz a m c news (by rw [hs]; omega) hnews (by omega) (by omega) (by rw [hb]; have hm8 : m * by_ ≤ m * 24 := Nat.mul_le_mul_left _ hby; omega)
    rw [hr] at h2
    have e1 := (Result.ok.inj h2)
    refine ⟨⟨_, by rw [e1.1]; rfl, by simp⟩, ?_⟩
    rw [e1.2]
    exact ((Keeps.refl _ _).drew).alloc _
  · cases h0
    by_cases hroom : n + m ≤ c0
    · left
      refine ⟨?_, hK⟩
      have h2 := run_append_room (P := Tryz.prog) w st 0 et i0 ET.und hi g n c0 cur hg1 a m c news (by rw [hs]; omega) hnews h1 hroom (by rw [hs, hcs]; omega)
      rw [hr] at h2
      exact (Result.ok.inj h2).1
    · right
      have h2 := run_append_grow (P := Tryz.prog) w st 0 et i0 _ ET.und hi hz ⟨g, 0, none⟩ n c0 vs (by rw [hs]; exact hown.1) (hown.cells rfl) a m c news (by rw [hs]; omega) hnews (by omega) (by omega) (by
        rw [hb]; exact growslice_fits (by omega) hbytes)
      rw [hr] at h2
      have e1 := (Result.ok.inj h2)
      refine ⟨⟨_, by rw [e1.1]; rfl, by simp⟩, ?_⟩
      rw [e1.2]
      exact ((Keeps.refl _ _).drew).alloc _

/-- The same with one word in a new block. -/
theorem app_one {st et : TypeId} (ET : Elem st et) {w : World} (x : Value) (hx1 : x.oneCell' = true) (a0 : Option Addr) (n c0 : Nat) (vs : List Value) (hown : w.ownsRow 0 et 1 (.slice a0 n c0) n vs) (hn : n ≤ 8589934000) :
    ∃ v' W', (∀ ty, (Builtin.append_ #[st, st] ty #[.slice a0 n c0, .slice (some ⟨w.heap.size, 0, none⟩) 1 1]).run Tryz.prog (w.alloc (.cells #[x] et)) = .ok v' W') ∧ W'.ownsRow 0 et 1 v' (n + 1) (vs ++ [x]) ∧
      ((v' = .slice a0 (n + 1) c0 ∧ Keeps (fun k => some k = (Value.slice a0 n c0).ownBlock) w W') ∨ ((∃ k, v'.ownBlock = some k ∧ w.heap.size ≤ k) ∧ Keeps (fun _ => False) w W')) := by
  have hW : Keeps (fun _ => False) w (w.alloc (.cells #[x] et)) := (Keeps.refl _ w).alloc _
  have hown1 := owns_kept hown hW (fun _ _ h => h)
  obtain ⟨v', W', h1, h2, h3⟩ := app_two ET a0 n c0 vs hown1 ⟨w.heap.size, 0, none⟩ 1 1 [x] rfl (by omega) (by
    intro j u hj
    have hB := Blk.new w #[x] et
    rw [addr_add]
    exact hB.cell (by rw [Nat.zero_add]; exact hj)) (by
    intro u hu
    simp at hu
    rw [hu]; exact hx1) (by omega)
  refine ⟨v', W', h1, h2, ?_⟩
  rcases h3 with ⟨h4, h5⟩ | ⟨⟨k, h4, h5⟩, h6⟩
  · exact .inl ⟨h4, hW.none.trans h5 fun _ _ h => h⟩
  · exact .inr ⟨⟨k, h4, Nat.le_trans hW.size h5⟩, hW.trans h6 fun _ _ h => h⟩

/-- What a row grew out of is still there. -/
theorem owns_prefix {et : TypeId} {w : World} {a : Option Addr} {n m c : Nat} {xs ys : List Value} (h : w.ownsRow 0 et 1 (.slice a (n + m) c) (n + m) (xs ++ ys)) (hx : xs.length = n) : w.ownsRow 0 et 1 (.slice a n c) n xs := by
  refine ⟨by rw [hx]; omega, ?_⟩
  rcases h.2 with ⟨h0, hn0⟩ | ⟨g, cap, cur, h0, hb, hg1, hnc, hcm, hcs, htake⟩
  · have : n = 0 := by omega
    have hm : m = 0 := by omega
    subst this hm
    exact .inl ⟨h0, rfl⟩
  · cases h0
    refine .inr ⟨g, c, cur, rfl, hb, hg1, by omega, hcm, hcs, ?_⟩
    have h2 : (cur.toList.take ((n + m) * 1)).take (n * 1) = cur.toList.take (n * 1) := by rw [List.take_take]; congr 1; omega
    rw [← h2, htake, List.take_append_of_le_length (by omega), List.take_of_length_le (by omega)]

theorem own_any (a : Option Addr) (n c m d : Nat) : (Value.slice a n c).ownBlock = (Value.slice a m d).ownBlock := by cases a <;> rfl

/-- A list, and what grows out of it: p words by one, and a row of j words of its own. -/
def GrI (et : TypeId) (S : Nat → Prop) (w0 : World) (a : Option Addr) (c : Nat) (xs : List Value) (g : Value) (p j : Nat) (v mv : Value) (w : World) : Prop :=
  w.ownsRow 0 et 1 (.slice a xs.length c) xs.length xs ∧
  w.ownsRow 0 et 1 v (xs.length + p) ((xs ++ List.replicate p g)) ∧
  w.ownsRow 0 et 1 mv j (List.replicate j g) ∧
  (v = .slice a (xs.length + p) c ∨ ∃ b, v.ownBlock = some b ∧ w0.heap.size ≤ b) ∧
  (∀ b, mv.ownBlock = some b → w0.heap.size ≤ b ∧ v.ownBlock ≠ some b) ∧
  Keeps (fun k => some k = (Value.slice a xs.length c).ownBlock ∨ S k) w0 w


theorem GrI.start {et : TypeId} (S : Nat → Prop) (w0 : World) (a : Option Addr) (c : Nat) (xs : List Value) (g : Value) (h : w0.ownsRow 0 et 1 (.slice a xs.length c) xs.length xs) : GrI et S w0 a c xs g 0 0 (.slice a xs.length c) (.slice none 0 0) w0 :=
  ⟨h, by simpa using h, ⟨rfl, .inl ⟨rfl, rfl⟩⟩, .inl rfl, (fun b hb => by cases hb), Keeps.refl _ _⟩

theorem GrI.one {st et : TypeId} (ET : Elem st et) {S : Nat → Prop} {w0 w : World} {a : Option Addr} {c : Nat} {xs : List Value} {g : Value} {p j : Nat} {v mv : Value} (hg1 : g.oneCell' = true) (h : GrI et S w0 a c xs g p j v mv w) (h0 : ∀ b, (Value.slice a xs.length c).ownBlock = some b → b < w0.heap.size) (hx : xs.length ≤ 4294967296) (hp : p ≤ 72) :
    ∃ v' W', (∀ ty, (Builtin.append_ #[st, st] ty #[v, .slice (some ⟨w.heap.size, 0, none⟩) 1 1]).run Tryz.prog (w.alloc (.cells #[g] et)) = .ok v' W') ∧ GrI et S w0 a c xs g (p + 1) j v' mv W' := by
  obtain ⟨hu, hv, hm, hfv, hfm, hK⟩ := h
  obtain ⟨av, cv, rfl, -, -⟩ := own_slice hv
  obtain ⟨v', W', hr, ho, hor⟩ := app_one ET g hg1 av (xs.length + p) cv _ hv (by omega)
  have ho' : W'.ownsRow 0 et 1 v' (xs.length + (p + 1)) ((xs ++ List.replicate (p + 1) g)) := by
    rw [List.replicate_succ', ← List.append_assoc]
    exact ho
  refine ⟨v', W', hr, ?_⟩
  rcases hor with ⟨rfl, hKa⟩ | ⟨⟨b, e1, hb⟩, hKa⟩
  · have hmm : W'.ownsRow 0 et 1 mv j (List.replicate j g) := owns_kept hm hKa fun k hk e => (hfm k hk).2 e.symm
    rcases hfv with e | ⟨b, e, hb⟩
    · cases e
      refine ⟨owns_prefix (m := p + 1) (ys := (List.replicate (p + 1) g)) ho' rfl, ho', hmm, .inl rfl, fun b hb => ⟨(hfm b hb).1, fun e => (hfm b hb).2 (by rw [← e]; exact own_any _ _ _ _ _)⟩, hK.trans hKa fun k _ e => .inl (by rw [e]; exact own_any _ _ _ _ _)⟩
    · refine ⟨owns_kept hu hKa fun k hk e2 => ?_, ho', hmm, .inr ⟨b, by rw [← e]; exact own_any _ _ _ _ _, hb⟩, fun b hb => ⟨(hfm b hb).1, fun e => (hfm b hb).2 (by rw [← e]; exact own_any _ _ _ _ _)⟩, hK.trans hKa fun k hk e2 => ?_⟩
      · rw [e] at e2; cases e2
        have := h0 _ hk; omega
      · rw [e] at e2; cases e2; omega
  · refine ⟨owns_kept hu hKa fun _ _ e => e, ho', owns_kept hm hKa fun _ _ e => e, .inr ⟨b, e1, Nat.le_trans hK.size hb⟩, fun b' hb' => ⟨(hfm b' hb').1, fun e => ?_⟩, hK.trans hKa fun _ _ e => e.elim⟩
    rw [e1] at e; cases e
    have := owns_lt hm hb'; omega

theorem GrI.more {st et : TypeId} (ET : Elem st et) {S : Nat → Prop} {w0 w : World} {a : Option Addr} {c : Nat} {xs : List Value} {g : Value} {p j : Nat} {v mv : Value} (hg1 : g.oneCell' = true) (h : GrI et S w0 a c xs g p j v mv w) (h0 : ∀ b, (Value.slice a xs.length c).ownBlock = some b → b < w0.heap.size) (hj : j ≤ 72) :
    ∃ v' W', (∀ ty, (Builtin.append_ #[st, st] ty #[mv, .slice (some ⟨w.heap.size, 0, none⟩) 1 1]).run Tryz.prog (w.alloc (.cells #[g] et)) = .ok v' W') ∧ GrI et S w0 a c xs g p (j + 1) v v' W' := by
  obtain ⟨hu, hv, hm, hfv, hfm, hK⟩ := h
  obtain ⟨av, cv, rfl, -, -⟩ := own_slice hm
  obtain ⟨v', W', hr, ho, hor⟩ := app_one ET g hg1 av j cv _ hm (by omega)
  have ho' : W'.ownsRow 0 et 1 v' (j + 1) ((List.replicate (j + 1) g)) := by
    rw [List.replicate_succ']
    exact ho
  refine ⟨v', W', hr, ?_⟩
  rcases hor with ⟨rfl, hKa⟩ | ⟨⟨b, e1, hb⟩, hKa⟩
  · refine ⟨owns_kept hu hKa fun k hk e => ?_, owns_kept hv hKa fun k hk e => (hfm k e.symm).2 hk, ho', hfv, fun b hb => hfm b (by rw [← hb]; exact own_any _ _ _ _ _), hK.trans hKa fun k hk e => ?_⟩
    · have := (hfm k e.symm).1; have := h0 k hk; omega
    · have := (hfm k e.symm).1; omega
  · refine ⟨owns_kept hu hKa fun _ _ e => e, owns_kept hv hKa fun _ _ e => e, ho', hfv, fun b' hb' => ?_, hK.trans hKa fun _ _ e => e.elim⟩
    rw [e1] at hb'; cases hb'
    refine ⟨Nat.le_trans hK.size hb, fun e => ?_⟩
    have := owns_lt hv e; omega

/-- A list, and what grew out of it by one and by many. -/
def GrD (et : TypeId) (S : Nat → Prop) (w0 : World) (a : Option Addr) (c : Nat) (xs : List Value) (g : Value) (v mv : Value) (w : World) : Prop :=
  w.ownsRow 0 et 1 (.slice a xs.length c) xs.length xs ∧
  w.ownsRow 0 et 1 v (xs.length + 17) ((xs ++ List.replicate 17 g)) ∧
  w.ownsRow 0 et 1 mv (xs.length + 72) ((xs ++ List.replicate 72 g)) ∧
  (v.ownBlock = (Value.slice a xs.length c).ownBlock ∨ ∃ b, v.ownBlock = some b ∧ w0.heap.size ≤ b) ∧
  (mv.ownBlock = (Value.slice a xs.length c).ownBlock ∨ ∃ b, mv.ownBlock = some b ∧ w0.heap.size ≤ b) ∧
  Keeps (fun k => some k = (Value.slice a xs.length c).ownBlock ∨ S k) w0 w

theorem GrI.last {st et : TypeId} (ET : Elem st et) {S : Nat → Prop} {w0 w : World} {a : Option Addr} {c : Nat} {xs : List Value} {g : Value} {v mv : Value} (hg1 : g.oneCell' = true) (h : GrI et S w0 a c xs g 17 72 v mv w) (h0 : ∀ b, (Value.slice a xs.length c).ownBlock = some b → b < w0.heap.size) (hx : xs.length ≤ 4294967296) :
    ∃ v' W', (∀ ty, (Builtin.append_ #[st, st] ty #[.slice a xs.length c, mv]).run Tryz.prog w = .ok v' W') ∧ GrD et S w0 a c xs g v v' W' ∧ Keeps (fun k => some k = (Value.slice a xs.length c).ownBlock) w W' := by
  obtain ⟨hu, hv, hm, hfv, hfm, hK⟩ := h
  obtain ⟨am, cm, rfl, -, -⟩ := own_slice hm
  have hcm : ∃ gm, am = some ⟨gm, 0, none⟩ := by
    rcases hm.2 with ⟨_, h⟩ | ⟨g', cap, cur, h, _⟩
    · cases h
    · cases h; exact ⟨_, rfl⟩
  obtain ⟨gm, rfl⟩ := hcm
  obtain ⟨v', W', hr, ho, hor⟩ := app_two ET a xs.length c _ hu ⟨gm, 0, none⟩ 72 cm (List.replicate 72 g) (by simp) (by omega) (hm.cells rfl) (fun u hu => by rw [List.eq_of_mem_replicate hu]; exact hg1) (by omega)
  refine ⟨v', W', hr, ?_⟩
  have hfv' : v.ownBlock = (Value.slice a xs.length c).ownBlock ∨ ∃ b, v.ownBlock = some b ∧ w0.heap.size ≤ b := by
    rcases hfv with e | e
    · rw [e]; exact .inl (own_any _ _ _ _ _)
    · exact .inr e
  rcases hor with ⟨rfl, hKa⟩ | ⟨⟨b, e1, hb⟩, hKa⟩
  · refine ⟨⟨owns_prefix (m := 72) (ys := List.replicate 72 g) ho rfl, ?_, ho, hfv', .inl (own_any _ _ _ _ _), hK.trans hKa fun k _ e => .inl e⟩, hKa⟩
    rcases hfv with e | ⟨b, e, hb⟩
    · rw [e]
      refine owns_prefix (m := 55) (ys := List.replicate 55 g) ?_ (by simp)
      rw [List.append_assoc, List.replicate_append_replicate]
      exact ho
    · refine owns_kept hv hKa fun k hk e2 => ?_
      rw [e] at hk; cases hk
      have := h0 _ e2.symm; omega
  · exact ⟨⟨owns_kept hu hKa fun _ _ e => e, owns_kept hv hKa fun _ _ e => e, ho, hfv', .inr ⟨b, e1, Nat.le_trans hK.size hb⟩, hK.trans hKa fun _ _ e => e.elim⟩, hKa.none⟩

theorem GrI.same {et : TypeId} {S : Nat → Prop} {w0 w w' : World} {a : Option Addr} {c : Nat} {xs : List Value} {g : Value} {p j : Nat} {v mv : Value} (h : GrI et S w0 a c xs g p j v mv w) (hK : Keeps (fun _ => False) w w') : GrI et S w0 a c xs g p j v mv w' :=
  ⟨owns_kept h.1 hK fun _ _ e => e, owns_kept h.2.1 hK fun _ _ e => e, owns_kept h.2.2.1 hK fun _ _ e => e, h.2.2.2.1, h.2.2.2.2.1, h.2.2.2.2.2.trans hK fun _ _ e => e.elim⟩
theorem GrI.store {et : TypeId} {w0 w : World} {a : Option Addr} {c : Nat} {xs : List Value} {g : Value} {p j : Nat} {v mv : Value} {kb : Nat} (h : GrI et (fun _ => False) w0 a c xs g p j v mv w) (hu : (Value.slice a xs.length c).ownBlock ≠ some kb) (hkb : kb < w0.heap.size) (o : Nat) (x : Value) : GrI et (· = kb) w0 a c xs g p j v mv (w.setCell ⟨kb, o, none⟩ x) := by
  obtain ⟨h1, h2, h3, h4, h5, h6⟩ := h
  have hK : Keeps (· = kb) w (w.setCell ⟨kb, o, none⟩ x) := (Keeps.refl _ _).setCell _ _ fun _ => rfl
  refine ⟨owns_kept h1 hK fun k hk e => by subst e; exact hu hk, owns_kept h2 hK fun k hk e => ?_, owns_kept h3 hK fun k hk e => ?_, h4, h5, (h6.mono fun k _ e => ?_).trans hK fun _ _ e => .inr e⟩
  · subst e
    rcases h4 with e1 | ⟨b, e1, hb⟩
    · rw [e1] at hk; exact hu (by rw [← hk]; exact own_any _ _ _ _ _)
    · rw [e1] at hk; cases hk; omega
  · subst e; have := (h5 k hk).1; omega
  · rcases e with e | e
    · exact .inl e
    · exact e.elim

end Go.Proofs.YtipejahmjdamjaaGreatDoor
namespace Go.Proofs.YtipejahmjdamjaaGreatDoor
open Go.RowKit Go.Shelf
set_option linter.unusedVariables false
set_option linter.unusedSimpArgs false
set_option maxRecDepth 6000

/-! ### Marks of one's own in every list -/
def mk (i : Nat) : Int := -7000000 - 2 * (i : Int)
def gk (i : Nat) : Int := -7000001 - 2 * (i : Int)
abbrev Mv (i : Nat) : Value := .int .i64 (mk i)
abbrev Gv (i : Nat) : Value := .int .i64 (gk i)
def two (i n k : Nat) : List Value := List.replicate n (Mv i) ++ List.replicate k (Gv i)
theorem two_len (i n k : Nat) : (two i n k).length = n + k := by simp [two]
theorem two_lo {i n k j : Nat} (h : j < n) : (two i n k)[j]? = some (Mv i) := by
  unfold two
  rw [List.getElem?_append_left (by simpa using h), List.getElem?_replicate, if_pos h]
theorem two_hi {i n k j : Nat} (h : n ≤ j) (h2 : j < n + k) : (two i n k)[j]? = some (Gv i) := by
  unfold two
  rw [List.getElem?_append_right (by simpa using h), List.getElem?_replicate, if_pos (by simp; omega)]

set_option maxHeartbeats 2000000 in
theorem allInts_any (a : Option Addr) (c n k i : Nat) (w : World) (h : w.ownsRow 0 3 1 (.slice a (n + k) c) (n + k) (two i n k)) (hi : i ≤ 2147483647) (hn : n + k ≤ 4294967296) :
    Calls Tryz.prog 116 #[.slice a (n + k) c, .int .i64 n, .int .i64 i] w fun e w' => e = .returned (.bool true) ∧ w' = w := by
  obtain ⟨N, eN⟩ : ∃ N, N = n + k := ⟨_, rfl⟩
  obtain ⟨M, eM⟩ : ∃ M, M = mk i := ⟨_, rfl⟩
  obtain ⟨G, eG⟩ : ∃ G, G = gk i := ⟨_, rfl⟩
  obtain ⟨a', c', e1, hcell⟩ := Ch.owns_slice h
  obtain ⟨rfl, rfl⟩ : a = a' ∧ c = c' := by injection e1 with e2 _ e3; exact ⟨e2, e3⟩
  have HC : Hid (∀ j x, (two i n k)[j]? = some x → ∃ g, a = some ⟨g, 0, none⟩ ∧ w.cell? ⟨g, j, none⟩ = some x) := hcell
  have hw1 : IntKind.i64.wrap (2 * (i : Int)) = 2 * (i : Int) := by rw [IntKind.wrap_i64]; omega
  have hw2 : IntKind.i64.wrap (-7000000 - 2 * (i : Int)) = M := by rw [IntKind.wrap_i64, eM]; unfold mk; omega
  have hw3 : IntKind.i64.wrap (M - 1) = G := by rw [IntKind.wrap_i64, eM, eG]; unfold mk gk; omega
  have HE : Hid (M = mk i ∧ G = gk i ∧ N = n + k) := ⟨eM, eG, eN⟩
  have hnN : (n : Int) ≤ N := by omega
  rw [← eN]
  have hN2 : (N : Int) ≤ 4294967296 := by omega
  clear h hcell e1 eM eG eN hi hn
  go_enter Tryz.func116, Tryz.ntmps116
  go_wp2
  go_loopw [7] (fun i wr => ∃ j : Nat, j ≤ N ∧ i = .int .i64 j ∧ wr = w) (fun i _ => N - (intOf i).toNat)
  case atStart => exact ⟨0, by omega, rfl, rfl⟩
  case round =>
    obtain ⟨j, hj, rfl, rfl⟩ := hrel
    by_cases hlt : j < N
    · have hjz : (j : Int) < N := by omega
      have HJ : Hid (j < N) := hlt
      by_cases hjn : j < n
      · have hjn2 : (j : Int) < n := by omega
        obtain ⟨g, rfl, hc⟩ := HC.out j _ (two_lo hjn)
        rw [show Mv i = .int .i64 M by rw [HE.out.1]] at hc
        clear hlt hj hjn
        go_wp2
        go_roundw
        case rel => exact ⟨j + 1, by have := HJ.out; omega, by go_num, trivial⟩
        case measure => have := HJ.out; simp [intOf]; omega
      · have hjn2 : ¬ (j : Int) < n := by omega
        have hjn3 : (n : Int) ≤ j := by omega
        obtain ⟨g, rfl, hc⟩ := HC.out j _ (two_hi (k := k) (by omega) (by have := HE.out.2.2; omega))
        rw [show Gv i = .int .i64 G by rw [HE.out.2.1]] at hc
        clear hlt hj hjn
        go_wp2
        go_roundw
        case rel => exact ⟨j + 1, by have := HJ.out; omega, by go_num, trivial⟩
        case measure => have := HJ.out; simp [intOf]; omega
    · obtain rfl : j = N := by omega
      go_wp2
      go_ret
      exact ⟨rfl, rfl⟩

end Go.Proofs.YtipejahmjdamjaaGreatDoor
namespace Go.Proofs.YtipejahmjdamjaaGreatDoor
open Go.RowKit Go.Shelf
set_option linter.unusedVariables false
set_option linter.unusedSimpArgs false
set_option maxRecDepth 6000

theorem owns_setV {et : TypeId} {w : World} {g n cap : Nat} {xs : List Value} (h : w.ownsRow 0 et 1 (.slice (some ⟨g, 0, none⟩) n cap) n xs) (j : Nat) (v : Value) (hj : j < n) : (w.setCell ⟨g, j, none⟩ v).ownsRow 0 et 1 (.slice (some ⟨g, 0, none⟩) n cap) n (xs.set j v) := by
  refine ⟨by rw [List.length_set]; exact h.1, ?_⟩
  rcases h.2 with ⟨h2, _⟩ | ⟨g', cap', cur, h2, hb, hg, h3, h4, h5, h6⟩
  · cases h2
  · cases h2
    have hB : Blk w g cur.toList et := by unfold Blk; rw [hg, Array.toArray_toList]
    have hS := hB.setCell j v
    refine .inr ⟨g, cap, (cur.toList.set j v).toArray, rfl, hb, hS, h3, h4, by simp; omega, ?_⟩
    rw [List.toList_toArray, ← h6, List.take_set]
theorem owns_blk {et : TypeId} {w : World} {a : Option Addr} {n cap : Nat} {xs : List Value} (h : w.ownsRow 0 et 1 (.slice a n cap) n xs) (hn : 0 < n) : ∃ g l, a = some ⟨g, 0, none⟩ ∧ Blk w g l et ∧ n ≤ l.length := by
  rcases h.2 with ⟨h2, h3⟩ | ⟨g', cap', cur, h2, hb, hg, h3, h4, h5, h6⟩
  · omega
  · cases h2
    exact ⟨g', cur.toList, rfl, by unfold Blk; rw [hg, Array.toArray_toList], by simp; omega⟩
theorem fill_setV (xs : List Value) (m : Value) (t : Nat) (h : t < xs.length) : (List.replicate t m ++ xs.drop t).set t m = List.replicate (t + 1) m ++ xs.drop (t + 1) := by
  rw [List.set_append_right _ _ (by simp), List.length_replicate, Nat.sub_self, List.drop_eq_getElem_cons h, List.replicate_succ', List.append_assoc]
  rfl

/-- Rows of things of other types lie in other blocks. -/
theorem own_ty {w : World} {e e2 : TypeId} {s s2 n m : Nat} {v u : Value} {vs us : List Value} (h : w.ownsRow 0 e s v n vs) (h2 : w.ownsRow 0 e2 s2 u m us) (he : e ≠ e2) {b : Nat} (hb : v.ownBlock = some b) : u.ownBlock ≠ some b := by
  intro hu
  rcases h.2 with ⟨rfl, _⟩ | ⟨g, cap, cur, rfl, _, hg, _⟩
  · simp [Value.ownBlock] at hb
  rcases h2.2 with ⟨rfl, _⟩ | ⟨g2, cap2, cur2, rfl, _, hg2, _⟩
  · simp [Value.ownBlock] at hu
  simp [Value.ownBlock] at hb hu
  subst hb
  subst hu
  rw [hg] at hg2
  injection hg2 with e1
  injection e1 with e2 e3
  exact he e3

theorem GrI.kept {et : TypeId} {S S' T : Nat → Prop} {w0 w w' : World} {a : Option Addr} {c : Nat} {xs : List Value} {g : Value} {p j : Nat} {v mv : Value} (h : GrI et S w0 a c xs g p j v mv w) (hK : Keeps T w w')
    (h1 : ∀ b, (Value.slice a xs.length c).ownBlock = some b → ¬ T b) (h2 : ∀ b, v.ownBlock = some b → ¬ T b) (h3 : ∀ b, mv.ownBlock = some b → ¬ T b) (h4 : ∀ b, b < w0.heap.size → T b → S' b) (h5 : ∀ b, S b → S' b) : GrI et S' w0 a c xs g p j v mv w' := by
  obtain ⟨g1, g2, g3, g4, g5, g6⟩ := h
  refine ⟨owns_kept g1 hK h1, owns_kept g2 hK h2, owns_kept g3 hK h3, g4, g5, ?_⟩
  exact (g6.mono (T := fun k => some k = (Value.slice a xs.length c).ownBlock ∨ S' k) fun b _ hb => hb.elim .inl fun h => .inr (h5 b h)).trans hK fun b hb hT => .inr (h4 b hb hT)

/-- A list among others. -/
structure Rw where
  a : Option Addr
  n : Nat
  c : Nat
def Rw.lv (e : Rw) : Value := .slice e.a e.n e.c

/-- Lists of one's own, each in a block of its own, and the list of them. -/
structure AR (w : World) (LB o : Nat) (es : List Rw) (cs : Nat → Rw → List Value) : Prop where
  cell : ∀ (j : Nat) (e : Rw), es[j]? = some e → w.cell? ⟨LB, o + j, none⟩ = some e.lv
  own : ∀ (j : Nat) (e : Rw), es[j]? = some e → w.ownsRow 0 3 1 e.lv e.n (cs j e)
  out : ∀ (j : Nat) (e : Rw) (b : Nat), es[j]? = some e → e.lv.ownBlock = some b → b ≠ LB
  dis : ∀ (i j : Nat) (e e2 : Rw) (b : Nat), es[i]? = some e → es[j]? = some e2 → i ≠ j → e.lv.ownBlock = some b → e2.lv.ownBlock ≠ some b
  len : ∀ (j : Nat) (e : Rw), es[j]? = some e → e.n ≤ 2147483647
  cl : ∀ (j : Nat) (e : Rw), es[j]? = some e → (cs j e).length = e.n
def AB (es : List Rw) (k : Nat) : Prop := ∃ (j : Nat) (e : Rw), es[j]? = some e ∧ e.lv.ownBlock = some k
theorem AR.kept {S : Nat → Prop} {w w' : World} {LB o : Nat} {es : List Rw} {cs : Nat → Rw → List Value} (h : AR w LB o es cs) (hK : Keeps S w w') (h0 : ¬ S LB) (h1 : ∀ b, AB es b → ¬ S b) : AR w' LB o es cs :=
  ⟨fun j e he => Ch.cell_kept (h.cell j e he) hK h0, fun j e he => owns_kept (h.own j e he) hK fun b hb => h1 b ⟨j, e, he, hb⟩, h.out, h.dis, h.len, h.cl⟩
/-- One of the lists is written over. -/
theorem AR.upd {w w' : World} {LB o : Nat} {es : List Rw} {cs cs' : Nat → Rw → List Value} (h : AR w LB o es cs) {i : Nat} {e : Rw} (he : es[i]? = some e) (hK : Keeps (fun k => some k = e.lv.ownBlock) w w') (ho : w'.ownsRow 0 3 1 e.lv e.n (cs' i e)) (hl : (cs' i e).length = e.n) (hf : ∀ (k : Nat) (e' : Rw), k ≠ i → cs' k e' = cs k e') : AR w' LB o es cs' := by
  refine ⟨fun j e2 h2 => Ch.cell_kept (h.cell j e2 h2) hK fun hb => h.out i e LB he hb.symm rfl, fun j e2 h2 => ?_, h.out, h.dis, h.len, fun j e2 h2 => ?_⟩
  · by_cases hj : j = i
    · subst hj
      rw [he] at h2
      injection h2 with h2
      subst h2
      exact ho
    · rw [hf j e2 hj]
      exact owns_kept (h.own j e2 h2) hK fun b hb hb2 => h.dis j i e2 e b h2 he hj hb hb2.symm
  · by_cases hj : j = i
    · subst hj
      rw [he] at h2
      injection h2 with h2
      subst h2
      exact hl
    · rw [hf j e2 hj]
      exact h.cl j e2 h2
theorem AR.same {w : World} {LB o : Nat} {es : List Rw} {cs cs' : Nat → Rw → List Value} (h : AR w LB o es cs) (e : ∀ (j : Nat) (r : Rw), es[j]? = some r → cs' j r = cs j r) : AR w LB o es cs' :=
  ⟨h.cell, fun j r hr => by rw [e j r hr]; exact h.own j r hr, h.out, h.dis, h.len, fun j r hr => by rw [e j r hr]; exact h.cl j r hr⟩
theorem AR.lt {w : World} {LB o : Nat} {es : List Rw} {cs : Nat → Rw → List Value} (h : AR w LB o es cs) {b : Nat} (hb : AB es b) : b < w.heap.size := by
  obtain ⟨j, e, h1, h2⟩ := hb
  exact owns_lt (h.own j e h1) h2
def mrk (j : Nat) (e : Rw) : List Value := List.replicate e.n (Mv j)

/-- What a list became. -/
def Rw1 (w0 w : World) (e : Rw) (j k : Nat) (v : Value) : Prop := w.ownsRow 0 3 1 v (e.n + k) (two j e.n k) ∧ (v.ownBlock = e.lv.ownBlock ∨ ∃ b, v.ownBlock = some b ∧ w0.heap.size ≤ b)
structure L2 (w0 : World) (LB o : Nat) (es : List Rw) (i : Nat) (one many : Value) (w : World) : Prop where
  ar : AR w LB o es mrk
  k : Keeps (AB es) w0 w
  o1 : ∃ os, w.ownsRow 0 99 1 one i os ∧ ∀ (j : Nat) (e : Rw), j < i → es[j]? = some e → ∃ v, os[j]? = some v ∧ Rw1 w0 w e j 17 v
  o2 : ∃ os, w.ownsRow 0 99 1 many i os ∧ ∀ (j : Nat) (e : Rw), j < i → es[j]? = some e → ∃ v, os[j]? = some v ∧ Rw1 w0 w e j 72 v
  b1 : ∀ b, one.ownBlock = some b → w0.heap.size ≤ b
  b2 : ∀ b, many.ownBlock = some b → w0.heap.size ≤ b
  ne : ∀ b, one.ownBlock = some b → many.ownBlock ≠ some b
  lb : LB < w0.heap.size
  ab : ∀ b, AB es b → b < w0.heap.size

end Go.Proofs.YtipejahmjdamjaaGreatDoor
namespace Go.Proofs.YtipejahmjdamjaaGreatDoor
open Go.RowKit Go.Shelf
set_option linter.unusedVariables false
set_option linter.unusedSimpArgs false
set_option maxRecDepth 20000

theorem L2.start {w : World} {LB o : Nat} {es : List Rw} (h : AR w LB o es mrk) (hlb : LB < w.heap.size) : L2 w LB o es 0 (.slice none 0 0) (.slice none 0 0) w := by
  have h0 : w.ownsRow 0 99 1 (.slice none 0 0) 0 [] := ⟨rfl, .inl ⟨rfl, rfl⟩⟩
  exact ⟨h, Keeps.refl _ _, ⟨[], h0, fun j e hj => by omega⟩, ⟨[], h0, fun j e hj => by omega⟩, fun b hb => by simp [Value.ownBlock] at hb, fun b hb => by simp [Value.ownBlock] at hb, fun b hb => by simp [Value.ownBlock] at hb, hlb, fun b hb => h.lt hb⟩
theorem Rw1.kept {S : Nat → Prop} {w0 w w' : World} {e : Rw} {j k : Nat} {v : Value} (h : Rw1 w0 w e j k v) (hK : Keeps S w w') (hn : ∀ b, v.ownBlock = some b → ¬ S b) : Rw1 w0 w' e j k v := ⟨owns_kept h.1 hK hn, h.2⟩
theorem own_lt' {w : World} {e : TypeId} {size n : Nat} {v : Value} {vs : List Value} (h : w.ownsRow 0 e size v n vs) {b : Nat} (hb : v.ownBlock = some b) : b < w.heap.size := owns_lt h hb

/-- One thing behind a row: in place, or anew. -/
def App (v v' : Value) (w w' : World) : Prop := (v'.ownBlock = v.ownBlock ∧ Keeps (fun k => some k = v.ownBlock) w w') ∨ ((∃ k, v'.ownBlock = some k ∧ w.heap.size ≤ k) ∧ Keeps (fun _ => False) w w')
theorem App.keeps {v v' : Value} {w w' : World} (h : App v v' w w') : Keeps (fun k => some k = v.ownBlock) w w' := h.elim (fun h => h.2) fun h => h.2.mono fun _ _ h => h.elim
theorem App.own {v v' : Value} {w w' : World} (h : App v v' w w') {b : Nat} (hb : v'.ownBlock = some b) : v.ownBlock = some b ∨ w.heap.size ≤ b := by
  rcases h with h | ⟨⟨k, hk, hl⟩, _⟩
  · exact .inl (by rw [← h.1]; exact hb)
  · right
    rw [hk] at hb
    injection hb with hb
    omega
theorem app_thing {w : World} (x : Value) (hx : x.oneCell' = true) (v : Value) (n : Nat) (vs : List Value) (hown : w.ownsRow 0 99 1 v n vs) (hn : n ≤ 8589934000) :
    ∃ v' W', (∀ ty, (Builtin.append_ #[41, 41] ty #[v, .slice (some ⟨w.heap.size, 0, none⟩) 1 1]).run Tryz.prog (w.alloc (.cells #[x] 99)) = .ok v' W') ∧ W'.ownsRow 0 99 1 v' (n + 1) (vs ++ [x]) ∧ App v v' w W' := by
  obtain ⟨a, c, rfl, _, _⟩ := own_slice hown
  obtain ⟨v', W', h1, h2, h3⟩ := app_one elemR x hx a n c vs hown hn
  exact ⟨v', W', h1, h2, h3.elim (fun h => .inl ⟨by rw [h.1]; exact own_any _ _ _ _ _, h.2⟩) .inr⟩

/-- A list has grown by one and by many, and both are kept. -/
theorem L2.step {w0 w w1 w2 w3 w4 : World} {LB o i : Nat} {es : List Rw} {one many one' many' : Value} (h : L2 w0 LB o es i one many w) {e : Rw} (he : es[i]? = some e) {v mv v' : Value} {S : Nat → Prop}
    (hG : GrI 3 (fun _ => False) w e.a e.c (List.replicate e.n (Mv i)) (Gv i) 17 72 v mv w1)
    (hA1 : App one one' w1 w2) (hO1 : ∃ os, (w.ownsRow 0 99 1 one i os ∧ ∀ (j : Nat) (e : Rw), j < i → es[j]? = some e → ∃ v, os[j]? = some v ∧ Rw1 w0 w e j 17 v) ∧ w2.ownsRow 0 99 1 one' (i + 1) (os ++ [v]))
    (hD : GrD 3 S w e.a e.c (List.replicate e.n (Mv i)) (Gv i) v v' w3) (hK3 : Keeps (fun k => some k = (Value.slice e.a (List.replicate e.n (Mv i)).length e.c).ownBlock) w2 w3)
    (hA2 : App many many' w3 w4) (hO2 : ∃ os, (w.ownsRow 0 99 1 many i os ∧ ∀ (j : Nat) (e : Rw), j < i → es[j]? = some e → ∃ v, os[j]? = some v ∧ Rw1 w0 w e j 72 v) ∧ w4.ownsRow 0 99 1 many' (i + 1) (os ++ [v'])) :
    L2 w0 LB o es (i + 1) one' many' w4 := by
  have hl : (List.replicate e.n (Mv i)).length = e.n := List.length_replicate
  have hlv : (Value.slice e.a (List.replicate e.n (Mv i)).length e.c) = e.lv := by rw [hl]; rfl
  unfold GrI at hG
  unfold GrD at hD
  rw [hlv, hl] at hG hD
  rw [hlv] at hK3
  obtain ⟨g1, g2, g3, g4, g5, g6⟩ := hG
  obtain ⟨d1, d2, d3, d4, d5, _⟩ := hD
  have k1 : Keeps (fun k => some k = e.lv.ownBlock) w w1 := g6.mono fun _ _ h => h.elim id fun h => h.elim
  have k2 := hA1.keeps
  have k4 := hA2.keeps
  have hz0 := h.k.size
  have hz1 := k1.size
  have hz2 := k2.size
  have hz3 := hK3.size
  have hab : ∀ b, AB es b → b < w0.heap.size := h.ab
  have hel : ∀ b, e.lv.ownBlock = some b → b < w0.heap.size := fun b hb => hab b ⟨i, e, he, hb⟩
  have a1 : AR w1 LB o es mrk := h.ar.upd he k1 g1 (by simp [mrk]) fun _ _ _ => rfl
  have a2 : AR w2 LB o es mrk := a1.kept k2 (fun hb => by have := h.b1 LB hb.symm; have := h.lb; omega) fun b hb hb2 => by have := h.b1 b hb2.symm; have := hab b hb; omega
  have a3 : AR w3 LB o es mrk := a2.upd he hK3 d1 (by simp [mrk]) fun _ _ _ => rfl
  have a4 : AR w4 LB o es mrk := a3.kept k4 (fun hb => by have := h.b2 LB hb.symm; have := h.lb; omega) fun b hb hb2 => by have := h.b2 b hb2.symm; have := hab b hb; omega
  have kk : Keeps (AB es) w0 w4 := by
    have q1 : Keeps (AB es) w0 w1 := h.k.trans k1 fun b _ hb => ⟨i, e, he, hb.symm⟩
    have q2 : Keeps (AB es) w0 w2 := q1.trans k2 fun b hb hb2 => by have := h.b1 b hb2.symm; omega
    have q3 : Keeps (AB es) w0 w3 := q2.trans hK3 fun b _ hb => ⟨i, e, he, hb.symm⟩
    exact q3.trans k4 fun b hb hb2 => by have := h.b2 b hb2.symm; omega
  have hb1' : ∀ b, one'.ownBlock = some b → w0.heap.size ≤ b := fun b hb => (hA1.own hb).elim (h.b1 b) fun h => by omega
  have hb2' : ∀ b, many'.ownBlock = some b → w0.heap.size ≤ b := fun b hb => (hA2.own hb).elim (h.b2 b) fun h => by omega
  obtain ⟨os, ⟨p1, p2⟩, p3⟩ := hO1
  obtain ⟨ms, ⟨q1, q2⟩, q3⟩ := hO2
  have osl : os.length = i := by have := p1.1; omega
  have msl : ms.length = i := by have := q1.1; omega
  -- one row's blocks are not the other's
  have hm2 : ∀ b, many.ownBlock = some b → b < w.heap.size := fun b hb => owns_lt q1 hb
  have ho2 : ∀ b, one'.ownBlock = some b → many.ownBlock ≠ some b := by
    intro b hb hm
    rcases hA1.own hb with h1 | h1
    · exact h.ne b h1 hm
    · have := hm2 b hm
      omega
  have hne : ∀ b, one'.ownBlock = some b → many'.ownBlock ≠ some b := by
    intro b hb hm
    rcases hA2.own hm with h1 | h1
    · exact ho2 b hb h1
    · have := owns_lt p3 hb
      omega
  have p4 : w4.ownsRow 0 99 1 one' (i + 1) (os ++ [v]) := by
    have r1 := owns_kept p3 hK3 fun b hb hb2 => by have := hb1' b hb; have := hel b hb2.symm; omega
    exact owns_kept r1 k4 fun b hb hb2 => ho2 b hb hb2.symm
  -- what was there before
  have old : ∀ (j k : Nat) (e2 : Rw) (u : Value), j < i → es[j]? = some e2 → Rw1 w0 w e2 j k u → Rw1 w0 w4 e2 j k u := by
    intro j k e2 u hj he2 hR
    have hu : ∀ b, u.ownBlock = some b → some b ≠ e.lv.ownBlock := by
      intro b hb hb2
      rcases hR.2 with h1 | ⟨b2, h1, h2⟩
      · exact h.ar.dis j i e2 e b he2 he (by omega) (by rw [← h1]; exact hb) hb2.symm
      · rw [h1] at hb
        injection hb with hb
        have := hel b hb2.symm
        omega
    have r1 := hR.kept k1 fun b hb hb2 => hu b hb hb2
    have r2 := r1.kept k2 fun b hb hb2 => own_ty r1.1 (owns_kept p1 k1 fun b hb hb2 => by have := h.b1 b hb; have := hel b hb2.symm; omega) (by decide) hb hb2.symm
    have r3 := r2.kept hK3 fun b hb hb2 => hu b hb hb2
    have m1 : w3.ownsRow 0 99 1 many i ms := by
      have s1 := owns_kept q1 k1 fun b hb hb2 => by have := h.b2 b hb; have := hel b hb2.symm; omega
      have s2 := owns_kept s1 k2 fun b hb hb2 => h.ne b hb2.symm hb
      exact owns_kept s2 hK3 fun b hb hb2 => by have := h.b2 b hb; have := hel b hb2.symm; omega
    exact r3.kept k4 fun b hb hb2 => own_ty r3.1 m1 (by decide) hb hb2.symm
  have m3 : w3.ownsRow 0 99 1 many i ms := by
    have s1 := owns_kept q1 k1 fun b hb hb2 => by have := h.b2 b hb; have := hel b hb2.symm; omega
    have s2 := owns_kept s1 k2 fun b hb hb2 => h.ne b hb2.symm hb
    exact owns_kept s2 hK3 fun b hb hb2 => by have := h.b2 b hb; have := hel b hb2.symm; omega
  have nv : Rw1 w0 w4 e i 17 v := by
    refine ⟨owns_kept d2 k4 fun b hb hb2 => own_ty d2 m3 (by decide) hb hb2.symm, d4.imp id fun ⟨b, h1, h2⟩ => ⟨b, h1, by omega⟩⟩
  have nm : Rw1 w0 w4 e i 72 v' := by
    refine ⟨owns_kept d3 k4 fun b hb hb2 => own_ty d3 m3 (by decide) hb hb2.symm, d5.imp id fun ⟨b, h1, h2⟩ => ⟨b, h1, by omega⟩⟩
  refine ⟨a4, kk, ⟨os ++ [v], p4, ?_⟩, ⟨ms ++ [v'], q3, ?_⟩, hb1', hb2', hne, h.lb, h.ab⟩
  · intro j e2 hj he2
    by_cases hji : j < i
    · obtain ⟨u, h1, h2⟩ := p2 j e2 hji he2
      exact ⟨u, by rw [List.getElem?_append_left (by omega)]; exact h1, old j 17 e2 u hji he2 h2⟩
    · obtain rfl : j = i := by omega
      rw [he] at he2
      injection he2 with he2
      subst he2
      exact ⟨v, by rw [List.getElem?_append_right (by omega), osl]; simp, nv⟩
  · intro j e2 hj he2
    by_cases hji : j < i
    · obtain ⟨u, h1, h2⟩ := q2 j e2 hji he2
      exact ⟨u, by rw [List.getElem?_append_left (by omega)]; exact h1, old j 72 e2 u hji he2 h2⟩
    · obtain rfl : j = i := by omega
      rw [he] at he2
      injection he2 with he2
      subst he2
      exact ⟨v', by rw [List.getElem?_append_right (by omega), msl]; simp, nm⟩

end Go.Proofs.YtipejahmjdamjaaGreatDoor
