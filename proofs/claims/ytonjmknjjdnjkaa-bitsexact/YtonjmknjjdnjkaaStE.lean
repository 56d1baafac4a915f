import Derived.Test.YtonjmknjjdnjkaaLsB
namespace Go.Proofs.Ytonjmknjjdnjkaa
open Go.RowKit
set_option linter.unusedVariables false

/-- A type of things of one cell, and that of their lists. -/
structure Elem (st et : TypeId) : Prop where
  und : Try.prog.underlying st = some (.slice et)
  inf : ∃ i z b, Try.prog.info? et = some i ∧ i.zero = some z ∧ i.size = 1 ∧ i.bytes = b ∧ z.cells.size = 1 ∧ b ≤ 8
theorem elemW : Elem 39 36 := by
  obtain ⟨i, h1, h2, h3, h4⟩ := info_parts Try.info36
  exact ⟨Try.underlying39, i, _, _, h1, h2, h3, h4, rfl, by omega⟩
theorem elemB : Elem 38 5 := by
  obtain ⟨i, h1, h2, h3, h4⟩ := info_parts Try.info5
  exact ⟨Try.underlying38, i, _, _, h1, h2, h3, h4, rfl, by omega⟩

theorem owns_lt {w : World} {e : TypeId} {size n g : Nat} {v : Value} {vs : List Value} (h : w.ownsRow 0 e size v n vs) (hg : v.ownBlock = some g) : g < w.heap.size := by
  rcases h.2 with ⟨rfl, _⟩ | ⟨g', cap, cur, rfl, _, hgg, _⟩
  · simp [Value.ownBlock] at hg
  · simp [Value.ownBlock] at hg
    subst hg
    exact (Array.getElem?_eq_some_iff.1 hgg).1
theorem Keeps.none {S : Nat → Prop} {w w' : World} (h : Keeps (fun _ => False) w w') : Keeps S w w' := h.mono fun _ _ e => e.elim

/-- append to a row of words of one's own: in place, or into a new block: then nothing else is written. -/
theorem app_two {st et : TypeId} (ET : Elem st et) {w : World} (a0 : Option Addr) (n c0 : Nat) (vs : List Value) (hown : w.ownsRow 0 et 1 (.slice a0 n c0) n vs) (a : Addr) (m c : Nat) (news : List Value) (hl : news.length = m) (hm0 : 0 < m) (hnews : ∀ j u, news[j]? = some u → w.cell? (a.add j) = some u) (h1 : ∀ u ∈ news, u.oneCell' = true) (hn : n + m ≤ 8589934592) :
    ∃ v' W', (∀ ty, (Builtin.append_ #[st, st] ty #[.slice a0 n c0, .slice (some a) m c]).run Try.prog w = .ok v' W') ∧ W'.ownsRow 0 et 1 v' (n + m) (vs ++ news) ∧
      ((v' = .slice a0 (n + m) c0 ∧ Keeps (fun k => some k = (Value.slice a0 n c0).ownBlock) w W') ∨ ((∃ k, v'.ownBlock = some k ∧ w.heap.size ≤ k) ∧ Keeps (fun _ => False) w W')) := by
  obtain ⟨i0, z, by_, hi, hz, hs, hb, hzs, hby⟩ := ET.inf
  have hbytes : (n + m) * by_ ≤ 140737488355328 := Nat.le_trans (Nat.mul_le_mul_left _ hby) (by omega)
  have hbig : n + m ≤ 9223372036854775807 := by omega
  obtain ⟨v', W', hr, ho, hfr, hK⟩ := append_many st et i0 z 1 by_ ET.und hi hz hs hb hzs (by omega) (.slice a0 n c0) n vs hown a m c news (by omega) hnews h1 (by unfold maxLen; omega) hbytes
  refine ⟨v', W', hr, ho, ?_⟩
  rcases hown.2 with ⟨h0, hn0⟩ | ⟨g, cap, cur, h0, _, hg1, hnc, hcm, hcs, htake⟩
  · right
    cases h0
    have h2 := run_append_nil (P := Try.prog) w st 0 et i0 _ ET.und hi hz a m c news (by rw [hs]; omega) hnews (by omega) (by omega) (by rw [hb]; have hm8 : m * by_ ≤ m * 8 := Nat.mul_le_mul_left _ hby; omega)
    rw [hr] at h2
    have e1 := (Result.ok.inj h2)
    refine ⟨⟨_, by rw [e1.1]; rfl, by simp⟩, ?_⟩
    rw [e1.2]
    exact ((Keeps.refl _ _).drew).alloc _
  · cases h0
    by_cases hroom : n + m ≤ c0
    · left
      refine ⟨?_, hK⟩
      have h2 := run_append_room (P := Try.prog) w st 0 et i0 ET.und hi g n c0 cur hg1 a m c news (by rw [hs]; omega) hnews h1 hroom (by rw [hs, hcs]; omega)
      rw [hr] at h2
      exact (Result.ok.inj h2).1
    · right
      have h2 := run_append_grow (P := Try.prog) w st 0 et i0 _ ET.und hi hz ⟨g, 0, none⟩ n c0 vs (by rw [hs]; exact hown.1) (hown.cells rfl) a m c news (by rw [hs]; omega) hnews (by omega) (by omega) (by
        rw [hb]; exact growslice_fits (by omega) hbytes)
      rw [hr] at h2
      have e1 := (Result.ok.inj h2)
      refine ⟨⟨_, by rw [e1.1]; rfl, by simp⟩, ?_⟩
      rw [e1.2]
      exact ((Keeps.refl _ _).drew).alloc _

/-- The same with one word in a new block. -/
theorem app_one {st et : TypeId} (ET : Elem st et) {w : World} (x : Value) (hx1 : x.oneCell' = true) (a0 : Option Addr) (n c0 : Nat) (vs : List Value) (hown : w.ownsRow 0 et 1 (.slice a0 n c0) n vs) (hn : n ≤ 8589934000) :
    ∃ v' W', (∀ ty, (Builtin.append_ #[st, st] ty #[.slice a0 n c0, .slice (some ⟨w.heap.size, 0, none⟩) 1 1]).run Try.prog (w.alloc (.cells #[x] et)) = .ok v' W') ∧ W'.ownsRow 0 et 1 v' (n + 1) (vs ++ [x]) ∧
      ((v' = .slice a0 (n + 1) c0 ∧ Keeps (fun k => some k = (Value.slice a0 n c0).ownBlock) w W') ∨ ((∃ k, v'.ownBlock = some k ∧ w.heap.size ≤ k) ∧ Keeps (fun _ => False) w W')) := by
  have hW : Keeps (fun _ => False) w (w.alloc (.cells #[x] et)) := (Keeps.refl _ w).alloc _
  have hown1 := owns_kept hown hW (fun _ _ h => h)
  obtain ⟨v', W', h1, h2, h3⟩ := app_two ET a0 n c0 vs hown1 ⟨w.heap.size, 0, none⟩ 1 1 [x] rfl (by omega) (by
    intro j u hj
    have hB := Blk.new w #[x] et
    rw [addr_add]
    exact hB.cell (by rw [Nat.zero_add]; exact hj)) (by
    intro u hu
    simp at hu
    rw [hu]; exact hx1) (by omega)
  refine ⟨v', W', h1, h2, ?_⟩
  rcases h3 with ⟨h4, h5⟩ | ⟨⟨k, h4, h5⟩, h6⟩
  · exact .inl ⟨h4, hW.none.trans h5 fun _ _ h => h⟩
  · exact .inr ⟨⟨k, h4, Nat.le_trans hW.size h5⟩, hW.trans h6 fun _ _ h => h⟩

/-- What a row grew out of is still there. -/
theorem owns_prefix {et : TypeId} {w : World} {a : Option Addr} {n m c : Nat} {xs ys : List Value} (h : w.ownsRow 0 et 1 (.slice a (n + m) c) (n + m) (xs ++ ys)) (hx : xs.length = n) : w.ownsRow 0 et 1 (.slice a n c) n xs := by
  refine ⟨by rw [hx]; omega, ?_⟩
  rcases h.2 with ⟨h0, hn0⟩ | ⟨g, cap, cur, h0, hb, hg1, hnc, hcm, hcs, htake⟩
  · have : n = 0 := by omega
    have hm : m = 0 := by omega
    subst this hm
    exact .inl ⟨h0, rfl⟩
  · cases h0
    refine .inr ⟨g, c, cur, rfl, hb, hg1, by omega, hcm, hcs, ?_⟩
    have h2 : (cur.toList.take ((n + m) * 1)).take (n * 1) = cur.toList.take (n * 1) := by rw [List.take_take]; congr 1; omega
    rw [← h2, htake, List.take_append_of_le_length (by omega), List.take_of_length_le (by omega)]

theorem own_any (a : Option Addr) (n c m d : Nat) : (Value.slice a n c).ownBlock = (Value.slice a m d).ownBlock := by cases a <;> rfl

/-- A list, and what grows out of it: p words by one, and a row of j words of its own. -/
def GrI (et : TypeId) (S : Nat → Prop) (w0 : World) (a : Option Addr) (c : Nat) (xs : List Value) (g : Value) (p j : Nat) (v mv : Value) (w : World) : Prop :=
  w.ownsRow 0 et 1 (.slice a xs.length c) xs.length xs ∧
  w.ownsRow 0 et 1 v (xs.length + p) ((xs ++ List.replicate p g)) ∧
  w.ownsRow 0 et 1 mv j (List.replicate j g) ∧
  (v = .slice a (xs.length + p) c ∨ ∃ b, v.ownBlock = some b ∧ w0.heap.size ≤ b) ∧
  (∀ b, mv.ownBlock = some b → w0.heap.size ≤ b ∧ v.ownBlock ≠ some b) ∧
  Keeps (fun k => some k = (Value.slice a xs.length c).ownBlock ∨ S k) w0 w


theorem GrI.start {et : TypeId} (S : Nat → Prop) (w0 : World) (a : Option Addr) (c : Nat) (xs : List Value) (g : Value) (h : w0.ownsRow 0 et 1 (.slice a xs.length c) xs.length xs) : GrI et S w0 a c xs g 0 0 (.slice a xs.length c) (.slice none 0 0) w0 :=
  ⟨h, by simpa using h, ⟨rfl, .inl ⟨rfl, rfl⟩⟩, .inl rfl, (fun b hb => by cases hb), Keeps.refl _ _⟩

theorem GrI.one {st et : TypeId} (ET : Elem st et) {S : Nat → Prop} {w0 w : World} {a : Option Addr} {c : Nat} {xs : List Value} {g : Value} {p j : Nat} {v mv : Value} (hg1 : g.oneCell' = true) (h : GrI et S w0 a c xs g p j v mv w) (h0 : ∀ b, (Value.slice a xs.length c).ownBlock = some b → b < w0.heap.size) (hx : xs.length ≤ 4294967296) (hp : p ≤ 64) :
    ∃ v' W', (∀ ty, (Builtin.append_ #[st, st] ty #[v, .slice (some ⟨w.heap.size, 0, none⟩) 1 1]).run Try.prog (w.alloc (.cells #[g] et)) = .ok v' W') ∧ GrI et S w0 a c xs g (p + 1) j v' mv W' := by
  obtain ⟨hu, hv, hm, hfv, hfm, hK⟩ := h
  obtain ⟨av, cv, rfl, -, -⟩ := own_slice hv
  obtain ⟨v', W', hr, ho, hor⟩ := app_one ET g hg1 av (xs.length + p) cv _ hv (by omega)
  have ho' : W'.ownsRow 0 et 1 v' (xs.length + (p + 1)) ((xs ++ List.replicate (p + 1) g)) := by
    rw [List.replicate_succ', ← List.append_assoc]
    exact ho
  refine ⟨v', W', hr, ?_⟩
  rcases hor with ⟨rfl, hKa⟩ | ⟨⟨b, e1, hb⟩, hKa⟩
  · have hmm : W'.ownsRow 0 et 1 mv j (List.replicate j g) := owns_kept hm hKa fun k hk e => (hfm k hk).2 e.symm
    rcases hfv with e | ⟨b, e, hb⟩
    · cases e
      refine ⟨owns_prefix (m := p + 1) (ys := (List.replicate (p + 1) g)) ho' rfl, ho', hmm, .inl rfl, fun b hb => ⟨(hfm b hb).1, fun e => (hfm b hb).2 (by rw [← e]; exact own_any _ _ _ _ _)⟩, hK.trans hKa fun k _ e => .inl (by rw [e]; exact own_any _ _ _ _ _)⟩
    · refine ⟨owns_kept hu hKa fun k hk e2 => ?_, ho', hmm, .inr ⟨b, by rw [← e]; exact own_any _ _ _ _ _, hb⟩, fun b hb => ⟨(hfm b hb).1, fun e => (hfm b hb).2 (by rw [← e]; exact own_any _ _ _ _ _)⟩, hK.trans hKa fun k hk e2 => ?_⟩
      · rw [e] at e2; cases e2
        have := h0 _ hk; omega
      · rw [e] at e2; cases e2; omega
  · refine ⟨owns_kept hu hKa fun _ _ e => e, ho', owns_kept hm hKa fun _ _ e => e, .inr ⟨b, e1, Nat.le_trans hK.size hb⟩, fun b' hb' => ⟨(hfm b' hb').1, fun e => ?_⟩, hK.trans hKa fun _ _ e => e.elim⟩
    rw [e1] at e; cases e
    have := owns_lt hm hb'; omega

theorem GrI.more {st et : TypeId} (ET : Elem st et) {S : Nat → Prop} {w0 w : World} {a : Option Addr} {c : Nat} {xs : List Value} {g : Value} {p j : Nat} {v mv : Value} (hg1 : g.oneCell' = true) (h : GrI et S w0 a c xs g p j v mv w) (h0 : ∀ b, (Value.slice a xs.length c).ownBlock = some b → b < w0.heap.size) (hj : j ≤ 64) :
    ∃ v' W', (∀ ty, (Builtin.append_ #[st, st] ty #[mv, .slice (some ⟨w.heap.size, 0, none⟩) 1 1]).run Try.prog (w.alloc (.cells #[g] et)) = .ok v' W') ∧ GrI et S w0 a c xs g p (j + 1) v v' W' := by
  obtain ⟨hu, hv, hm, hfv, hfm, hK⟩ := h
  obtain ⟨av, cv, rfl, -, -⟩ := own_slice hm
  obtain ⟨v', W', hr, ho, hor⟩ := app_one ET g hg1 av j cv _ hm (by omega)
  have ho' : W'.ownsRow 0 et 1 v' (j + 1) ((List.replicate (j + 1) g)) := by
    rw [List.replicate_succ']
    exact ho
  refine ⟨v', W', hr, ?_⟩
  rcases hor with ⟨rfl, hKa⟩ | ⟨⟨b, e1, hb⟩, hKa⟩
  · refine ⟨owns_kept hu hKa fun k hk e => ?_, owns_kept hv hKa fun k hk e => (hfm k e.symm).2 hk, ho', hfv, fun b hb => hfm b (by rw [← hb]; exact own_any _ _ _ _ _), hK.trans hKa fun k hk e => ?_⟩
    · have := (hfm k e.symm).1; have := h0 k hk; omega
    · have := (hfm k e.symm).1; omega
  · refine ⟨owns_kept hu hKa fun _ _ e => e, owns_kept hv hKa fun _ _ e => e, ho', hfv, fun b' hb' => ?_, hK.trans hKa fun _ _ e => e.elim⟩
    rw [e1] at hb'; cases hb'
    refine ⟨Nat.le_trans hK.size hb, fun e => ?_⟩
    have := owns_lt hv e; omega

/-- A list, and what grew out of it by one and by many. -/
def GrD (et : TypeId) (S : Nat → Prop) (w0 : World) (a : Option Addr) (c : Nat) (xs : List Value) (g : Value) (v mv : Value) (w : World) : Prop :=
  w.ownsRow 0 et 1 (.slice a xs.length c) xs.length xs ∧
  w.ownsRow 0 et 1 v (xs.length + 17) ((xs ++ List.replicate 17 g)) ∧
  w.ownsRow 0 et 1 mv (xs.length + 64) ((xs ++ List.replicate 64 g)) ∧
  (v.ownBlock = (Value.slice a xs.length c).ownBlock ∨ ∃ b, v.ownBlock = some b ∧ w0.heap.size ≤ b) ∧
  (mv.ownBlock = (Value.slice a xs.length c).ownBlock ∨ ∃ b, mv.ownBlock = some b ∧ w0.heap.size ≤ b) ∧
  Keeps (fun k => some k = (Value.slice a xs.length c).ownBlock ∨ S k) w0 w

theorem GrI.last {st et : TypeId} (ET : Elem st et) {S : Nat → Prop} {w0 w : World} {a : Option Addr} {c : Nat} {xs : List Value} {g : Value} {v mv : Value} (hg1 : g.oneCell' = true) (h : GrI et S w0 a c xs g 17 64 v mv w) (h0 : ∀ b, (Value.slice a xs.length c).ownBlock = some b → b < w0.heap.size) (hx : xs.length ≤ 4294967296) :
    ∃ v' W', (∀ ty, (Builtin.append_ #[st, st] ty #[.slice a xs.length c, mv]).run Try.prog w = .ok v' W') ∧ GrD et S w0 a c xs g v v' W' ∧ Keeps (fun k => some k = (Value.slice a xs.length c).ownBlock) w W' := by
  obtain ⟨hu, hv, hm, hfv, hfm, hK⟩ := h
  obtain ⟨am, cm, rfl, -, -⟩ := own_slice hm
  have hcm : ∃ gm, am = some ⟨gm, 0, none⟩ := by
    rcases hm.2 with ⟨_, h⟩ | ⟨g', cap, cur, h, _⟩
    · cases h
    · cases h; exact ⟨_, rfl⟩
  obtain ⟨gm, rfl⟩ := hcm
  obtain ⟨v', W', hr, ho, hor⟩ := app_two ET a xs.length c _ hu ⟨gm, 0, none⟩ 64 cm (List.replicate 64 g) (by simp) (by omega) (hm.cells rfl) (fun u hu => by rw [List.eq_of_mem_replicate hu]; exact hg1) (by omega)
  refine ⟨v', W', hr, ?_⟩
  have hfv' : v.ownBlock = (Value.slice a xs.length c).ownBlock ∨ ∃ b, v.ownBlock = some b ∧ w0.heap.size ≤ b := by
    rcases hfv with e | e
    · rw [e]; exact .inl (own_any _ _ _ _ _)
    · exact .inr e
  rcases hor with ⟨rfl, hKa⟩ | ⟨⟨b, e1, hb⟩, hKa⟩
  · refine ⟨⟨owns_prefix (m := 64) (ys := List.replicate 64 g) ho rfl, ?_, ho, hfv', .inl (own_any _ _ _ _ _), hK.trans hKa fun k _ e => .inl e⟩, hKa⟩
    rcases hfv with e | ⟨b, e, hb⟩
    · rw [e]
      refine owns_prefix (m := 47) (ys := List.replicate 47 g) ?_ (by simp)
      rw [List.append_assoc, List.replicate_append_replicate]
      exact ho
    · refine owns_kept hv hKa fun k hk e2 => ?_
      rw [e] at hk; cases hk
      have := h0 _ e2.symm; omega
  · exact ⟨⟨owns_kept hu hKa fun _ _ e => e, owns_kept hv hKa fun _ _ e => e, ho, hfv', .inr ⟨b, e1, Nat.le_trans hK.size hb⟩, hK.trans hKa fun _ _ e => e.elim⟩, hKa.none⟩

theorem GrI.same {et : TypeId} {S : Nat → Prop} {w0 w w' : World} {a : Option Addr} {c : Nat} {xs : List Value} {g : Value} {p j : Nat} {v mv : Value} (h : GrI et S w0 a c xs g p j v mv w) (hK : Keeps (fun _ => False) w w') : GrI et S w0 a c xs g p j v mv w' :=
  ⟨owns_kept h.1 hK fun _ _ e => e, owns_kept h.2.1 hK fun _ _ e => e, owns_kept h.2.2.1 hK fun _ _ e => e, h.2.2.2.1, h.2.2.2.2.1, h.2.2.2.2.2.trans hK fun _ _ e => e.elim⟩
theorem GrI.store {et : TypeId} {w0 w : World} {a : Option Addr} {c : Nat} {xs : List Value} {g : Value} {p j : Nat} {v mv : Value} {kb : Nat} (h : GrI et (fun _ => False) w0 a c xs g p j v mv w) (hu : (Value.slice a xs.length c).ownBlock ≠ some kb) (hkb : kb < w0.heap.size) (o : Nat) (x : Value) : GrI et (· = kb) w0 a c xs g p j v mv (w.setCell ⟨kb, o, none⟩ x) := by
  obtain ⟨h1, h2, h3, h4, h5, h6⟩ := h
  have hK : Keeps (· = kb) w (w.setCell ⟨kb, o, none⟩ x) := (Keeps.refl _ _).setCell _ _ fun _ => rfl
  refine ⟨owns_kept h1 hK fun k hk e => by subst e; exact hu hk, owns_kept h2 hK fun k hk e => ?_, owns_kept h3 hK fun k hk e => ?_, h4, h5, (h6.mono fun k _ e => ?_).trans hK fun _ _ e => .inr e⟩
  · subst e
    rcases h4 with e1 | ⟨b, e1, hb⟩
    · rw [e1] at hk; exact hu (by rw [← hk]; exact own_any _ _ _ _ _)
    · rw [e1] at hk; cases hk; omega
  · subst e; have := (h5 k hk).1; omega
  · rcases e with e | e
    · exact .inl e
    · exact e.elim

end Go.Proofs.Ytonjmknjjdnjkaa
namespace Go.Proofs.Ytonjmknjjdnjkaa
open Go.RowKit
set_option linter.unusedVariables false

/-- A list that was told and is kept: itself, and what it must hold. -/
structure Ent where
  a : Option Addr
  xs : List Value
  wv : Value
def Ent.lv (e : Ent) : Value := .slice e.a e.xs.length e.xs.length
def Ent.vs (e : Ent) : List Value := [e.lv, e.wv, .slice none 0 0, .slice none 0 0]
def evs (es : List Ent) : List Value := es.flatMap Ent.vs
theorem evs_length (es : List Ent) : (evs es).length = es.length * 4 := by
  induction es with
  | nil => rfl
  | cons a l ih => simp only [evs, List.flatMap_cons, List.length_append] at *; rw [ih]; simp [Ent.vs]; omega
theorem evs_append (a b : List Ent) : evs (a ++ b) = evs a ++ evs b := by simp [evs]
theorem evs_get (es : List Ent) (i j : Nat) (e : Ent) (he : es[i]? = some e) (hj : j < 4) : (evs es)[i * 4 + j]? = e.vs[j]? := by
  induction es generalizing i with
  | nil => simp at he
  | cons a l ih =>
    have e1 : evs (a :: l) = a.vs ++ evs l := by simp [evs]
    rw [e1]
    cases i with
    | zero =>
      simp at he
      subst he
      rw [List.getElem?_append_left (by simp [Ent.vs]; omega)]
      simp
    | succ i =>
      rw [List.getElem?_append_right (by simp [Ent.vs]; omega)]
      have e2 : (i + 1) * 4 + j - a.vs.length = i * 4 + j := by simp [Ent.vs]; omega
      rw [e2]
      exact ih i (by simpa using he)

/-- Which blocks may be written, and since when. -/
structure Frm where
  T : Nat → Prop
  w0 : World
  et : TypeId
  rt : TypeId
  M : Nat → Value
  Gk : Nat → Value

/-- While it is settled: what the lists hold, and the row's block. -/
structure Bk (fr : Frm) (es : List Ent) (WB kb : Nat) (cells : List Value) (ka : Option Addr) (f : Nat → Ent → List Value) (cs : List Value) (w : World) : Prop where
  b : Blk w WB cells 34
  r : es ≠ [] → ka = some ⟨kb, 0, none⟩ ∧ Blk w kb cs fr.rt ∧ kb ≠ WB
  g : ∀ (k : Nat) (e : Ent), es[k]? = some e → cs[k * 4]? = some e.lv
  l : ∀ (k : Nat) (e : Ent), es[k]? = some e → (f k e).length = e.xs.length ∧ w.ownsRow 0 fr.et 1 e.lv e.xs.length ((f k e))
  wb : ∀ (k : Nat) (e : Ent), es[k]? = some e → e.lv.ownBlock ≠ some WB ∧ e.lv.ownBlock ≠ some kb
  dis : ∀ (i j : Nat) (e e2 : Ent) (k : Nat), es[i]? = some e → es[j]? = some e2 → i ≠ j → e.lv.ownBlock = some k → e2.lv.ownBlock ≠ some k
  len : ∀ (i : Nat) (e : Ent), es[i]? = some e → e.xs.length ≤ 4294967296
  kp : Keeps fr.T fr.w0 w
  t : (∀ (k : Nat) (e : Ent) (b : Nat), es[k]? = some e → e.lv.ownBlock = some b → fr.T b) ∧ (es ≠ [] → fr.T kb)

theorem Bk.same {fr : Frm} {es : List Ent} {WB kb : Nat} {cells : List Value} {ka : Option Addr} {f : Nat → Ent → List Value} {cs : List Value} {w w' : World} (h : Bk fr es WB kb cells ka f cs w) (hK : Keeps (fun _ => False) w w') : Bk fr es WB kb cells ka f cs w' :=
  ⟨h.b.kept hK (fun e => e), fun he => ⟨(h.r he).1, (h.r he).2.1.kept hK (fun e => e), (h.r he).2.2⟩, h.g, fun k e he => ⟨(h.l k e he).1, owns_kept (h.l k e he).2 hK fun _ _ e => e⟩, h.wb, h.dis, h.len, h.kp.trans hK (fun _ _ e => e.elim), h.t⟩

theorem Bk.upd {fr : Frm} {es : List Ent} {WB kb : Nat} {cells : List Value} {ka : Option Addr} {f f' : Nat → Ent → List Value} {cs : List Value} {w w' : World} (h : Bk fr es WB kb cells ka f cs w) {i : Nat} {e : Ent} (he : es[i]? = some e) (hK : Keeps (fun k => some k = e.lv.ownBlock) w w') (ho : w'.ownsRow 0 fr.et 1 e.lv e.xs.length ((f' i e))) (hl : (f' i e).length = e.xs.length) (hf : ∀ (k : Nat) (e' : Ent), k ≠ i → f' k e' = f k e') :
    Bk fr es WB kb cells ka f' cs w' := by
  refine ⟨h.b.kept hK fun e2 => (h.wb i e he).1 e2.symm, fun hne => ⟨(h.r hne).1, (h.r hne).2.1.kept hK fun e2 => (h.wb i e he).2 e2.symm, (h.r hne).2.2⟩, h.g, fun k e' he' => ?_, h.wb, h.dis, h.len, h.kp.trans hK (fun b _ e2 => h.t.1 i e b he e2.symm), h.t⟩
  by_cases hk : k = i
  · subst hk
    rw [he] at he'; cases he'
    exact ⟨hl, ho⟩
  · rw [hf k e' hk]
    exact ⟨(h.l k e' he').1, owns_kept (h.l k e' he').2 hK fun x hx e2 => h.dis k i e' e x he' he hk hx e2.symm⟩

def fM (fr : Frm) (i : Nat) (k : Nat) (e : Ent) : List Value := if k < i then List.replicate e.xs.length (fr.M k) else e.xs

/-- What one list became. -/
def DoneE (fr : Frm) (N0 : Nat) (w : World) (e : Ent) (k : Nat) (one many : Value) : Prop :=
  w.ownsRow 0 fr.et 1 one (e.xs.length + 17) ((List.replicate e.xs.length (fr.M k) ++ List.replicate 17 (fr.Gk k))) ∧
  w.ownsRow 0 fr.et 1 many (e.xs.length + 64) ((List.replicate e.xs.length (fr.M k) ++ List.replicate 64 (fr.Gk k))) ∧
  (one.ownBlock = e.lv.ownBlock ∨ ∃ b, one.ownBlock = some b ∧ N0 ≤ b) ∧ (many.ownBlock = e.lv.ownBlock ∨ ∃ b, many.ownBlock = some b ∧ N0 ≤ b)

theorem DoneE.kept {fr : Frm} {S : Nat → Prop} {N0 : Nat} {w w' : World} {e : Ent} {k : Nat} {one many : Value} (h : DoneE fr N0 w e k one many) (hK : Keeps S w w') (h1 : ∀ b, e.lv.ownBlock = some b → ¬ S b) (h2 : ∀ b, N0 ≤ b → ¬ S b) : DoneE fr N0 w' e k one many := by
  obtain ⟨ho, hm, f1, f2⟩ := h
  refine ⟨owns_kept ho hK fun b hb => ?_, owns_kept hm hK fun b hb => ?_, f1, f2⟩
  · rcases f1 with e1 | ⟨b', e1, hb'⟩
    · exact h1 b (by rw [← e1]; exact hb)
    · rw [e1] at hb; cases hb; exact h2 b hb'
  · rcases f2 with e1 | ⟨b', e1, hb'⟩
    · exact h1 b (by rw [← e1]; exact hb)
    · rw [e1] at hb; cases hb; exact h2 b hb'

structure Bk2 (fr : Frm) (es : List Ent) (WB kb : Nat) (cells : List Value) (ka : Option Addr) (N0 i : Nat) (cs : List Value) (w : World) : Prop where
  bk : Bk fr es WB kb cells ka (fM fr es.length) cs w
  lt : ∀ (k : Nat) (e : Ent) (b : Nat), es[k]? = some e → e.lv.ownBlock = some b → b < N0
  kb : es ≠ [] → kb < N0
  ge : N0 ≤ w.heap.size
  done : ∀ (k : Nat) (e : Ent), k < i → es[k]? = some e → ∃ one many, cs[k * 4 + 2]? = some one ∧ cs[k * 4 + 3]? = some many ∧ DoneE fr N0 w e k one many
  cl : ∀ (k : Nat) (e : Ent), es[k]? = some e → k * 4 + 3 < cs.length

theorem Bk2.same {fr : Frm} {es : List Ent} {WB kb : Nat} {cells : List Value} {ka : Option Addr} {N0 i : Nat} {cs : List Value} {w w' : World} (h : Bk2 fr es WB kb cells ka N0 i cs w) (hK : Keeps (fun _ => False) w w') : Bk2 fr es WB kb cells ka N0 i cs w' :=
  ⟨h.bk.same hK, h.lt, h.kb, Nat.le_trans h.ge hK.size, fun k e hk he => by
    obtain ⟨o, m, h1, h2, h3⟩ := h.done k e hk he
    exact ⟨o, m, h1, h2, h3.kept hK (fun _ _ e => e) fun _ _ e => e⟩, h.cl⟩

/-- A round: the list i grew by one and by many; both were written into the row. -/
theorem Bk2.step {fr : Frm} {es : List Ent} {WB kb : Nat} {cells : List Value} {ka : Option Addr} {N0 i : Nat} {cs : List Value} {w w1 w3 : World} (h : Bk2 fr es WB kb cells ka N0 i cs w) {e : Ent} (he : es[i]? = some e) {v mv v' : Value}
    (h1 : GrI fr.et (fun _ => False) w e.a e.xs.length (List.replicate e.xs.length (fr.M i)) (fr.Gk i) 17 64 v mv w1)
    (h2 : GrD fr.et (· = kb) w e.a e.xs.length (List.replicate e.xs.length (fr.M i)) (fr.Gk i) v v' w3) (hB : Blk w3 kb (cs.set (i * 4 + 2) v) fr.rt) :
    Bk2 fr es WB kb cells ka N0 (i + 1) ((cs.set (i * 4 + 2) v).set (i * 4 + 3) v') (w3.setCell ⟨kb, i * 4 + 3, none⟩ v') := by
  have hne : es ≠ [] := by intro e0; rw [e0] at he; simp at he
  have hil : i < es.length := (List.getElem?_eq_some_iff.1 he).1
  obtain ⟨hu, hv, hm, f1, f2, hK⟩ := h2
  have hlv : (Value.slice e.a (List.replicate e.xs.length (fr.M i)).length e.xs.length).ownBlock = e.lv.ownBlock := own_any _ _ _ _ _
  rw [hlv] at f1 f2 hK
  rw [List.length_replicate] at hu hv hm
  obtain ⟨W4, hW4⟩ : ∃ W4, W4 = w3.setCell ⟨kb, i * 4 + 3, none⟩ v' := ⟨_, rfl⟩
  rw [← hW4]
  have hK4 : Keeps (· = kb) w3 W4 := by rw [hW4]; exact (Keeps.refl _ _).setCell _ _ fun _ => rfl
  have hKall : Keeps (fun k => some k = e.lv.ownBlock ∨ k = kb) w W4 := hK.trans hK4 fun _ _ e => .inr e
  have hkb := h.kb hne
  have hkbw : kb < w.heap.size := Nat.lt_of_lt_of_le hkb h.ge
  have hn4 : ∀ {x : Value}, (x.ownBlock = e.lv.ownBlock ∨ ∃ b, x.ownBlock = some b ∧ w.heap.size ≤ b) → ∀ k, x.ownBlock = some k → ¬ k = kb := by
    intro x hx k hk e2
    subst e2
    rcases hx with e1 | ⟨b, e1, hb⟩
    · rw [e1] at hk; exact (h.bk.wb i e he).2 hk
    · rw [e1] at hk; cases hk; omega
  have hother : ∀ (k : Nat) (e' : Ent), k ≠ i → es[k]? = some e' → ∀ b, e'.lv.ownBlock = some b → ¬ (some b = e.lv.ownBlock ∨ b = kb) := by
    rintro k e' hk he' b hb (e2 | e2)
    · exact h.bk.dis k i e' e b he' he hk hb e2.symm
    · subst e2; exact (h.bk.wb k e' he').2 hb
  have hfi : fM fr es.length i e = List.replicate e.xs.length (fr.M i) := by unfold fM; rw [if_pos hil]
  refine ⟨⟨h.bk.b.kept hKall ?_, fun _ => ⟨(h.bk.r hne).1, by rw [hW4]; exact hB.setCell _ _, (h.bk.r hne).2.2⟩, fun k e' he' => ?_, fun k e' he' => ?_, h.bk.wb, h.bk.dis, h.bk.len, h.bk.kp.trans hKall (fun b _ e2 => e2.elim (fun e2 => h.bk.t.1 i e b he e2.symm) (fun e2 => by rw [e2]; exact h.bk.t.2 hne)), h.bk.t⟩, h.lt, h.kb, Nat.le_trans h.ge hKall.size, fun k e' hk he' => ?_, fun k e' he' => by simp only [List.length_set]; exact h.cl k e' he'⟩
  · rintro (e2 | e2)
    · exact (h.bk.wb i e he).1 e2.symm
    · exact (h.bk.r hne).2.2 e2.symm
  · rw [List.getElem?_set_ne (by omega), List.getElem?_set_ne (by omega)]
    exact h.bk.g k e' he'
  · refine ⟨(h.bk.l k e' he').1, ?_⟩
    by_cases hk : k = i
    · subst hk
      rw [he] at he'; cases he'
      rw [hfi]
      exact owns_kept hu hK4 fun x hx e2 => by subst e2; exact (h.bk.wb k e he).2 hx
    · exact owns_kept (h.bk.l k e' he').2 hKall (hother k e' hk he')
  · have hcl := h.cl i e he
    by_cases hk2 : k = i
    · subst hk2
      rw [he] at he'; cases he'
      refine ⟨v, v', ?_, ?_, owns_kept hv hK4 (hn4 f1), owns_kept hm hK4 (hn4 f2), ?_, ?_⟩
      · rw [List.getElem?_set_ne (by omega), List.getElem?_set_self (by omega)]
      · rw [List.getElem?_set_self (by simp; omega)]
      · rcases f1 with e1 | ⟨b, e1, hb⟩
        · exact .inl e1
        · exact .inr ⟨b, e1, Nat.le_trans h.ge hb⟩
      · rcases f2 with e1 | ⟨b, e1, hb⟩
        · exact .inl e1
        · exact .inr ⟨b, e1, Nat.le_trans h.ge hb⟩
    · obtain ⟨o, m, g1, g2, g3⟩ := h.done k e' (by omega) he'
      refine ⟨o, m, ?_, ?_, g3.kept hKall (hother k e' hk2 he') ?_⟩
      · rw [List.getElem?_set_ne (by omega), List.getElem?_set_ne (by omega)]; exact g1
      · rw [List.getElem?_set_ne (by omega), List.getElem?_set_ne (by omega)]; exact g2
      · rintro b hb (e2 | e2)
        · have := h.lt i e b he e2.symm; omega
        · omega

theorem Bk.kept {S : Nat → Prop} {fr : Frm} {es : List Ent} {WB kb : Nat} {cells : List Value} {ka : Option Addr} {f : Nat → Ent → List Value} {cs : List Value} {w w' : World} (h : Bk fr es WB kb cells ka f cs w) (hK : Keeps S w w') (h0 : ¬ S WB) (h1 : es ≠ [] → ¬ S kb) (h2 : ∀ (k : Nat) (e : Ent) (b : Nat), es[k]? = some e → e.lv.ownBlock = some b → ¬ S b) (h3 : ∀ b, S b → fr.T b) : Bk fr es WB kb cells ka f cs w' :=
  ⟨h.b.kept hK h0, fun he => ⟨(h.r he).1, (h.r he).2.1.kept hK (h1 he), (h.r he).2.2⟩, h.g, fun k e he => ⟨(h.l k e he).1, owns_kept (h.l k e he).2 hK fun b hb => h2 k e b he hb⟩, h.wb, h.dis, h.len, h.kp.trans hK (fun b _ e => h3 b e), h.t⟩
theorem Bk2.kept {S : Nat → Prop} {fr : Frm} {es : List Ent} {WB kb : Nat} {cells : List Value} {ka : Option Addr} {N0 i : Nat} {cs : List Value} {w w' : World} (h : Bk2 fr es WB kb cells ka N0 i cs w) (hK : Keeps S w w') (h0 : ¬ S WB) (h1 : es ≠ [] → ¬ S kb) (h2 : ∀ (k : Nat) (e : Ent) (b : Nat), es[k]? = some e → e.lv.ownBlock = some b → ¬ S b) (h3 : ∀ b, S b → fr.T b) (h4 : ∀ b, N0 ≤ b → ¬ S b) : Bk2 fr es WB kb cells ka N0 i cs w' :=
  ⟨h.bk.kept hK h0 h1 h2 h3, h.lt, h.kb, Nat.le_trans h.ge hK.size, fun k e hk he => by
    obtain ⟨o, m, g1, g2, g3⟩ := h.done k e hk he
    exact ⟨o, m, g1, g2, g3.kept hK (fun b hb => h2 k e b he hb) h4⟩, h.cl⟩
end Go.Proofs.Ytonjmknjjdnjkaa
namespace Go.Proofs.Ytonjmknjjdnjkaa
open Go.RowKit
set_option linter.unusedVariables false

section
variable {s : Nat × Nat → Ob} {w : World} {o o2 : Nat × Nat}
theorem Has.row_ne {e e2 : TypeId} {z z2 n n2 k : Nat} {v v2 : Value} {vs vs2 : List Value} (h : Has s w) (h1 : s o = .row e z v n vs) (h2 : s o2 = .row e2 z2 v2 n2 vs2) (hne : o ≠ o2) (hk : v.ownBlock = some k) : v2.ownBlock ≠ some k := by
  obtain ⟨tag, h⟩ := h
  have g1 := h o
  have g2 := h o2
  rw [h1] at g1
  rw [h2] at g2
  intro hk2
  exact hne ((g1.2 k hk).symm.trans (g2.2 k hk2))
theorem Has.row_ne_blk {e t : TypeId} {z n b : Nat} {v : Value} {vs l : List Value} (h : Has s w) (h1 : s o = .row e z v n vs) (h2 : s o2 = .blk b l t) (hne : o ≠ o2) : v.ownBlock ≠ some b := by
  obtain ⟨tag, h⟩ := h
  have g1 := h o
  have g2 := h o2
  rw [h1] at g1
  rw [h2] at g2
  intro hk
  exact hne ((g1.2 b hk).symm.trans g2.2)
end

theorem Has.row_ge {s : Nat × Nat → Ob} {w w0 : World} {o o2 : Nat × Nat} {e : TypeId} {z n k : Nat} {v : Value} {vs : List Value} (h : Has s w) (h1 : s o = .row e z v n vs) (h2 : s o2 = .base w0) (hne : o ≠ o2) (hk : v.ownBlock = some k) : w0.heap.size ≤ k := by
  obtain ⟨tag, h⟩ := h
  have g1 := h o
  have g2 := h o2
  rw [h1] at g1
  rw [h2] at g2
  refine Nat.le_of_not_lt fun hlt => hne ((g1.2 k hk).symm.trans (g2.1 k hlt))

/-- The book of one kind, ready to be settled. -/
theorem book_bk {fr : Frm} {w : World} {WB : Nat} {cells : List Value} {ka : Option Addr} {kc : Nat} {es : List Ent} (hw : fr.w0 = w) (hT1 : ∀ (k : Nat) (e : Ent) (b : Nat), es[k]? = some e → e.lv.ownBlock = some b → fr.T b) (hT2 : ∀ b, (Value.slice ka es.length kc).ownBlock = some b → fr.T b) (hB : Blk w WB cells 34) (hrow : w.ownsRow 0 fr.rt 4 (.slice ka es.length kc) es.length (evs es))
    (hl : ∀ (i : Nat) (e : Ent), es[i]? = some e → w.ownsRow 0 fr.et 1 e.lv e.xs.length e.xs) (hlen : ∀ (i : Nat) (e : Ent), es[i]? = some e → e.xs.length ≤ 4294967296)
    (dis : ∀ (i j : Nat) (e e2 : Ent) (k : Nat), es[i]? = some e → es[j]? = some e2 → i ≠ j → e.lv.ownBlock = some k → e2.lv.ownBlock ≠ some k)
    (rowl : ∀ (i : Nat) (e : Ent) (k : Nat), es[i]? = some e → e.lv.ownBlock = some k → (Value.slice ka es.length kc).ownBlock ≠ some k)
    (hwb : (Value.slice ka es.length kc).ownBlock ≠ some WB) (hlw : ∀ (i : Nat) (e : Ent), es[i]? = some e → e.lv.ownBlock ≠ some WB) :
    ∃ kb cs, Bk fr es WB kb cells ka (fM fr 0) cs w ∧ (es ≠ [] → kb < w.heap.size ∧ (Value.slice ka es.length kc).ownBlock = some kb) ∧ (∀ (k : Nat) (e : Ent), es[k]? = some e → k * 4 + 3 < cs.length ∧ cs[k * 4 + 1]? = some e.wv) := by
  have hf0 : ∀ k e, fM fr 0 k e = e.xs := fun k e => by unfold fM; rw [if_neg (by omega)]
  have hK0 : Keeps fr.T fr.w0 w := by rw [hw]; exact Keeps.refl _ _
  rcases hrow.2 with ⟨h0, hn0⟩ | ⟨g, cap, cur, h0, hb, hg1, hnc, hcm, hcs, htake⟩
  · have : es = [] := List.eq_nil_of_length_eq_zero hn0
    subst this
    exact ⟨0, [], ⟨hB, fun h => (h rfl).elim, (fun k e he => by simp at he), (fun k e he => by simp at he), (fun k e he => by simp at he), (fun _ _ _ _ _ he => by simp at he), (fun k e he => by simp at he), hK0, ⟨fun k e b he => by simp at he, fun h => (h rfl).elim⟩⟩, fun h => (h rfl).elim, (fun k e he => by simp at he)⟩
  · cases h0
    have hBk : Blk w g cur.toList fr.rt := by unfold Blk; rw [hg1, Array.toArray_toList]
    have hcl : cur.toList.length = kc * 4 := hcs
    have hget : ∀ (k : Nat) (e : Ent) (j : Nat), es[k]? = some e → j < 4 → cur.toList[k * 4 + j]? = e.vs[j]? := by
      intro k e j he hj
      have hk' := (List.getElem?_eq_some_iff.1 he).1
      rw [← evs_get es k j e he hj, ← htake, List.getElem?_take]
      rw [if_pos (by omega)]
    refine ⟨g, cur.toList, ⟨hB, fun _ => ⟨rfl, hBk, fun e => hwb (by rw [← e]; rfl)⟩, fun k e he => ?_, fun k e he => ?_, fun k e he => ⟨hlw k e he, fun e2 => rowl k e g he e2 rfl⟩, dis, hlen, hK0, ⟨hT1, fun _ => hT2 g rfl⟩⟩, fun _ => ⟨hBk.lt, rfl⟩, fun k e he => ⟨?_, hget k e 1 he (by omega)⟩⟩
    · have := hget k e 0 he (by omega)
      rw [Nat.add_zero] at this
      exact this
    · rw [hf0]; exact ⟨rfl, hl k e he⟩
    · have := (List.getElem?_eq_some_iff.1 he).1
      rw [hcl]; omega

def bE (e : Option Addr × Value × List UInt8) : Ent := ⟨e.1, bvs e.2.2, e.2.1⟩
def kE (e : Option Addr × Value × List UInt32) : Ent := ⟨e.1, wvs e.2.2, e.2.1⟩
theorem evs_b (l : List (Option Addr × Value × List UInt8)) : evs (l.map bE) = l.flatMap bCells := by
  induction l with
  | nil => rfl
  | cons e l ih =>
    have h1 : evs ((e :: l).map bE) = (bE e).vs ++ evs (l.map bE) := by simp [evs]
    rw [h1, ih]
    simp [bCells, bE, Ent.vs, Ent.lv, bvs_length]
theorem evs_k (l : List (Option Addr × Value × List UInt32)) : evs (l.map kE) = l.flatMap kCells := by
  induction l with
  | nil => rfl
  | cons e l ih =>
    have h1 : evs ((e :: l).map kE) = (kE e).vs ++ evs (l.map kE) := by simp [evs]
    rw [h1, ih]
    simp [kCells, kE, Ent.vs, Ent.lv, wvs_length]

def frB (NB : Nat) (w : World) : Frm := ⟨fun k => NB ≤ k, w, 5, 100, fun i => .int .u8 (((UInt8.ofNat (2 * i + 1)).toNat : Nat) : Int), fun i => .int .u8 (((UInt8.ofNat (2 * i + 2)).toNat : Nat) : Int)⟩
def frW (NB : Nat) (w : World) : Frm := ⟨fun k => NB ≤ k, w, 36, 102, fun i => .int .u32 (((UInt32.ofNat (2 * i + 2684354561)).toNat : Nat) : Int), fun i => .int .u32 (((UInt32.ofNat (2 * i + 2684354562)).toNat : Nat) : Int)⟩

/-- Both books of the play, and that they lie apart. -/
theorem books {s : Nat × Nat → Ob} {g : GS} {w0 w : World} {T : Nat} (hH : Has s w) (hR : Rel s g w0) (hS : Small g T) (hT : T ≤ 4294967296) :
    ∃ ba bc ka kc kb cs kw cw, g.sb = .slice ba g.B.length bc ∧ g.sk = .slice ka g.K.length kc ∧ g.B.length ≤ bc ∧ bc ≤ maxLen ∧ g.K.length ≤ kc ∧ kc ≤ maxLen ∧
      Bk (frB w0.heap.size w) (g.B.map bE) g.X kb [g.sw, g.sv, g.sr, g.sq, g.sb, g.sk] ba (fM (frB w0.heap.size w) 0) cs w ∧ Bk (frW w0.heap.size w) (g.K.map kE) g.X kw [g.sw, g.sv, g.sr, g.sq, g.sb, g.sk] ka (fM (frW w0.heap.size w) 0) cw w ∧
      (g.B.map bE ≠ [] → kb < w.heap.size) ∧ (g.K.map kE ≠ [] → kw < w.heap.size) ∧
      (∀ (k : Nat) (e : Ent), (g.B.map bE)[k]? = some e → k * 4 + 3 < cs.length ∧ cs[k * 4 + 1]? = some e.wv ∧ w.ownsRow 0 5 1 e.wv e.xs.length e.xs) ∧
      (∀ (k : Nat) (e : Ent), (g.K.map kE)[k]? = some e → k * 4 + 3 < cw.length ∧ cw[k * 4 + 1]? = some e.wv ∧ w.ownsRow 0 36 1 e.wv e.xs.length e.xs) ∧
      (∀ (i j : Nat) (e e2 : Ent) (b : Nat), (g.B.map bE)[i]? = some e → (g.K.map kE)[j]? = some e2 → e.lv.ownBlock = some b → e2.lv.ownBlock ≠ some b ∧ b ≠ kw) ∧
      (∀ (j : Nat) (e2 : Ent) (b : Nat), (g.K.map kE)[j]? = some e2 → e2.lv.ownBlock = some b → g.B.map bE ≠ [] → b ≠ kb) ∧ (g.B.map bE ≠ [] → g.K.map kE ≠ [] → kb ≠ kw) := by
  obtain ⟨hX, _⟩ := hH.blk hR.x
  obtain ⟨hb, _⟩ := hH.row hR.kb
  obtain ⟨hk, _⟩ := hH.row hR.kw
  obtain ⟨ba, bc, eb, hb1, hb2⟩ := own_slice hb
  obtain ⟨ka, kc, ek, hk1, hk2⟩ := own_slice hk
  have lbE : ∀ (i : Nat) (e : Ent), (g.B.map bE)[i]? = some e → ∃ a v xs, e = ⟨a, bvs xs, v⟩ ∧ g.B[i]? = some (a, v, xs) ∧ s (12, i) = .row 5 1 e.lv xs.length (bvs xs) ∧ s (13, i) = .row 5 1 v xs.length (bvs xs) := by
    intro i e he
    rw [List.getElem?_map] at he
    obtain ⟨⟨a, v, xs⟩, h1, h2⟩ := Option.map_eq_some_iff.1 he
    subst h2
    refine ⟨a, v, xs, rfl, h1, ?_, (hR.lb i a v xs h1).2⟩
    rw [(hR.lb i a v xs h1).1]
    simp [bE, Ent.lv, bvs_length]
  have lkE : ∀ (i : Nat) (e : Ent), (g.K.map kE)[i]? = some e → ∃ a v xs, e = ⟨a, wvs xs, v⟩ ∧ g.K[i]? = some (a, v, xs) ∧ s (14, i) = .row 36 1 e.lv xs.length (wvs xs) ∧ s (15, i) = .row 36 1 v xs.length (wvs xs) := by
    intro i e he
    rw [List.getElem?_map] at he
    obtain ⟨⟨a, v, xs⟩, h1, h2⟩ := Option.map_eq_some_iff.1 he
    subst h2
    refine ⟨a, v, xs, rfl, h1, ?_, (hR.lw i a v xs h1).2⟩
    rw [(hR.lw i a v xs h1).1]
    simp [kE, Ent.lv, wvs_length]
  have kb6 : s (6, 0) = .row 100 4 (.slice ba (g.B.map bE).length bc) (g.B.map bE).length (evs (g.B.map bE)) := by rw [List.length_map, evs_b, ← eb]; exact hR.kb
  have kw7 : s (7, 0) = .row 102 4 (.slice ka (g.K.map kE).length kc) (g.K.map kE).length (evs (g.K.map kE)) := by rw [List.length_map, evs_k, ← ek]; exact hR.kw
  obtain ⟨kb, cs, hBk, hkb, hcs⟩ := book_bk (fr := frB w0.heap.size w) rfl (fun i e b he hb => by obtain ⟨_, _, _, _, _, h1, _⟩ := lbE i e he; exact hH.row_ge h1 hR.base (by simp) hb) (fun b hb => hH.row_ge kb6 hR.base (by simp) hb) hX (hH.row kb6).1
    (fun i e he => by obtain ⟨a, v, xs, rfl, _, h1, _⟩ := lbE i e he; have := (hH.row h1).1; rw [← bvs_length xs] at this; exact this)
    (fun i e he => by obtain ⟨a, v, xs, rfl, h0, _, _⟩ := lbE i e he; show (bvs xs).length ≤ _; rw [bvs_length]; have := hS.bs i a v xs h0; omega)
    (fun i j e e2 k he he2 hij hb => by obtain ⟨_, _, _, _, _, h1, _⟩ := lbE i e he; obtain ⟨_, _, _, _, _, h2, _⟩ := lbE j e2 he2; exact hH.row_ne h1 h2 (by intro e; cases e; exact hij rfl) hb)
    (fun i e k he hb => by obtain ⟨_, _, _, _, _, h1, _⟩ := lbE i e he; exact hH.row_ne h1 kb6 (by simp) hb)
    (hH.row_ne_blk kb6 hR.x (by simp))
    (fun i e he => by obtain ⟨_, _, _, _, _, h1, _⟩ := lbE i e he; exact hH.row_ne_blk h1 hR.x (by simp))
  obtain ⟨kw, cw, hWk, hkw, hcw⟩ := book_bk (fr := frW w0.heap.size w) rfl (fun i e b he hb => by obtain ⟨_, _, _, _, _, h1, _⟩ := lkE i e he; exact hH.row_ge h1 hR.base (by simp) hb) (fun b hb => hH.row_ge kw7 hR.base (by simp) hb) hX (hH.row kw7).1
    (fun i e he => by obtain ⟨a, v, xs, rfl, _, h1, _⟩ := lkE i e he; have := (hH.row h1).1; rw [← wvs_length xs] at this; exact this)
    (fun i e he => by obtain ⟨a, v, xs, rfl, h0, _, _⟩ := lkE i e he; show (wvs xs).length ≤ _; rw [wvs_length]; have := hS.ks i a v xs h0; omega)
    (fun i j e e2 k he he2 hij hb => by obtain ⟨_, _, _, _, _, h1, _⟩ := lkE i e he; obtain ⟨_, _, _, _, _, h2, _⟩ := lkE j e2 he2; exact hH.row_ne h1 h2 (by intro e; cases e; exact hij rfl) hb)
    (fun i e k he hb => by obtain ⟨_, _, _, _, _, h1, _⟩ := lkE i e he; exact hH.row_ne h1 kw7 (by simp) hb)
    (hH.row_ne_blk kw7 hR.x (by simp))
    (fun i e he => by obtain ⟨_, _, _, _, _, h1, _⟩ := lkE i e he; exact hH.row_ne_blk h1 hR.x (by simp))
  refine ⟨ba, bc, ka, kc, kb, cs, kw, cw, eb, ek, hb1, hb2, hk1, hk2, hBk, hWk, fun h => (hkb h).1, fun h => (hkw h).1, fun k e he => ?_, fun k e he => ?_, fun i j e e2 b he he2 hb => ⟨?_, ?_⟩, fun j e2 b he2 hb hne => ?_, fun h1 h2 => ?_⟩
  · obtain ⟨a, v, xs, rfl, _, _, h2⟩ := lbE k e he
    have h3 := (hH.row h2).1
    rw [← bvs_length xs] at h3
    exact ⟨(hcs k _ he).1, (hcs k _ he).2, h3⟩
  · obtain ⟨a, v, xs, rfl, _, _, h2⟩ := lkE k e he
    have h3 := (hH.row h2).1
    rw [← wvs_length xs] at h3
    exact ⟨(hcw k _ he).1, (hcw k _ he).2, h3⟩
  · obtain ⟨_, _, _, _, _, h1, _⟩ := lbE i e he
    obtain ⟨_, _, _, _, _, h2, _⟩ := lkE j e2 he2
    exact hH.row_ne h1 h2 (by simp) hb
  · obtain ⟨_, _, _, _, _, h1, _⟩ := lbE i e he
    rintro rfl
    exact hH.row_ne h1 kw7 (by simp) hb (hkw (by intro e0; rw [e0] at he2; simp at he2)).2
  · obtain ⟨_, _, _, _, _, h2, _⟩ := lkE j e2 he2
    rintro rfl
    exact hH.row_ne h2 kb6 (by simp) hb (hkb hne).2
  · rintro rfl
    exact hH.row_ne kb6 kw7 (by simp) (hkb h1).2 (hkw h2).2
end Go.Proofs.Ytonjmknjjdnjkaa
namespace Go.Proofs.Ytonjmknjjdnjkaa
open Go.RowKit
set_option linter.unusedVariables false

/-- What is fixed while both books are settled. -/
structure Bks (NB : Nat) (w : World) (X : Nat) (cells : List Value) (eB eW : List Ent) (ba ka : Option Addr) (bc kc m n kb kw : Nat) (cs cw : List Value) : Prop where
  b : Bk (frB NB w) eB X kb cells ba (fM (frB NB w) 0) cs w
  k : Bk (frW NB w) eW X kw cells ka (fM (frW NB w) 0) cw w
  kbl : eB ≠ [] → kb < w.heap.size
  kwl : eW ≠ [] → kw < w.heap.size
  qb : ∀ (k : Nat) (e : Ent), eB[k]? = some e → k * 4 + 3 < cs.length ∧ cs[k * 4 + 1]? = some e.wv ∧ w.ownsRow 0 5 1 e.wv e.xs.length e.xs ∧ ∃ xs : List UInt8, e.xs = bvs xs
  qk : ∀ (k : Nat) (e : Ent), eW[k]? = some e → k * 4 + 3 < cw.length ∧ cw[k * 4 + 1]? = some e.wv ∧ w.ownsRow 0 36 1 e.wv e.xs.length e.xs ∧ ∃ xs : List UInt32, e.xs = wvs xs
  d1 : ∀ (i j : Nat) (e e2 : Ent) (b : Nat), eB[i]? = some e → eW[j]? = some e2 → e.lv.ownBlock = some b → e2.lv.ownBlock ≠ some b ∧ b ≠ kw
  d2 : ∀ (j : Nat) (e2 : Ent) (b : Nat), eW[j]? = some e2 → e2.lv.ownBlock = some b → eB ≠ [] → b ≠ kb
  d3 : eB ≠ [] → eW ≠ [] → kb ≠ kw
  hm : m = eB.length
  hn : n = eW.length
  c4 : cells[4]? = some (.slice ba m bc)
  c5 : cells[5]? = some (.slice ka n kc)
  sz : m ≤ 4294967296 ∧ n ≤ 4294967296 ∧ m ≤ bc ∧ bc ≤ maxLen ∧ n ≤ kc ∧ kc ≤ maxLen

theorem Game.bks {w0 w : World} {X T : Nat} (h : Game w0 w X T) (hT : T ≤ 4294967296) : ∃ cells eB eW ba ka bc kc m n kb kw cs cw, Bks w0.heap.size w X cells eB eW ba ka bc kc m n kb kw cs cw := by
  obtain ⟨s, g, hH, hR, hS, rfl⟩ := h.out
  obtain ⟨ba, bc, ka, kc, kb, cs, kw, cw, eb, ek, hb1, hb2, hk1, hk2, hBk, hWk, hkb, hkw, qb, qk, d1, d2, d3⟩ := books hH hR hS hT
  have h1 := hS.b
  have h2 := hS.k
  refine ⟨_, _, _, ba, ka, bc, kc, _, _, kb, kw, cs, cw, hBk, hWk, hkb, hkw, fun k e he => ?_, fun k e he => ?_, d1, d2, d3, rfl, rfl, ?_, ?_, ?_⟩
  · obtain ⟨p1, p2, p3⟩ := qb k e he
    refine ⟨p1, p2, p3, ?_⟩
    rw [List.getElem?_map] at he
    obtain ⟨⟨a, v, xs⟩, _, rfl⟩ := Option.map_eq_some_iff.1 he
    exact ⟨xs, rfl⟩
  · obtain ⟨p1, p2, p3⟩ := qk k e he
    refine ⟨p1, p2, p3, ?_⟩
    rw [List.getElem?_map] at he
    obtain ⟨⟨a, v, xs⟩, _, rfl⟩ := Option.map_eq_some_iff.1 he
    exact ⟨xs, rfl⟩
  · rw [List.length_map]; exact congrArg some eb
  · rw [List.length_map]; exact congrArg some ek
  · rw [List.length_map, List.length_map]; omega
end Go.Proofs.Ytonjmknjjdnjkaa
namespace Go.Proofs.Ytonjmknjjdnjkaa
open Go.RowKit
set_option linter.unusedVariables false

section
variable {NB : Nat} {w : World} {X : Nat} {cells : List Value} {eB eW : List Ent} {ba ka : Option Addr} {bc kc m n kb kw : Nat} {cs cw : List Value}
theorem some_of {α : Type} {l : List α} (h : l ≠ []) : ∃ e, l[0]? = some e := by
  cases l with
  | nil => exact (h rfl).elim
  | cons a l => exact ⟨a, rfl⟩
theorem Bks.keepW (H : Bks NB w X cells eB eW ba ka bc kc m n kb kw cs cw) {S : Nat → Prop} {f : Nat → Ent → List Value} {c : List Value} {wC wr : World} (hk : Bk (frW NB w) eW X kw cells ka f c wC) {i : Nat} {e : Ent} (he : eB[i]? = some e) (hK : Keeps S wC wr) (hS : ∀ k, S k → some k = e.lv.ownBlock ∨ k = kb) : Bk (frW NB w) eW X kw cells ka f c wr := by
  have hne : eB ≠ [] := by intro e0; rw [e0] at he; simp at he
  refine hk.kept hK (fun h => ?_) (fun hw h => ?_) (fun j e2 b he2 hb h => ?_) (fun k h => by rcases hS _ h with h | h; exact H.b.t.1 i e k he h.symm; rw [h]; exact H.b.t.2 hne)
  · rcases hS _ h with h | h
    · exact (H.b.wb i e he).1 h.symm
    · exact (H.b.r hne).2.2 h.symm
  · obtain ⟨e2, he2⟩ := some_of hw
    rcases hS _ h with h | h
    · exact (H.d1 i 0 e e2 kw he he2 h.symm).2 rfl
    · exact H.d3 hne hw h.symm
  · rcases hS _ h with h | h
    · exact (H.d1 i j e e2 b he he2 h.symm).1 hb
    · exact H.d2 j e2 b he2 hb hne h
theorem Bks.keepB (H : Bks NB w X cells eB eW ba ka bc kc m n kb kw cs cw) {S : Nat → Prop} {f : Nat → Ent → List Value} {c : List Value} {wC wr : World} (hk : Bk (frB NB w) eB X kb cells ba f c wC) {j : Nat} {e : Ent} (he : eW[j]? = some e) (hK : Keeps S wC wr) (hS : ∀ k, S k → some k = e.lv.ownBlock ∨ k = kw) : Bk (frB NB w) eB X kb cells ba f c wr := by
  have hne : eW ≠ [] := by intro e0; rw [e0] at he; simp at he
  refine hk.kept hK (fun h => ?_) (fun hw h => ?_) (fun i e2 b he2 hb h => ?_) (fun k h => by rcases hS _ h with h | h; exact H.k.t.1 j e k he h.symm; rw [h]; exact H.k.t.2 hne)
  · rcases hS _ h with h | h
    · exact (H.k.wb j e he).1 h.symm
    · exact (H.k.r hne).2.2 h.symm
  · rcases hS _ h with h | h
    · exact H.d2 j e kb he h.symm hw rfl
    · exact H.d3 hw hne h
  · rcases hS _ h with h | h
    · exact (H.d1 i j e2 e b he2 he hb).1 h.symm
    · exact (H.d1 i j e2 e b he2 he hb).2 h
theorem Bks.keepB2 (H : Bks NB w X cells eB eW ba ka bc kc m n kb kw cs cw) {S : Nat → Prop} {N0 p : Nat} {c : List Value} {wC wr : World} (hk : Bk2 (frB NB w) eB X kb cells ba N0 p c wC) (hN : w.heap.size ≤ N0) {j : Nat} {e : Ent} (he : eW[j]? = some e) (hK : Keeps S wC wr) (hS : ∀ k, S k → some k = e.lv.ownBlock ∨ k = kw) : Bk2 (frB NB w) eB X kb cells ba N0 p c wr := by
  have hne : eW ≠ [] := by intro e0; rw [e0] at he; simp at he
  refine hk.kept hK (fun h => ?_) (fun hw h => ?_) (fun i e2 b he2 hb h => ?_) (fun k h => by rcases hS _ h with h | h; exact H.k.t.1 j e k he h.symm; rw [h]; exact H.k.t.2 hne) (fun b hb h => ?_)
  · rcases hS _ h with h | h
    · exact (H.k.wb j e he).1 h.symm
    · exact (H.k.r hne).2.2 h.symm
  · rcases hS _ h with h | h
    · exact H.d2 j e kb he h.symm hw rfl
    · exact H.d3 hw hne h
  · rcases hS _ h with h | h
    · exact (H.d1 i j e2 e b he2 he hb).1 h.symm
    · exact (H.d1 i j e2 e b he2 he hb).2 h
  · rcases hS _ h with h | h
    · have := owns_lt (H.k.l j e he).2 h.symm; omega
    · have := H.kwl hne; omega
end

theorem mk_numB (i : Nat) : (2 * (i : Int) + 1) % 256 = ((UInt8.ofNat (2 * i + 1)).toNat : Int) := by
  rw [UInt8.toNat_ofNat']; omega
theorem gk_numB (i : Nat) : (2 * (i : Int) + 2) % 256 = ((UInt8.ofNat (2 * i + 2)).toNat : Int) := by
  rw [UInt8.toNat_ofNat']; omega
theorem mk_numW (i : Nat) : (2 * (i : Int) + 2684354561) % 4294967296 = ((UInt32.ofNat (2 * i + 2684354561)).toNat : Int) := by
  rw [UInt32.toNat_ofNat']; omega
theorem gk_numW (i : Nat) : (2 * (i : Int) + 2684354562) % 4294967296 = ((UInt32.ofNat (2 * i + 2684354562)).toNat : Int) := by
  rw [UInt32.toNat_ofNat']; omega
/-- A cell of a row is written. -/
theorem owns_setV {et : TypeId} {w : World} {g n cap : Nat} {xs : List Value} (h : w.ownsRow 0 et 1 (.slice (some ⟨g, 0, none⟩) n cap) n xs) (j : Nat) (v : Value) (hj : j < n) : (w.setCell ⟨g, j, none⟩ v).ownsRow 0 et 1 (.slice (some ⟨g, 0, none⟩) n cap) n (xs.set j v) := by
  refine ⟨by rw [List.length_set]; exact h.1, ?_⟩
  rcases h.2 with ⟨h2, _⟩ | ⟨g', cap', cur, h2, hb, hg, h3, h4, h5, h6⟩
  · cases h2
  · cases h2
    have hB : Blk w g cur.toList et := by unfold Blk; rw [hg, Array.toArray_toList]
    have hS := hB.setCell j v
    refine .inr ⟨g, cap, (cur.toList.set j v).toArray, rfl, hb, hS, h3, h4, by simp; omega, ?_⟩
    rw [List.toList_toArray, ← h6, List.take_set]
theorem owns_blk {et : TypeId} {w : World} {a : Option Addr} {n cap : Nat} {xs : List Value} (h : w.ownsRow 0 et 1 (.slice a n cap) n xs) (hn : 0 < n) : ∃ g l, a = some ⟨g, 0, none⟩ ∧ Blk w g l et ∧ n ≤ l.length := by
  rcases h.2 with ⟨h2, h3⟩ | ⟨g', cap', cur, h2, hb, hg, h3, h4, h5, h6⟩
  · omega
  · cases h2
    exact ⟨g', cur.toList, rfl, by unfold Blk; rw [hg, Array.toArray_toList], by simp; omega⟩
theorem fill_setV (xs : List Value) (m : Value) (t : Nat) (h : t < xs.length) : (List.replicate t m ++ xs.drop t).set t m = List.replicate (t + 1) m ++ xs.drop (t + 1) := by
  rw [List.set_append_right _ _ (by simp), List.length_replicate, Nat.sub_self, List.drop_eq_getElem_cons h, List.replicate_succ', List.append_assoc]
  rfl
theorem two_b (n k : Nat) (x y : UInt8) : bvs (twoM n k x y) = List.replicate n (.int .u8 (x.toNat : Int)) ++ List.replicate k (.int .u8 (y.toNat : Int)) := by simp [twoM, bvs]
theorem two_w (n k : Nat) (x y : UInt32) : wvs (twoW n k x y) = List.replicate n (.int .u32 (x.toNat : Int)) ++ List.replicate k (.int .u32 (y.toNat : Int)) := by simp [twoW, wvs]
end Go.Proofs.Ytonjmknjjdnjkaa
