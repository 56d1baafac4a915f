import Derived.Test.YtomjodoimjiceaaDoorMem
import Derived.Maps.Keyed
namespace Go.Proofs.YtomjodoimjiceaaDoor
open Go.RowKit
set_option linter.unusedVariables false

/-! ### A ring of numbers: nw goes on, od goes back -/
def Chain (nw od : Nat → Nat) : Nat → List Nat → Nat → Prop
  | p, [], q => nw p = q ∧ od q = p
  | p, b :: bs, q => nw p = b ∧ od b = p ∧ Chain nw od b bs q

theorem Chain.split {nw od : Nat → Nat} {p b q : Nat} {A C : List Nat} : Chain nw od p (A ++ b :: C) q ↔ Chain nw od p A b ∧ Chain nw od b C q := by
  induction A generalizing p with
  | nil => simp [Chain, and_assoc]
  | cons a A ih => simp only [List.cons_append, Chain, ih, and_assoc]

theorem Chain.prev_mem {nw od : Nat → Nat} {p q : Nat} {A : List Nat} (h : Chain nw od p A q) : od q ∈ p :: A := by
  induction A generalizing p with
  | nil => simp [Chain] at h; simp [h.2]
  | cons a A ih => exact List.mem_cons_of_mem _ (ih h.2.2)

theorem Chain.next_mem {nw od : Nat → Nat} {p q : Nat} {A : List Nat} (h : Chain nw od p A q) : nw p ∈ A ++ [q] := by
  cases A with
  | nil => simp [Chain] at h; simp [h.1]
  | cons a A => simp [h.1]

theorem Chain.same {nw od nw' od' : Nat → Nat} {p q : Nat} {A : List Nat} (h : Chain nw od p A q) (hn : ∀ z ∈ p :: A, nw' z = nw z) (ho : ∀ z ∈ A ++ [q], od' z = od z) : Chain nw' od' p A q := by
  induction A generalizing p with
  | nil => exact ⟨(hn p (by simp)).trans h.1, (ho q (by simp)).trans h.2⟩
  | cons a A ih =>
    exact ⟨(hn p (by simp)).trans h.1, (ho a (by simp)).trans h.2.1, ih h.2.2 (fun z hz => hn z (List.mem_cons_of_mem _ hz)) (fun z hz => ho z (by simp at hz ⊢; exact .inr hz))⟩

theorem Chain.turn {nw od nw' od' : Nat → Nat} {p q y : Nat} {A : List Nat} (h : Chain nw od p A q) (nd : (p :: A).Nodup) (hn : ∀ z ∈ p :: A, z ≠ od q → nw' z = nw z) (hx : nw' (od q) = y)
    (ho : ∀ z ∈ A, od' z = od z) (hy : od' y = od q) : Chain nw' od' p A y := by
  induction A generalizing p with
  | nil =>
    have h2 : od q = p := h.2
    exact ⟨h2 ▸ hx, by rw [hy, h2]⟩
  | cons a A ih =>
    have hm := h.2.2.prev_mem
    have hne : p ≠ od q := fun e => (List.nodup_cons.1 nd).1 (e ▸ hm)
    exact ⟨(hn p (by simp) hne).trans h.1, (ho a (by simp)).trans h.2.1, ih h.2.2 (List.nodup_cons.1 nd).2 (fun z hz => hn z (List.mem_cons_of_mem _ hz)) (fun z hz => ho z (List.mem_cons_of_mem _ hz))⟩

def upd (f : Nat → Nat) (x y : Nat) : Nat → Nat := fun z => if z = x then y else f z
theorem upd_same (f : Nat → Nat) (x y : Nat) : upd f x y x = y := if_pos rfl
theorem upd_ne (f : Nat → Nat) {x z : Nat} (y : Nat) (h : z ≠ x) : upd f x y z = f z := if_neg h

/-- One goes out of the ring. -/
theorem Chain.leave {nw od : Nat → Nat} {e b : Nat} {A C : List Nat} (h : Chain nw od e (A ++ b :: C) e) (nd : (e :: (A ++ b :: C)).Nodup) :
    Chain (upd nw (od b) (nw b)) (upd od (nw b) (od b)) e (A ++ C) e := by
  obtain ⟨h1, h2⟩ := Chain.split.1 h
  have hx := h1.prev_mem
  have nd1 : (e :: A).Nodup := nd.sublist (by simp)
  have hbe : b ≠ e := fun he => by rw [he] at nd; simp at nd
  cases C with
  | nil =>
    have e1 : nw b = e := h2.1
    rw [List.append_nil, e1]
    refine h1.turn nd1 (fun z hz hne => upd_ne _ _ hne) (upd_same _ _ _) (fun z hz => upd_ne _ _ fun he => ?_) (upd_same _ _ _)
    rw [he] at hz; simp at nd; exact nd.1.1 hz
  | cons c C =>
    have e1 : nw b = c := h2.1
    have hc := h2.2.2
    rw [e1]
    have dA : ∀ z ∈ e :: A, z ∉ b :: c :: C := by
      intro z hz hz2
      have : (e :: A ++ (b :: c :: C)).Nodup := by simpa using nd
      exact (List.nodup_append.1 this).2.2 z hz z hz2 rfl
    have dC : (c :: C).Nodup := by
      have h5 : (e :: A ++ (b :: c :: C)).Nodup := by simpa using nd
      exact (List.nodup_cons.1 (List.nodup_append.1 h5).2.1).2
    have hec : e ≠ c := fun he => dA e (by simp) (by simp [he])
    refine Chain.split.2 ⟨h1.turn nd1 (fun z hz hne => upd_ne _ _ hne) (upd_same _ _ _) (fun z hz => upd_ne _ _ fun he => ?_) (upd_same _ _ _), hc.same (fun z hz => upd_ne _ _ fun he => ?_) (fun z hz => upd_ne _ _ fun he => ?_)⟩
    · exact dA z (by simp [hz]) (by simp [he])
    · exact dA (od b) hx (by rw [← he]; exact List.mem_cons_of_mem _ hz)
    · rw [he] at hz
      rcases List.mem_append.1 hz with h' | h'
      · exact (List.nodup_cons.1 dC).1 h'
      · simp at h'; exact hec h'.symm

/-- One comes in, at the end. -/
theorem Chain.enter {nw od : Nat → Nat} {e b : Nat} {A : List Nat} (h : Chain nw od e A e) (nd : (e :: A).Nodup) (hb : b ∉ e :: A) :
    Chain (upd (upd nw b e) (od e) b) (upd (upd od b (od e)) e b) e (A ++ [b]) e := by
  have hx := h.prev_mem
  have hbe : b ≠ e := fun he => hb (by simp [he])
  have hbx : b ≠ od e := fun he => hb (he ▸ hx)
  refine Chain.split.2 ⟨h.turn nd (fun z hz hne => ?_) (upd_same _ _ _) (fun z hz => ?_) ?_, ?_, upd_same _ _ _⟩
  · rw [upd_ne _ _ hne, upd_ne _ _ fun he : z = b => hb (he ▸ hz)]
  · rw [upd_ne _ _ fun he : z = e => (List.nodup_cons.1 nd).1 (he ▸ hz), upd_ne _ _ fun he : z = b => hb (by rw [← he]; exact List.mem_cons_of_mem _ hz)]
  · rw [upd_ne _ _ hbe, upd_same]
  · rw [upd_ne _ _ hbx, upd_same]

/-! ### The ring's places in the memory -/
structure N where
  blk : Nat
  key : Int
  thing : Value

abbrev ptr (b : Nat) : Value := .pointer (some ⟨b, 0, none⟩)

/-- Each of these places has its block. -/
def Nodes (w : World) (t : TypeId) (L : List N) (nw od : Nat → Nat) : Prop :=
  ∀ x ∈ L, Blk w x.blk [.int .i64 x.key, x.thing, ptr (od x.blk), ptr (nw x.blk)] t

theorem Nodes.kept {S : Nat → Prop} {w w' : World} {t : TypeId} {L : List N} {nw od : Nat → Nat} (h : Nodes w t L nw od) (k : Keeps S w w') (hn : ∀ x ∈ L, ¬ S x.blk) : Nodes w' t L nw od :=
  fun x hx => (h x hx).kept k (hn x hx)
theorem Nodes.sub {w : World} {t : TypeId} {L L' : List N} {nw od : Nat → Nat} (h : Nodes w t L nw od) (hs : ∀ x ∈ L', x ∈ L) : Nodes w t L' nw od := fun x hx => h x (hs x hx)
theorem Nodes.setNew {w : World} {t : TypeId} {L : List N} {nw od : Nat → Nat} (h : Nodes w t L nw od) (x y : Nat) : Nodes (w.setCell ⟨x, 3, none⟩ (ptr y)) t L (upd nw x y) od := by
  intro z hz
  by_cases e : z.blk = x
  · have h1 := h z hz
    rw [e] at h1 ⊢
    rw [upd_same]
    exact h1.setCell 3 (ptr y)
  · rw [upd_ne _ _ e]
    exact (h z hz).setCell_ne e _
theorem Nodes.setOld {w : World} {t : TypeId} {L : List N} {nw od : Nat → Nat} (h : Nodes w t L nw od) (x y : Nat) : Nodes (w.setCell ⟨x, 2, none⟩ (ptr y)) t L nw (upd od x y) := by
  intro z hz
  by_cases e : z.blk = x
  · have h1 := h z hz
    rw [e] at h1 ⊢
    rw [upd_same]
    exact h1.setCell 2 (ptr y)
  · rw [upd_ne _ _ e]
    exact (h z hz).setCell_ne e _

/-- A ring in the memory: the end and its places. -/
structure Rg (w : World) (t : TypeId) (e : N) (xs : List N) (nw od : Nat → Nat) : Prop where
  chain : Chain nw od e.blk (xs.map N.blk) e.blk
  nodup : (e.blk :: xs.map N.blk).Nodup
  nodes : Nodes w t (e :: xs) nw od

theorem Rg.kept {S : Nat → Prop} {w w' : World} {t : TypeId} {e : N} {xs : List N} {nw od : Nat → Nat} (h : Rg w t e xs nw od) (k : Keeps S w w') (hn : ∀ x ∈ e :: xs, ¬ S x.blk) : Rg w' t e xs nw od :=
  ⟨h.chain, h.nodup, h.nodes.kept k hn⟩

/-! ### A map in the memory -/
theorem val_one : ∀ {l : List (Value × Value)}, (l.map Prod.fst).Nodup → ∀ {a x y : Value}, (a, x) ∈ l → (a, y) ∈ l → x = y
  | [], _, _, _, _, h, _ => by simp at h
  | p :: r, hn, a, x, y, hx, hy => by
    obtain ⟨h1, h2⟩ := List.nodup_cons.1 (by simpa using hn : (p.1 :: r.map Prod.fst).Nodup)
    rcases List.mem_cons.1 hx with hx | hx
    · rcases List.mem_cons.1 hy with hy | hy
      · rw [← hx] at hy; exact (congrArg Prod.snd hy).symm
      · exact absurd (List.mem_map.2 ⟨_, hy, by rw [← hx]⟩) h1
    · rcases List.mem_cons.1 hy with hy | hy
      · exact absurd (List.mem_map.2 ⟨_, hx, by rw [← hy]⟩) h1
      · exact val_one h2 hx hy

/-- Block m is a map with these keys and their values, in some order. -/
def MapIs (P : Program) (k : TypeId) (w : World) (m : Nat) (l : List (Value × Value)) : Prop :=
  ∃ es clock, w.heap[m]? = some (.map es clock) ∧ (es.toList.map fun e => (e.key, e.val)).Perm l ∧ (l.map Prod.fst).Nodup ∧ ∀ p ∈ l, ∃ lit, keyOf P k p.1 = some lit

section
variable {P : Program} {k : TypeId} {w : World} {m : Nat} {l l' : List (Value × Value)}
theorem MapIs.perm (h : MapIs P k w m l) (hp : l.Perm l') : MapIs P k w m l' := by
  obtain ⟨es, c, h1, h2, h3, h4⟩ := h
  exact ⟨es, c, h1, h2.trans hp, (hp.map _).nodup_iff.1 h3, fun p hm => h4 p (hp.mem_iff.2 hm)⟩
theorem MapIs.lt (h : MapIs P k w m l) : m < w.heap.size := by
  obtain ⟨es, c, h1, _⟩ := h
  exact (Array.getElem?_eq_some_iff.1 h1).1
theorem MapIs.kept {S : Nat → Prop} {w' : World} (h : MapIs P k w m l) (hK : Keeps S w w') (hn : ¬ S m) : MapIs P k w' m l := by
  have hlt := h.lt
  obtain ⟨es, c, h1, h2⟩ := h
  exact ⟨es, c, (hK.block m hlt hn).trans h1, h2⟩
theorem MapIs.new (P : Program) (k : TypeId) (w : World) : MapIs P k (w.alloc (.map #[] 0)) w.heap.size [] :=
  ⟨#[], 0, (MapKept.heap_alloc w _).1, by simp, by simp, by simp⟩
theorem MapIs.setCell (h : MapIs P k w m l) {a : Addr} (ha : m ≠ a.block) (u : Value) : MapIs P k (w.setCell a u) m l := by
  obtain ⟨es, c, h1, h2⟩ := h
  exact ⟨es, c, by rw [Below.heap_setCell _ _ _ _ ha]; exact h1, h2⟩

theorem MapIs.entries {es : Array MapEntry} (h2 : (es.toList.map fun e => (e.key, e.val)).Perm l) (h4 : ∀ p ∈ l, ∃ lit, keyOf P k p.1 = some lit) : ∀ e ∈ es.toList, ∃ lit, keyOf P k e.key = some lit :=
  fun e he => h4 (e.key, e.val) (h2.mem_iff.1 (List.mem_map.2 ⟨e, he, rfl⟩))

variable {t e : TypeId}
theorem MapIs.look_none (h : MapIs P k w m l) (K : Maps.Keyed P k) (ht : P.underlying t = some (.map k e)) {z : Value} (hz : (zeroValue e).run P w = .ok z w) {key : Value} {kl : Lit} (hkey : keyOf P k key = some kl)
    (hn : ∀ p ∈ l, p.1 ≠ key) : (Instr.lookup t (.map (some m)) key false).run P w = .ok z w := by
  obtain ⟨es, c, h1, h2, h3, h4⟩ := h
  rcases K.find w hkey es.toList (MapIs.entries h2 h4) with ⟨f1, _⟩ | ⟨j, e0, f1, f2, f3⟩
  · simp [Instr.lookup, run_underlying ht, MapKept.run_getObj_map h1, K.check w _ hkey, f1, hz, Result.andThen]
  · exact absurd f3 (hn (e0.key, e0.val) (h2.mem_iff.1 (List.mem_map.2 ⟨e0, List.mem_of_getElem? f2, rfl⟩)))

theorem MapIs.look_some (h : MapIs P k w m l) (K : Maps.Keyed P k) (ht : P.underlying t = some (.map k e)) {key v : Value} {kl : Lit} (hkey : keyOf P k key = some kl)
    (hm : (key, v) ∈ l) : (Instr.lookup t (.map (some m)) key false).run P w = .ok v w := by
  obtain ⟨es, c, h1, h2, h3, h4⟩ := h
  rcases K.find w hkey es.toList (MapIs.entries h2 h4) with ⟨f1, f2⟩ | ⟨j, e0, f1, f2, f3⟩
  · obtain ⟨e0, he0, h0⟩ := List.mem_map.1 (h2.mem_iff.2 hm)
    exact absurd (congrArg Prod.fst h0) (f2 e0 he0)
  · have hm0 : (e0.key, e0.val) ∈ l := h2.mem_iff.1 (List.mem_map.2 ⟨e0, List.mem_of_getElem? f2, rfl⟩)
    have hv : e0.val = v := by
      rw [f3] at hm0
      exact val_one h3 hm0 hm
    simp [Instr.lookup, run_underlying ht, MapKept.run_getObj_map h1, K.check w _ hkey, f1, hv, Result.andThen]

/-- A key that is not there gets a value. -/
theorem MapIs.store (h : MapIs P k w m l) (K : Maps.Keyed P k) (ht : P.underlying t = some (.map k e)) {key v : Value} {kl : Lit} (hkey : keyOf P k key = some kl) (hroom : l.length < maxLen)
    (hn : ∀ p ∈ l, p.1 ≠ key) : ∃ w', (Instr.mapUpdate t (.map (some m)) key v).run P w = .ok () w' ∧ MapIs P k w' m ((key, v) :: l) ∧ Keeps (fun b => b = m) w w' := by
  obtain ⟨es, c, h1, h2, h3, h4⟩ := h
  rcases K.find w hkey es.toList (MapIs.entries h2 h4) with ⟨f1, _⟩ | ⟨j, e0, f1, f2, f3⟩
  · have hsz : es.size < maxLen := by
      have := h2.length_eq
      simp at this; omega
    refine ⟨ChangeMaps.setBlock w m (.map (es.push ⟨key, v, c⟩) (c + 1)), ?_, ⟨es.push ⟨key, v, c⟩, c + 1, ChangeMaps.heap_setBlock_same h1 _, ?_, ?_, ?_⟩, ⟨rfl, rfl, rfl, by simp [ChangeMaps.setBlock], fun i _ hi => ChangeMaps.heap_setBlock_other h1 _ hi⟩⟩
    · simp [Instr.mapUpdate, run_underlying ht, MapKept.run_getObj_map h1, K.check w false hkey, f1, MapKept.run_setObj_map _ h1, Result.andThen, ChangeMaps.setBlock]
    · rw [Array.toList_push, List.map_append]
      exact (List.perm_append_singleton _ _).trans (h2.cons _)
    · simp only [List.map_cons, List.nodup_cons]
      refine ⟨fun hm => ?_, h3⟩
      obtain ⟨p, hp, he⟩ := List.mem_map.1 hm
      exact hn p hp he
    · intro p hp
      rcases List.mem_cons.1 hp with rfl | hp
      · exact ⟨kl, hkey⟩
      · exact h4 p hp
  · exact absurd f3 (hn (e0.key, e0.val) (h2.mem_iff.1 (List.mem_map.2 ⟨e0, List.mem_of_getElem? f2, rfl⟩)))

/-- A key that is there goes. -/
theorem MapIs.drop {A C : List (Value × Value)} {key v : Value} (h : MapIs P k w m (A ++ (key, v) :: C)) (K : Maps.Keyed P k) (ht : P.underlying t = some (.map k e)) {kl : Lit} (hkey : keyOf P k key = some kl) :
    ∃ w', (∀ ty, (Builtin.delete_ #[t, k] ty #[.map (some m), key]).run P w = .ok (.tuple #[]) w') ∧ MapIs P k w' m (A ++ C) ∧ Keeps (fun b => b = m) w w' := by
  obtain ⟨es, c, h1, h2, h3, h4⟩ := h
  rcases K.find w hkey es.toList (MapIs.entries h2 h4) with ⟨f1, f2⟩ | ⟨j, e0, f1, f2, f3⟩
  · obtain ⟨e0, he0, h0⟩ := List.mem_map.1 (h2.mem_iff.2 (show (key, v) ∈ A ++ (key, v) :: C by simp))
    exact absurd (congrArg Prod.fst h0) (f2 e0 he0)
  · have hjl : j < es.toList.length := (List.getElem?_eq_some_iff.1 f2).1
    have hjs : j < es.size := by simpa using hjl
    have hsub : (es.eraseIdxIfInBounds j).toList = es.toList.eraseIdx j := by
      unfold Array.eraseIdxIfInBounds
      rw [dif_pos hjs]
      simp
    have hlist : es.toList = es.toList.take j ++ e0 :: es.toList.drop (j + 1) := by
      have := List.getElem_of_getElem? f2
      obtain ⟨hh, he⟩ := this
      rw [← he, List.getElem_cons_drop, List.take_append_drop]
    have hperm : ((es.toList.eraseIdx j).map fun e => (e.key, e.val)).Perm (A ++ C) := by
      have hm0 : (e0.key, e0.val) ∈ A ++ (key, v) :: C := h2.mem_iff.1 (List.mem_map.2 ⟨e0, List.mem_of_getElem? f2, rfl⟩)
      have hv : e0.val = v := by
        rw [f3] at hm0
        exact val_one h3 hm0 (show (key, v) ∈ A ++ (key, v) :: C by simp)
      rw [hlist, List.map_append, List.map_cons, f3, hv] at h2
      have h5 := (List.perm_middle.symm.trans (h2.trans List.perm_middle)).cons_inv
      rw [List.eraseIdx_eq_take_drop_succ, List.map_append]
      exact h5
    refine ⟨ChangeMaps.setBlock w m (.map (es.eraseIdxIfInBounds j) c), fun ty => ?_, ⟨_, c, ChangeMaps.heap_setBlock_same h1 _, by rw [hsub]; exact hperm, ?_, fun p hp => h4 p ?_⟩, ⟨rfl, rfl, rfl, by simp [ChangeMaps.setBlock], fun i _ hi => ChangeMaps.heap_setBlock_other h1 _ hi⟩⟩
    · simp [Builtin.delete_, run_underlying ht, MapKept.run_getObj_map h1, K.check w _ hkey, f1, MapKept.run_setObj_map _ h1, Result.andThen, ChangeMaps.setBlock]
    · refine h3.sublist ?_
      simp
    · rcases List.mem_append.1 hp with h | h
      · simp [h]
      · simp [h]

theorem MapIs.len (h : MapIs P k w m l) (ht : P.underlying t = some (.map k e)) (ty : TypeId) : (Builtin.len_ #[t] ty #[.map (some m)]).run P w = .ok (.int .i64 l.length) w := by
  obtain ⟨es, c, h1, h2, h3, h4⟩ := h
  have e1 : es.size = l.length := by have := h2.length_eq; simpa using this
  simp [Builtin.len_, run_underlying ht, MapKept.run_getObj_map h1, goInt, Result.andThen, e1]
end

end Go.Proofs.YtomjodoimjiceaaDoor
