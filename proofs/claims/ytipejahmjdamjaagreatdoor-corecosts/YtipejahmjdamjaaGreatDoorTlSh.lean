import Derived.Test.YtipejahmjdamjaaGreatDoorMem
import Derived.Maps.Keyed
import Derived.Test.YtipejahmjdamjaaGreatDoorChRing
import Derived.Below
namespace Go.Proofs.YtipejahmjdamjaaGreatDoor.Tl
open Go.RowKit
set_option linter.unusedVariables false

/-! ### A ring of numbers: nw goes on, od goes back -/
def Chain (nw od : Nat → Nat) : Nat → List Nat → Nat → Prop
  | p, [], q => nw p = q ∧ od q = p
  | p, b :: bs, q => nw p = b ∧ od b = p ∧ Chain nw od b bs q

theorem Chain.split {nw od : Nat → Nat} {p b q : Nat} {A C : List Nat} : Chain nw od p (A ++ b :: C) q ↔ Chain nw od p A b ∧ Chain nw od b C q := by
  induction A generalizing p with
  | nil => simp [Chain, and_assoc]
  | cons a A ih => simp only [List.cons_append, Chain, ih, and_assoc]

theorem Chain.prev_mem {nw od : Nat → Nat} {p q : Nat} {A : List Nat} (h : Chain nw od p A q) : od q ∈ p :: A := by
  induction A generalizing p with
  | nil => simp [Chain] at h; simp [h.2]
  | cons a A ih => exact List.mem_cons_of_mem _ (ih h.2.2)

theorem Chain.next_mem {nw od : Nat → Nat} {p q : Nat} {A : List Nat} (h : Chain nw od p A q) : nw p ∈ A ++ [q] := by
  cases A with
  | nil => simp [Chain] at h; simp [h.1]
  | cons a A => simp [h.1]

theorem Chain.same {nw od nw' od' : Nat → Nat} {p q : Nat} {A : List Nat} (h : Chain nw od p A q) (hn : ∀ z ∈ p :: A, nw' z = nw z) (ho : ∀ z ∈ A ++ [q], od' z = od z) : Chain nw' od' p A q := by
  induction A generalizing p with
  | nil => exact ⟨(hn p (by simp)).trans h.1, (ho q (by simp)).trans h.2⟩
  | cons a A ih =>
    exact ⟨(hn p (by simp)).trans h.1, (ho a (by simp)).trans h.2.1, ih h.2.2 (fun z hz => hn z (List.mem_cons_of_mem _ hz)) (fun z hz => ho z (by simp at hz ⊢; exact .inr hz))⟩

theorem Chain.turn {nw od nw' od' : Nat → Nat} {p q y : Nat} {A : List Nat} (h : Chain nw od p A q) (nd : (p :: A).Nodup) (hn : ∀ z ∈ p :: A, z ≠ od q → nw' z = nw z) (hx : nw' (od q) = y)
    (ho : ∀ z ∈ A, od' z = od z) (hy : od' y = od q) : Chain nw' od' p A y := by
  induction A generalizing p with
  | nil =>
    have h2 : od q = p := h.2
    exact ⟨h2 ▸ hx, by rw [hy, h2]⟩
  | cons a A ih =>
    have hm := h.2.2.prev_mem
    have hne : p ≠ od q := fun e => (List.nodup_cons.1 nd).1 (e ▸ hm)
    exact ⟨(hn p (by simp) hne).trans h.1, (ho a (by simp)).trans h.2.1, ih h.2.2 (List.nodup_cons.1 nd).2 (fun z hz => hn z (List.mem_cons_of_mem _ hz)) (fun z hz => ho z (List.mem_cons_of_mem _ hz))⟩

def upd (f : Nat → Nat) (x y : Nat) : Nat → Nat := fun z => if z = x then y else f z
theorem upd_same (f : Nat → Nat) (x y : Nat) : upd f x y x = y := if_pos rfl
theorem upd_ne (f : Nat → Nat) {x z : Nat} (y : Nat) (h : z ≠ x) : upd f x y z = f z := if_neg h

/-- One goes out of the ring. -/
theorem Chain.leave {nw od : Nat → Nat} {e b : Nat} {A C : List Nat} (h : Chain nw od e (A ++ b :: C) e) (nd : (e :: (A ++ b :: C)).Nodup) :
    Chain (upd nw (od b) (nw b)) (upd od (nw b) (od b)) e (A ++ C) e := by
  obtain ⟨h1, h2⟩ := Chain.split.1 h
  have hx := h1.prev_mem
  have nd1 : (e :: A).Nodup := nd.sublist (by simp)
  have hbe : b ≠ e := fun he => by rw [he] at nd; simp at nd
  cases C with
  | nil =>
    have e1 : nw b = e := h2.1
    rw [List.append_nil, e1]
    refine h1.turn nd1 (fun z hz hne => upd_ne _ _ hne) (upd_same _ _ _) (fun z hz => upd_ne _ _ fun he => ?_) (upd_same _ _ _)
    rw [he] at hz; simp at nd; exact nd.1.1 hz
  | cons c C =>
    have e1 : nw b = c := h2.1
    have hc := h2.2.2
    rw [e1]
    have dA : ∀ z ∈ e :: A, z ∉ b :: c :: C := by
      intro z hz hz2
      have : (e :: A ++ (b :: c :: C)).Nodup := by simpa using nd
      exact (List.nodup_append.1 this).2.2 z hz z hz2 rfl
    have dC : (c :: C).Nodup := by
      have h5 : (e :: A ++ (b :: c :: C)).Nodup := by simpa using nd
      exact (List.nodup_cons.1 (List.nodup_append.1 h5).2.1).2
    have hec : e ≠ c := fun he => dA e (by simp) (by simp [he])
    refine Chain.split.2 ⟨h1.turn nd1 (fun z hz hne => upd_ne _ _ hne) (upd_same _ _ _) (fun z hz => upd_ne _ _ fun he => ?_) (upd_same _ _ _), hc.same (fun z hz => upd_ne _ _ fun he => ?_) (fun z hz => upd_ne _ _ fun he => ?_)⟩
    · exact dA z (by simp [hz]) (by simp [he])
    · exact dA (od b) hx (by rw [← he]; exact List.mem_cons_of_mem _ hz)
    · rw [he] at hz
      rcases List.mem_append.1 hz with h' | h'
      · exact (List.nodup_cons.1 dC).1 h'
      · simp at h'; exact hec h'.symm

/-- One comes in, at the end. -/
theorem Chain.enter {nw od : Nat → Nat} {e b : Nat} {A : List Nat} (h : Chain nw od e A e) (nd : (e :: A).Nodup) (hb : b ∉ e :: A) :
    Chain (upd (upd nw b e) (od e) b) (upd (upd od b (od e)) e b) e (A ++ [b]) e := by
  have hx := h.prev_mem
  have hbe : b ≠ e := fun he => hb (by simp [he])
  have hbx : b ≠ od e := fun he => hb (he ▸ hx)
  refine Chain.split.2 ⟨h.turn nd (fun z hz hne => ?_) (upd_same _ _ _) (fun z hz => ?_) ?_, ?_, upd_same _ _ _⟩
  · rw [upd_ne _ _ hne, upd_ne _ _ fun he : z = b => hb (he ▸ hz)]
  · rw [upd_ne _ _ fun he : z = e => (List.nodup_cons.1 nd).1 (he ▸ hz), upd_ne _ _ fun he : z = b => hb (by rw [← he]; exact List.mem_cons_of_mem _ hz)]
  · rw [upd_ne _ _ hbe, upd_same]
  · rw [upd_ne _ _ hbx, upd_same]

/-! ### The ring's places in the memory -/
/-- A leaf: page, frame, rights. -/
structure Lf where
  p : Int
  f : Int
  r : Int
deriving DecidableEq

abbrev Lf.v (l : Lf) : Value := .agg #[.int .i64 l.p, .int .i64 l.f, .int .i64 l.r]
abbrev Lf.vs (l : Lf) : List Value := [.int .i64 l.p, .int .i64 l.f, .int .i64 l.r]

structure N where
  blk : Nat
  key : Int
  thing : Lf

abbrev ptr (b : Nat) : Value := .pointer (some ⟨b, 0, none⟩)

/-- Each of these places has its block. -/
def Nodes (w : World) (t : TypeId) (L : List N) (nw od : Nat → Nat) : Prop :=
  ∀ x ∈ L, Blk w x.blk [.int .i64 x.key, .int .i64 x.thing.p, .int .i64 x.thing.f, .int .i64 x.thing.r, ptr (od x.blk), ptr (nw x.blk)] t

theorem Nodes.kept {S : Nat → Prop} {w w' : World} {t : TypeId} {L : List N} {nw od : Nat → Nat} (h : Nodes w t L nw od) (k : Keeps S w w') (hn : ∀ x ∈ L, ¬ S x.blk) : Nodes w' t L nw od :=
  fun x hx => (h x hx).kept k (hn x hx)
theorem Nodes.sub {w : World} {t : TypeId} {L L' : List N} {nw od : Nat → Nat} (h : Nodes w t L nw od) (hs : ∀ x ∈ L', x ∈ L) : Nodes w t L' nw od := fun x hx => h x (hs x hx)
theorem Nodes.setNew {w : World} {t : TypeId} {L : List N} {nw od : Nat → Nat} (h : Nodes w t L nw od) (x y : Nat) : Nodes (w.setCell ⟨x, 5, none⟩ (ptr y)) t L (upd nw x y) od := by
  intro z hz
  by_cases e : z.blk = x
  · have h1 := h z hz
    rw [e] at h1 ⊢
    rw [upd_same]
    exact h1.setCell 5 (ptr y)
  · rw [upd_ne _ _ e]
    exact (h z hz).setCell_ne e _
theorem Nodes.setOld {w : World} {t : TypeId} {L : List N} {nw od : Nat → Nat} (h : Nodes w t L nw od) (x y : Nat) : Nodes (w.setCell ⟨x, 4, none⟩ (ptr y)) t L nw (upd od x y) := by
  intro z hz
  by_cases e : z.blk = x
  · have h1 := h z hz
    rw [e] at h1 ⊢
    rw [upd_same]
    exact h1.setCell 4 (ptr y)
  · rw [upd_ne _ _ e]
    exact (h z hz).setCell_ne e _

/-- A ring in the memory: the end and its places. -/
structure Rg (w : World) (t : TypeId) (e : N) (xs : List N) (nw od : Nat → Nat) : Prop where
  chain : Chain nw od e.blk (xs.map N.blk) e.blk
  nodup : (e.blk :: xs.map N.blk).Nodup
  nodes : Nodes w t (e :: xs) nw od

theorem Rg.kept {S : Nat → Prop} {w w' : World} {t : TypeId} {e : N} {xs : List N} {nw od : Nat → Nat} (h : Rg w t e xs nw od) (k : Keeps S w w') (hn : ∀ x ∈ e :: xs, ¬ S x.blk) : Rg w' t e xs nw od :=
  ⟨h.chain, h.nodup, h.nodes.kept k hn⟩

/-! ### A map in the memory -/
theorem val_one : ∀ {l : List (Value × Value)}, (l.map Prod.fst).Nodup → ∀ {a x y : Value}, (a, x) ∈ l → (a, y) ∈ l → x = y
  | [], _, _, _, _, h, _ => by simp at h
  | p :: r, hn, a, x, y, hx, hy => by
    obtain ⟨h1, h2⟩ := List.nodup_cons.1 (by simpa using hn : (p.1 :: r.map Prod.fst).Nodup)
    rcases List.mem_cons.1 hx with hx | hx
    · rcases List.mem_cons.1 hy with hy | hy
      · rw [← hx] at hy; exact (congrArg Prod.snd hy).symm
      · exact absurd (List.mem_map.2 ⟨_, hy, by rw [← hx]⟩) h1
    · rcases List.mem_cons.1 hy with hy | hy
      · exact absurd (List.mem_map.2 ⟨_, hx, by rw [← hy]⟩) h1
      · exact val_one h2 hx hy

/-- Block m is a map with these keys and their values, in some order. -/
def MapIs (P : Program) (k : TypeId) (w : World) (m : Nat) (l : List (Value × Value)) : Prop :=
  ∃ es clock, w.heap[m]? = some (.map es clock) ∧ (es.toList.map fun e => (e.key, e.val)).Perm l ∧ (l.map Prod.fst).Nodup ∧ ∀ p ∈ l, ∃ lit, keyOf P k p.1 = some lit

section
variable {P : Program} {k : TypeId} {w : World} {m : Nat} {l l' : List (Value × Value)}
theorem MapIs.perm (h : MapIs P k w m l) (hp : l.Perm l') : MapIs P k w m l' := by
  obtain ⟨es, c, h1, h2, h3, h4⟩ := h
  exact ⟨es, c, h1, h2.trans hp, (hp.map _).nodup_iff.1 h3, fun p hm => h4 p (hp.mem_iff.2 hm)⟩
theorem MapIs.lt (h : MapIs P k w m l) : m < w.heap.size := by
  obtain ⟨es, c, h1, _⟩ := h
  exact (Array.getElem?_eq_some_iff.1 h1).1
theorem MapIs.kept {S : Nat → Prop} {w' : World} (h : MapIs P k w m l) (hK : Keeps S w w') (hn : ¬ S m) : MapIs P k w' m l := by
  have hlt := h.lt
  obtain ⟨es, c, h1, h2⟩ := h
  exact ⟨es, c, (hK.block m hlt hn).trans h1, h2⟩
theorem MapIs.new (P : Program) (k : TypeId) (w : World) : MapIs P k (w.alloc (.map #[] 0)) w.heap.size [] :=
  ⟨#[], 0, (MapKept.heap_alloc w _).1, by simp, by simp, by simp⟩
theorem MapIs.setCell (h : MapIs P k w m l) {a : Addr} (ha : m ≠ a.block) (u : Value) : MapIs P k (w.setCell a u) m l := by
  obtain ⟨es, c, h1, h2⟩ := h
  exact ⟨es, c, by rw [Below.heap_setCell _ _ _ _ ha]; exact h1, h2⟩

theorem MapIs.entries {es : Array MapEntry} (h2 : (es.toList.map fun e => (e.key, e.val)).Perm l) (h4 : ∀ p ∈ l, ∃ lit, keyOf P k p.1 = some lit) : ∀ e ∈ es.toList, ∃ lit, keyOf P k e.key = some lit :=
  fun e he => h4 (e.key, e.val) (h2.mem_iff.1 (List.mem_map.2 ⟨e, he, rfl⟩))

variable {t e : TypeId}
theorem MapIs.look_none (h : MapIs P k w m l) (K : Maps.Keyed P k) (ht : P.underlying t = some (.map k e)) {z : Value} (hz : (zeroValue e).run P w = .ok z w) {key : Value} {kl : Lit} (hkey : keyOf P k key = some kl)
    (hn : ∀ p ∈ l, p.1 ≠ key) : (Instr.lookup t (.map (some m)) key false).run P w = .ok z w := by
  obtain ⟨es, c, h1, h2, h3, h4⟩ := h
  rcases K.find w hkey es.toList (MapIs.entries h2 h4) with ⟨f1, _⟩ | ⟨j, e0, f1, f2, f3⟩
  · simp [Instr.lookup, run_underlying ht, MapKept.run_getObj_map h1, K.check w _ hkey, f1, hz, Result.andThen]
  · exact absurd f3 (hn (e0.key, e0.val) (h2.mem_iff.1 (List.mem_map.2 ⟨e0, List.mem_of_getElem? f2, rfl⟩)))

theorem MapIs.look_some (h : MapIs P k w m l) (K : Maps.Keyed P k) (ht : P.underlying t = some (.map k e)) {key v : Value} {kl : Lit} (hkey : keyOf P k key = some kl)
    (hm : (key, v) ∈ l) : (Instr.lookup t (.map (some m)) key false).run P w = .ok v w := by
  obtain ⟨es, c, h1, h2, h3, h4⟩ := h
  rcases K.find w hkey es.toList (MapIs.entries h2 h4) with ⟨f1, f2⟩ | ⟨j, e0, f1, f2, f3⟩
  · obtain ⟨e0, he0, h0⟩ := List.mem_map.1 (h2.mem_iff.2 hm)
    exact absurd (congrArg Prod.fst h0) (f2 e0 he0)
  · have hm0 : (e0.key, e0.val) ∈ l := h2.mem_iff.1 (List.mem_map.2 ⟨e0, List.mem_of_getElem? f2, rfl⟩)
    have hv : e0.val = v := by
      rw [f3] at hm0
      exact val_one h3 hm0 hm
    simp [Instr.lookup, run_underlying ht, MapKept.run_getObj_map h1, K.check w _ hkey, f1, hv, Result.andThen]

/-- A key that is not there gets a value. -/
theorem MapIs.store (h : MapIs P k w m l) (K : Maps.Keyed P k) (ht : P.underlying t = some (.map k e)) {key v : Value} {kl : Lit} (hkey : keyOf P k key = some kl) (hroom : l.length < maxLen)
    (hn : ∀ p ∈ l, p.1 ≠ key) : ∃ w', (Instr.mapUpdate t (.map (some m)) key v).run P w = .ok () w' ∧ MapIs P k w' m ((key, v) :: l) ∧ Keeps (fun b => b = m) w w' := by
  obtain ⟨es, c, h1, h2, h3, h4⟩ := h
  rcases K.find w hkey es.toList (MapIs.entries h2 h4) with ⟨f1, _⟩ | ⟨j, e0, f1, f2, f3⟩
  · have hsz : es.size < maxLen := by
      have := h2.length_eq
      simp at this; omega
    refine ⟨ChangeMaps.setBlock w m (.map (es.push ⟨key, v, c⟩) (c + 1)), ?_, ⟨es.push ⟨key, v, c⟩, c + 1, ChangeMaps.heap_setBlock_same h1 _, ?_, ?_, ?_⟩, ⟨rfl, rfl, rfl, by simp [ChangeMaps.setBlock], fun i _ hi => ChangeMaps.heap_setBlock_other h1 _ hi⟩⟩
    · simp [Instr.mapUpdate, run_underlying ht, MapKept.run_getObj_map h1, K.check w false hkey, f1, MapKept.run_setObj_map _ h1, Result.andThen, ChangeMaps.setBlock]
    · rw [Array.toList_push, List.map_append]
      exact (List.perm_append_singleton _ _).trans (h2.cons _)
    · simp only [List.map_cons, List.nodup_cons]
      refine ⟨fun hm => ?_, h3⟩
      obtain ⟨p, hp, he⟩ := List.mem_map.1 hm
      exact hn p hp he
    · intro p hp
      rcases List.mem_cons.1 hp with rfl | hp
      · exact ⟨kl, hkey⟩
      · exact h4 p hp
  · exact absurd f3 (hn (e0.key, e0.val) (h2.mem_iff.1 (List.mem_map.2 ⟨e0, List.mem_of_getElem? f2, rfl⟩)))

/-- A key that is there goes. -/
theorem MapIs.drop {A C : List (Value × Value)} {key v : Value} (h : MapIs P k w m (A ++ (key, v) :: C)) (K : Maps.Keyed P k) (ht : P.underlying t = some (.map k e)) {kl : Lit} (hkey : keyOf P k key = some kl) :
    ∃ w', (∀ ty, (Builtin.delete_ #[t, k] ty #[.map (some m), key]).run P w = .ok (.tuple #[]) w') ∧ MapIs P k w' m (A ++ C) ∧ Keeps (fun b => b = m) w w' := by
  obtain ⟨es, c, h1, h2, h3, h4⟩ := h
  rcases K.find w hkey es.toList (MapIs.entries h2 h4) with ⟨f1, f2⟩ | ⟨j, e0, f1, f2, f3⟩
  · obtain ⟨e0, he0, h0⟩ := List.mem_map.1 (h2.mem_iff.2 (show (key, v) ∈ A ++ (key, v) :: C by simp))
    exact absurd (congrArg Prod.fst h0) (f2 e0 he0)
  · have hjl : j < es.toList.length := (List.getElem?_eq_some_iff.1 f2).1
    have hjs : j < es.size := by simpa using hjl
    have hsub : (es.eraseIdxIfInBounds j).toList = es.toList.eraseIdx j := by
      unfold Array.eraseIdxIfInBounds
      rw [dif_pos hjs]
      simp
    have hlist : es.toList = es.toList.take j ++ e0 :: es.toList.drop (j + 1) := by
      have := List.getElem_of_getElem? f2
      obtain ⟨hh, he⟩ := this
      rw [← he, List.getElem_cons_drop, List.take_append_drop]
    have hperm : ((es.toList.eraseIdx j).map fun e => (e.key, e.val)).Perm (A ++ C) := by
      have hm0 : (e0.key, e0.val) ∈ A ++ (key, v) :: C := h2.mem_iff.1 (List.mem_map.2 ⟨e0, List.mem_of_getElem? f2, rfl⟩)
      have hv : e0.val = v := by
        rw [f3] at hm0
        exact val_one h3 hm0 (show (key, v) ∈ A ++ (key, v) :: C by simp)
      rw [hlist, List.map_append, List.map_cons, f3, hv] at h2
      have h5 := (List.perm_middle.symm.trans (h2.trans List.perm_middle)).cons_inv
      rw [List.eraseIdx_eq_take_drop_succ, List.map_append]
      exact h5
    refine ⟨ChangeMaps.setBlock w m (.map (es.eraseIdxIfInBounds j) c), fun ty => ?_, ⟨_, c, ChangeMaps.heap_setBlock_same h1 _, by rw [hsub]; exact hperm, ?_, fun p hp => h4 p ?_⟩, ⟨rfl, rfl, rfl, by simp [ChangeMaps.setBlock], fun i _ hi => ChangeMaps.heap_setBlock_other h1 _ hi⟩⟩
    · simp [Builtin.delete_, run_underlying ht, MapKept.run_getObj_map h1, K.check w _ hkey, f1, MapKept.run_setObj_map _ h1, Result.andThen, ChangeMaps.setBlock]
    · refine h3.sublist ?_
      simp
    · rcases List.mem_append.1 hp with h | h
      · simp [h]
      · simp [h]

theorem MapIs.len (h : MapIs P k w m l) (ht : P.underlying t = some (.map k e)) (ty : TypeId) : (Builtin.len_ #[t] ty #[.map (some m)]).run P w = .ok (.int .i64 l.length) w := by
  obtain ⟨es, c, h1, h2, h3, h4⟩ := h
  have e1 : es.size = l.length := by have := h2.length_eq; simpa using this
  simp [Builtin.len_, run_underlying ht, MapKept.run_getObj_map h1, goInt, Result.andThen, e1]
end

end Go.Proofs.YtipejahmjdamjaaGreatDoor.Tl
namespace Go.Proofs.YtipejahmjdamjaaGreatDoor.Tl
open Go.RowKit
set_option linter.unusedVariables false

/-- The numbers of an instance's types. -/
structure Ty where
  s : TypeId
  p : TypeId
  k : TypeId

def mapOf (xs : List N) : List (Value × Value) := xs.map fun x => (.int .i64 x.key, ptr x.blk)

/-- A shelf in the memory: its block, its map's, its end, its places. -/
structure Sh (P : Program) (T : Ty) (w : World) (s m : Nat) (e : N) (room : Nat) (xs : List N) (nw od : Nat → Nat) : Prop where
  blk : Blk w s [.int .i64 room, .map (some m), ptr e.blk] T.s
  map : MapIs P T.k w m (mapOf xs)
  ring : Rg w T.p e xs nw od
  sm : s ≠ m
  sx : ∀ x ∈ e :: xs, x.blk ≠ s
  mx : ∀ x ∈ e :: xs, x.blk ≠ m
  lo : 1 ≤ room
  hi : room ≤ 4096
  fits : xs.length ≤ room

/-- The blocks of a shelf. -/
def Own (s m : Nat) (e : N) (xs : List N) (b : Nat) : Prop := b = s ∨ b = m ∨ ∃ x ∈ e :: xs, b = x.blk

/-- What is on a shelf, the least lately used first; all its blocks are among F. -/
def Shelf (P : Program) (T : Ty) (w : World) (s : Nat) (room : Nat) (kvs : List (Int × Lf)) (F : Nat → Prop) : Prop :=
  ∃ m e xs nw od, Sh P T w s m e room xs nw od ∧ kvs = xs.map (fun x => (x.key, x.thing)) ∧ (∀ b, Own s m e xs b → F b) ∧ ∀ b, F b → b < w.heap.size

section
variable {P : Program} {T : Ty} {w w' : World} {s m room : Nat} {e : N} {xs : List N} {nw od : Nat → Nat} {kvs : List (Int × Lf)} {F : Nat → Prop}

theorem Sh.kept {S : Nat → Prop} (h : Sh P T w s m e room xs nw od) (hK : Keeps S w w') (hn : ∀ b, Own s m e xs b → ¬ S b) : Sh P T w' s m e room xs nw od :=
  ⟨h.blk.kept hK (hn s (.inl rfl)), h.map.kept hK (hn m (.inr (.inl rfl))), h.ring.kept hK (fun x hx => hn _ (.inr (.inr ⟨x, hx, rfl⟩))), h.sm, h.sx, h.mx, h.lo, h.hi, h.fits⟩

theorem Shelf.kept {S : Nat → Prop} (h : Shelf P T w s room kvs F) (hK : Keeps S w w') (hn : ∀ b, F b → ¬ S b) : Shelf P T w' s room kvs F := by
  obtain ⟨m, e, xs, nw, od, h1, h2, h3, h4⟩ := h
  exact ⟨m, e, xs, nw, od, h1.kept hK fun b hb => hn b (h3 b hb), h2, h3, fun b hb => Nat.lt_of_lt_of_le (h4 b hb) hK.size⟩

theorem Shelf.lt (h : Shelf P T w s room kvs F) : ∀ b, F b → b < w.heap.size := by
  obtain ⟨m, e, xs, nw, od, h1, h2, h3, h4⟩ := h
  exact h4
theorem Shelf.self (h : Shelf P T w s room kvs F) : F s := by
  obtain ⟨m, e, xs, nw, od, h1, h2, h3, h4⟩ := h
  exact h3 s (.inl rfl)
theorem Shelf.fits (h : Shelf P T w s room kvs F) : kvs.length ≤ room := by
  obtain ⟨m, e, xs, nw, od, h1, rfl, h3, h4⟩ := h
  simpa using h1.fits
theorem Shelf.bounds (h : Shelf P T w s room kvs F) : 1 ≤ room ∧ room ≤ 4096 := by
  obtain ⟨m, e, xs, nw, od, h1, rfl, h3, h4⟩ := h
  exact ⟨h1.lo, h1.hi⟩

/-- The keys are unlike. -/
theorem Sh.keys (h : Sh P T w s m e room xs nw od) : (xs.map N.key).Nodup := by
  obtain ⟨es, c, _, _, h3, _⟩ := h.map
  unfold mapOf at h3
  rw [List.map_map] at h3
  have : (xs.map N.key).map (fun k : Int => Value.int .i64 k) = List.map (Prod.fst ∘ fun x : N => (Value.int .i64 x.key, ptr x.blk)) xs := by
    rw [List.map_map]; rfl
  rw [← this] at h3
  refine List.Pairwise.of_map _ (fun a b hab e => hab (by rw [e])) h3
theorem Shelf.keys (h : Shelf P T w s room kvs F) : (kvs.map Prod.fst).Nodup := by
  obtain ⟨m, e, xs, nw, od, h1, rfl, h3, h4⟩ := h
  have := h1.keys
  rw [List.map_map]
  exact this
end

/-! ### What is found, and what goes -/
section
variable (k : Int)
/-- A list either has the key at one place, or not. -/
theorem key_split (xs : List N) : (∃ A x C, xs = A ++ x :: C ∧ x.key = k) ∨ ∀ x ∈ xs, x.key ≠ k := by
  by_cases h : ∃ x ∈ xs, x.key = k
  · obtain ⟨x, hx, hk⟩ := h
    obtain ⟨A, C, rfl⟩ := List.append_of_mem hx
    exact .inl ⟨A, x, C, rfl, hk⟩
  · refine .inr fun x hx hk => h ⟨x, hx, hk⟩

/-- What lies under a key. -/
def look (kvs : List (Int × Lf)) : Option Lf := (kvs.find? (fun p => p.1 == k)).map Prod.snd
/-- All but what lies under a key. -/
def del (kvs : List (Int × Lf)) : List (Int × Lf) := kvs.filter (fun p => p.1 != k)

theorem look_split {A C : List (Int × Lf)} {v : Lf} (h : ((A ++ (k, v) :: C).map Prod.fst).Nodup) : look k (A ++ (k, v) :: C) = some v := by
  unfold look
  have hA : A.find? (fun p => p.1 == k) = none := by
    rw [List.find?_eq_none]
    intro p hp he
    simp at he
    simp [List.nodup_append] at h
    exact (h.2.2 p.1 p.2 hp).1 he
  rw [List.find?_append, hA]
  simp
theorem look_none {l : List (Int × Lf)} (h : ∀ p ∈ l, p.1 ≠ k) : look k l = none := by
  unfold look
  rw [List.find?_eq_none.2 (fun p hp => by simpa using h p hp)]
  rfl
theorem del_none {l : List (Int × Lf)} (h : ∀ p ∈ l, p.1 ≠ k) : del k l = l := List.filter_eq_self.2 fun p hp => by simpa using h p hp
theorem del_split {A C : List (Int × Lf)} {v : Lf} (h : ((A ++ (k, v) :: C).map Prod.fst).Nodup) : del k (A ++ (k, v) :: C) = A ++ C := by
  simp [List.nodup_append] at h
  unfold del
  rw [List.filter_append, List.filter_cons_of_neg (by simp)]
  congr 1
  · refine List.filter_eq_self.2 fun p hp => ?_
    have := (h.2.2 p.1 p.2 hp).1
    simpa using this
  · refine List.filter_eq_self.2 fun p hp => ?_
    have h1 := h.2.1.1
    simp
    intro he
    rw [← he] at h1
    exact h1 p.2 hp
end

theorem Sh.cells {P : Program} {T : Ty} {w : World} {s m room : Nat} {e : N} {xs : List N} {nw od : Nat → Nat} (h : Sh P T w s m e room xs nw od) :
    w.cell? ⟨s, 0, none⟩ = some (.int .i64 room) ∧ w.cell? ⟨s, 1, none⟩ = some (.map (some m)) ∧ w.cell? ⟨s, 2, none⟩ = some (ptr e.blk) :=
  ⟨h.blk.cell rfl, h.blk.cell rfl, h.blk.cell rfl⟩

theorem Sh.drewN {P : Program} {T : Ty} {w : World} {s m room : Nat} {e : N} {xs : List N} {nw od : Nat → Nat} (h : Sh P T w s m e room xs nw od) (n : Nat) : Sh P T (w.drewN n) s m e room xs nw od :=
  h.kept (S := fun _ => False) ((Keeps.refl _ w).drewN n) fun _ _ h => h

theorem Sh.lt {P : Program} {T : Ty} {w : World} {s m room : Nat} {e : N} {xs : List N} {nw od : Nat → Nat} (h : Sh P T w s m e room xs nw od) : ∀ b, Own s m e xs b → b < w.heap.size := by
  rintro b (rfl | rfl | ⟨z, hz, rfl⟩)
  · exact h.blk.lt
  · exact h.map.lt
  · exact (h.ring.nodes z hz).lt

theorem Sh.setThing {P : Program} {T : Ty} {w : World} {s m room : Nat} {e x : N} {A C : List N} {nw od : Nat → Nat} (h : Sh P T w s m e room (A ++ x :: C) nw od) (v : Lf) :
    Sh P T (((w.setCell ⟨x.blk, 1, none⟩ (.int .i64 v.p)).setCell ⟨x.blk, 2, none⟩ (.int .i64 v.f)).setCell ⟨x.blk, 3, none⟩ (.int .i64 v.r)) s m e room (A ++ { x with thing := v } :: C) nw od := by
  have hx := h.ring.nodes x (by simp)
  have hnd := h.ring.nodup
  have hne : ∀ z ∈ e :: (A ++ C), z.blk ≠ x.blk := by
    have h1 : (x.blk :: e.blk :: (A ++ C).map N.blk).Nodup := by
      refine (List.Perm.nodup_iff ?_).1 hnd
      rw [List.map_append, List.map_cons, List.map_append]
      exact (List.Perm.cons _ List.perm_middle).trans (List.Perm.swap _ _ _)
    intro z hz he
    refine (List.nodup_cons.1 h1).1 ?_
    rw [← he]
    rcases List.mem_cons.1 hz with h | h
    · simp [h]
    · exact List.mem_cons_of_mem _ (List.mem_map.2 ⟨z, h, rfl⟩)
  have e1 : (A ++ { x with thing := v } :: C).map N.blk = (A ++ x :: C).map N.blk := by simp
  have e2 : mapOf (A ++ { x with thing := v } :: C) = mapOf (A ++ x :: C) := by simp [mapOf]
  have hcase : ∀ z ∈ e :: (A ++ { x with thing := v } :: C), z ∈ e :: (A ++ C) ∨ z = { x with thing := v } := by
    intro z hz; simp at hz ⊢; rcases hz with h | h | h | h <;> simp [h]
  refine ⟨((h.blk.setCell_ne (fun he => h.sx x (by simp) he.symm) _).setCell_ne (fun he => h.sx x (by simp) he.symm) _).setCell_ne (fun he => h.sx x (by simp) he.symm) _, ?_, ⟨by rw [e1]; exact h.ring.chain, by rw [e1]; exact hnd, ?_⟩, h.sm, ?_, ?_, h.lo, h.hi, by have := h.fits; simp at this ⊢; omega⟩
  · rw [e2]
    exact ((h.map.setCell (fun he => h.mx x (by simp) he.symm) _).setCell (fun he => h.mx x (by simp) he.symm) _).setCell (fun he => h.mx x (by simp) he.symm) _
  · intro z hz
    rcases hcase z hz with hz | rfl
    · refine (((h.ring.nodes z ?_).setCell_ne (hne z hz) _).setCell_ne (hne z hz) _).setCell_ne (hne z hz) _
      simp at hz ⊢; rcases hz with h | h | h <;> simp [h]
    · exact ((hx.setCell 1 (.int .i64 v.p)).setCell 2 (.int .i64 v.f)).setCell 3 (.int .i64 v.r)
  · intro z hz
    rcases hcase z hz with hz | rfl
    · exact h.sx z (by simp at hz ⊢; rcases hz with h | h | h <;> simp [h])
    · exact h.sx x (by simp)
  · intro z hz
    rcases hcase z hz with hz | rfl
    · exact h.mx z (by simp at hz ⊢; rcases hz with h | h | h <;> simp [h])
    · exact h.mx x (by simp)


/-- The place at a number, behind the last one the end. -/
def atN (e : N) (xs : List N) (j : Nat) : Nat := ((xs.map N.blk ++ [e.blk])[j]?).getD 0

theorem chain_next {nw od : Nat → Nat} : ∀ {p q : Nat} {A : List Nat}, Chain nw od p A q → ∀ (j b : Nat), (p :: A)[j]? = some b → (A ++ [q])[j]? = some (nw b)
  | p, q, [], h, j, b, hj => by
    cases j with
    | zero => simp at hj; subst hj; simp [h.1]
    | succ j => simp at hj
  | p, q, a :: A, h, j, b, hj => by
    cases j with
    | zero => simp at hj; subst hj; simp [h.1]
    | succ j => simpa using chain_next h.2.2 j b (by simpa using hj)

theorem Sh.first {P : Program} {T : Ty} {w : World} {s m room : Nat} {e : N} {xs : List N} {nw od : Nat → Nat} (h : Sh P T w s m e room xs nw od) : w.cell? ⟨e.blk, 5, none⟩ = some (ptr (atN e xs 0)) := by
  have h1 := chain_next h.ring.chain 0 e.blk rfl
  unfold atN
  rw [h1]
  exact (h.ring.nodes e (by simp)).cell rfl
theorem Sh.next {P : Program} {T : Ty} {w : World} {s m room : Nat} {e : N} {xs : List N} {nw od : Nat → Nat} (h : Sh P T w s m e room xs nw od) (j : Nat) (x : N) (hj : xs[j]? = some x) :
    atN e xs j = x.blk ∧ w.cell? ⟨x.blk, 5, none⟩ = some (ptr (atN e xs (j + 1))) ∧ w.cell? ⟨x.blk, 0, none⟩ = some (.int .i64 x.key) ∧ (w.cell? ⟨x.blk, 1, none⟩ = some (.int .i64 x.thing.p) ∧ w.cell? ⟨x.blk, 2, none⟩ = some (.int .i64 x.thing.f) ∧ w.cell? ⟨x.blk, 3, none⟩ = some (.int .i64 x.thing.r)) ∧ x.blk ≠ e.blk := by
  have hm : x ∈ xs := List.mem_of_getElem? hj
  have hlt := (List.getElem?_eq_some_iff.1 hj).1
  have h1 := chain_next h.ring.chain (j + 1) x.blk (by simp [hj])
  have hn := h.ring.nodes x (by simp [hm])
  refine ⟨?_, ?_, hn.cell rfl, ⟨hn.cell rfl, hn.cell rfl, hn.cell rfl⟩, fun he => ?_⟩
  · unfold atN
    rw [List.getElem?_append_left (by simpa using hlt)]
    simp [hj]
  · unfold atN
    rw [h1]
    exact hn.cell rfl
  · exact (List.nodup_cons.1 h.ring.nodup).1 (by rw [← he]; exact List.mem_map.2 ⟨x, hm, rfl⟩)
theorem atN_end (e : N) (xs : List N) : atN e xs xs.length = e.blk := by
  unfold atN
  rw [List.getElem?_append_right (by simp)]
  simp

end Go.Proofs.YtipejahmjdamjaaGreatDoor.Tl
