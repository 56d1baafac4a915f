import Derived.Test.YtomjodoimjiceaaDoorRing
import Derived.Below
namespace Go.Proofs.YtomjodoimjiceaaDoor
open Go.RowKit
set_option linter.unusedVariables false

/-- The numbers of an instance's types. -/
structure Ty where
  s : TypeId
  p : TypeId
  k : TypeId

def mapOf (xs : List N) : List (Value × Value) := xs.map fun x => (.int .i64 x.key, ptr x.blk)

/-- A shelf in the memory: its block, its map's, its end, its places. -/
structure Sh (P : Program) (T : Ty) (w : World) (s m : Nat) (e : N) (room : Nat) (xs : List N) (nw od : Nat → Nat) : Prop where
  blk : Blk w s [.int .i64 room, .map (some m), ptr e.blk] T.s
  map : MapIs P T.k w m (mapOf xs)
  ring : Rg w T.p e xs nw od
  sm : s ≠ m
  sx : ∀ x ∈ e :: xs, x.blk ≠ s
  mx : ∀ x ∈ e :: xs, x.blk ≠ m
  lo : 1 ≤ room
  hi : room ≤ 4096
  fits : xs.length ≤ room

/-- The blocks of a shelf. -/
def Own (s m : Nat) (e : N) (xs : List N) (b : Nat) : Prop := b = s ∨ b = m ∨ ∃ x ∈ e :: xs, b = x.blk

/-- What is on a shelf, the least lately used first; all its blocks are among F. -/
def Shelf (P : Program) (T : Ty) (w : World) (s : Nat) (room : Nat) (kvs : List (Int × Value)) (F : Nat → Prop) : Prop :=
  ∃ m e xs nw od, Sh P T w s m e room xs nw od ∧ kvs = xs.map (fun x => (x.key, x.thing)) ∧ (∀ b, Own s m e xs b → F b) ∧ ∀ b, F b → b < w.heap.size

section
variable {P : Program} {T : Ty} {w w' : World} {s m room : Nat} {e : N} {xs : List N} {nw od : Nat → Nat} {kvs : List (Int × Value)} {F : Nat → Prop}

theorem Sh.kept {S : Nat → Prop} (h : Sh P T w s m e room xs nw od) (hK : Keeps S w w') (hn : ∀ b, Own s m e xs b → ¬ S b) : Sh P T w' s m e room xs nw od :=
  ⟨h.blk.kept hK (hn s (.inl rfl)), h.map.kept hK (hn m (.inr (.inl rfl))), h.ring.kept hK (fun x hx => hn _ (.inr (.inr ⟨x, hx, rfl⟩))), h.sm, h.sx, h.mx, h.lo, h.hi, h.fits⟩

theorem Shelf.kept {S : Nat → Prop} (h : Shelf P T w s room kvs F) (hK : Keeps S w w') (hn : ∀ b, F b → ¬ S b) : Shelf P T w' s room kvs F := by
  obtain ⟨m, e, xs, nw, od, h1, h2, h3, h4⟩ := h
  exact ⟨m, e, xs, nw, od, h1.kept hK fun b hb => hn b (h3 b hb), h2, h3, fun b hb => Nat.lt_of_lt_of_le (h4 b hb) hK.size⟩

theorem Shelf.lt (h : Shelf P T w s room kvs F) : ∀ b, F b → b < w.heap.size := by
  obtain ⟨m, e, xs, nw, od, h1, h2, h3, h4⟩ := h
  exact h4
theorem Shelf.self (h : Shelf P T w s room kvs F) : F s := by
  obtain ⟨m, e, xs, nw, od, h1, h2, h3, h4⟩ := h
  exact h3 s (.inl rfl)
theorem Shelf.fits (h : Shelf P T w s room kvs F) : kvs.length ≤ room := by
  obtain ⟨m, e, xs, nw, od, h1, rfl, h3, h4⟩ := h
  simpa using h1.fits
theorem Shelf.bounds (h : Shelf P T w s room kvs F) : 1 ≤ room ∧ room ≤ 4096 := by
  obtain ⟨m, e, xs, nw, od, h1, rfl, h3, h4⟩ := h
  exact ⟨h1.lo, h1.hi⟩

/-- The keys are unlike. -/
theorem Sh.keys (h : Sh P T w s m e room xs nw od) : (xs.map N.key).Nodup := by
  obtain ⟨es, c, _, _, h3, _⟩ := h.map
  unfold mapOf at h3
  rw [List.map_map] at h3
  have : (xs.map N.key).map (fun k : Int => Value.int .i64 k) = List.map (Prod.fst ∘ fun x : N => (Value.int .i64 x.key, ptr x.blk)) xs := by
    rw [List.map_map]; rfl
  rw [← this] at h3
  refine List.Pairwise.of_map _ (fun a b hab e => hab (by rw [e])) h3
theorem Shelf.keys (h : Shelf P T w s room kvs F) : (kvs.map Prod.fst).Nodup := by
  obtain ⟨m, e, xs, nw, od, h1, rfl, h3, h4⟩ := h
  have := h1.keys
  rw [List.map_map]
  exact this
end

/-! ### What is found, and what goes -/
section
variable (k : Int)
/-- A list either has the key at one place, or not. -/
theorem key_split (xs : List N) : (∃ A x C, xs = A ++ x :: C ∧ x.key = k) ∨ ∀ x ∈ xs, x.key ≠ k := by
  by_cases h : ∃ x ∈ xs, x.key = k
  · obtain ⟨x, hx, hk⟩ := h
    obtain ⟨A, C, rfl⟩ := List.append_of_mem hx
    exact .inl ⟨A, x, C, rfl, hk⟩
  · refine .inr fun x hx hk => h ⟨x, hx, hk⟩

/-- What lies under a key. -/
def look (kvs : List (Int × Value)) : Option Value := (kvs.find? (fun p => p.1 == k)).map Prod.snd
/-- All but what lies under a key. -/
def del (kvs : List (Int × Value)) : List (Int × Value) := kvs.filter (fun p => p.1 != k)

theorem look_split {A C : List (Int × Value)} {v : Value} (h : ((A ++ (k, v) :: C).map Prod.fst).Nodup) : look k (A ++ (k, v) :: C) = some v := by
  unfold look
  have hA : A.find? (fun p => p.1 == k) = none := by
    rw [List.find?_eq_none]
    intro p hp he
    simp at he
    simp [List.nodup_append] at h
    exact (h.2.2 p.1 p.2 hp).1 he
  rw [List.find?_append, hA]
  simp
theorem look_none {l : List (Int × Value)} (h : ∀ p ∈ l, p.1 ≠ k) : look k l = none := by
  unfold look
  rw [List.find?_eq_none.2 (fun p hp => by simpa using h p hp)]
  rfl
theorem del_none {l : List (Int × Value)} (h : ∀ p ∈ l, p.1 ≠ k) : del k l = l := List.filter_eq_self.2 fun p hp => by simpa using h p hp
theorem del_split {A C : List (Int × Value)} {v : Value} (h : ((A ++ (k, v) :: C).map Prod.fst).Nodup) : del k (A ++ (k, v) :: C) = A ++ C := by
  simp [List.nodup_append] at h
  unfold del
  rw [List.filter_append, List.filter_cons_of_neg (by simp)]
  congr 1
  · refine List.filter_eq_self.2 fun p hp => ?_
    have := (h.2.2 p.1 p.2 hp).1
    simpa using this
  · refine List.filter_eq_self.2 fun p hp => ?_
    have h1 := h.2.1.1
    simp
    intro he
    rw [← he] at h1
    exact h1 p.2 hp
end

theorem Sh.cells {P : Program} {T : Ty} {w : World} {s m room : Nat} {e : N} {xs : List N} {nw od : Nat → Nat} (h : Sh P T w s m e room xs nw od) :
    w.cell? ⟨s, 0, none⟩ = some (.int .i64 room) ∧ w.cell? ⟨s, 1, none⟩ = some (.map (some m)) ∧ w.cell? ⟨s, 2, none⟩ = some (ptr e.blk) :=
  ⟨h.blk.cell rfl, h.blk.cell rfl, h.blk.cell rfl⟩

theorem Sh.drewN {P : Program} {T : Ty} {w : World} {s m room : Nat} {e : N} {xs : List N} {nw od : Nat → Nat} (h : Sh P T w s m e room xs nw od) (n : Nat) : Sh P T (w.drewN n) s m e room xs nw od :=
  h.kept (S := fun _ => False) ((Keeps.refl _ w).drewN n) fun _ _ h => h

theorem Sh.lt {P : Program} {T : Ty} {w : World} {s m room : Nat} {e : N} {xs : List N} {nw od : Nat → Nat} (h : Sh P T w s m e room xs nw od) : ∀ b, Own s m e xs b → b < w.heap.size := by
  rintro b (rfl | rfl | ⟨z, hz, rfl⟩)
  · exact h.blk.lt
  · exact h.map.lt
  · exact (h.ring.nodes z hz).lt

theorem Sh.setThing {P : Program} {T : Ty} {w : World} {s m room : Nat} {e x : N} {A C : List N} {nw od : Nat → Nat} (h : Sh P T w s m e room (A ++ x :: C) nw od) (v : Value) :
    Sh P T (w.setCell ⟨x.blk, 1, none⟩ v) s m e room (A ++ { x with thing := v } :: C) nw od := by
  have hx := h.ring.nodes x (by simp)
  have hnd := h.ring.nodup
  have hne : ∀ z ∈ e :: (A ++ C), z.blk ≠ x.blk := by
    have h1 : (x.blk :: e.blk :: (A ++ C).map N.blk).Nodup := by
      refine (List.Perm.nodup_iff ?_).1 hnd
      rw [List.map_append, List.map_cons, List.map_append]
      exact (List.Perm.cons _ List.perm_middle).trans (List.Perm.swap _ _ _)
    intro z hz he
    refine (List.nodup_cons.1 h1).1 ?_
    rw [← he]
    rcases List.mem_cons.1 hz with h | h
    · simp [h]
    · exact List.mem_cons_of_mem _ (List.mem_map.2 ⟨z, h, rfl⟩)
  have e1 : (A ++ { x with thing := v } :: C).map N.blk = (A ++ x :: C).map N.blk := by simp
  have e2 : mapOf (A ++ { x with thing := v } :: C) = mapOf (A ++ x :: C) := by simp [mapOf]
  have hcase : ∀ z ∈ e :: (A ++ { x with thing := v } :: C), z ∈ e :: (A ++ C) ∨ z = { x with thing := v } := by
    intro z hz; simp at hz ⊢; rcases hz with h | h | h | h <;> simp [h]
  refine ⟨h.blk.setCell_ne (fun he => h.sx x (by simp) he.symm) _, ?_, ⟨by rw [e1]; exact h.ring.chain, by rw [e1]; exact hnd, ?_⟩, h.sm, ?_, ?_, h.lo, h.hi, by have := h.fits; simp at this ⊢; omega⟩
  · rw [e2]
    exact h.map.setCell (fun he => h.mx x (by simp) he.symm) _
  · intro z hz
    rcases hcase z hz with hz | rfl
    · refine (h.ring.nodes z ?_).setCell_ne (hne z hz) _
      simp at hz ⊢; rcases hz with h | h | h <;> simp [h]
    · exact hx.setCell 1 v
  · intro z hz
    rcases hcase z hz with hz | rfl
    · exact h.sx z (by simp at hz ⊢; rcases hz with h | h | h <;> simp [h])
    · exact h.sx x (by simp)
  · intro z hz
    rcases hcase z hz with hz | rfl
    · exact h.mx z (by simp at hz ⊢; rcases hz with h | h | h <;> simp [h])
    · exact h.mx x (by simp)

theorem Keeps.fromDrewN {S : Nat → Prop} {w w' : World} {n : Nat} (h : Keeps S (w.drewN n) w') : Keeps S w w' := ⟨h.os, h.tape, h.output, h.size, h.block⟩

/-- The place at a number, behind the last one the end. -/
def atN (e : N) (xs : List N) (j : Nat) : Nat := ((xs.map N.blk ++ [e.blk])[j]?).getD 0

theorem chain_next {nw od : Nat → Nat} : ∀ {p q : Nat} {A : List Nat}, Chain nw od p A q → ∀ (j b : Nat), (p :: A)[j]? = some b → (A ++ [q])[j]? = some (nw b)
  | p, q, [], h, j, b, hj => by
    cases j with
    | zero => simp at hj; subst hj; simp [h.1]
    | succ j => simp at hj
  | p, q, a :: A, h, j, b, hj => by
    cases j with
    | zero => simp at hj; subst hj; simp [h.1]
    | succ j => simpa using chain_next h.2.2 j b (by simpa using hj)

theorem Sh.first {P : Program} {T : Ty} {w : World} {s m room : Nat} {e : N} {xs : List N} {nw od : Nat → Nat} (h : Sh P T w s m e room xs nw od) : w.cell? ⟨e.blk, 3, none⟩ = some (ptr (atN e xs 0)) := by
  have h1 := chain_next h.ring.chain 0 e.blk rfl
  unfold atN
  rw [h1]
  exact (h.ring.nodes e (by simp)).cell rfl
theorem Sh.next {P : Program} {T : Ty} {w : World} {s m room : Nat} {e : N} {xs : List N} {nw od : Nat → Nat} (h : Sh P T w s m e room xs nw od) (j : Nat) (x : N) (hj : xs[j]? = some x) :
    atN e xs j = x.blk ∧ w.cell? ⟨x.blk, 3, none⟩ = some (ptr (atN e xs (j + 1))) ∧ w.cell? ⟨x.blk, 0, none⟩ = some (.int .i64 x.key) ∧ w.cell? ⟨x.blk, 1, none⟩ = some x.thing ∧ x.blk ≠ e.blk := by
  have hm : x ∈ xs := List.mem_of_getElem? hj
  have hlt := (List.getElem?_eq_some_iff.1 hj).1
  have h1 := chain_next h.ring.chain (j + 1) x.blk (by simp [hj])
  have hn := h.ring.nodes x (by simp [hm])
  refine ⟨?_, ?_, hn.cell rfl, hn.cell rfl, fun he => ?_⟩
  · unfold atN
    rw [List.getElem?_append_left (by simpa using hlt)]
    simp [hj]
  · unfold atN
    rw [h1]
    exact hn.cell rfl
  · exact (List.nodup_cons.1 h.ring.nodup).1 (by rw [← he]; exact List.mem_map.2 ⟨x, hm, rfl⟩)
theorem atN_end (e : N) (xs : List N) : atN e xs xs.length = e.blk := by
  unfold atN
  rw [List.getElem?_append_right (by simp)]
  simp

end Go.Proofs.YtomjodoimjiceaaDoor
