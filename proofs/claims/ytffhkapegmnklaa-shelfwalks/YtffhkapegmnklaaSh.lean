import Derived.Test.YtffhkapegmnklaaRing
namespace Go.Proofs.Ytffhkapegmnklaa
open Go.RowKit
set_option linter.unusedVariables false

/-- The numbers of an instance's types. -/
structure Ty where
  s : TypeId
  p : TypeId
  k : TypeId

def mapOf (xs : List N) : List (Value × Value) := xs.map fun x => (.int .i64 x.key, ptr x.blk)

/-- A shelf in the memory: its block, its map's, its end, its places. -/
structure Sh (P : Program) (T : Ty) (w : World) (s m : Nat) (e : N) (room : Nat) (xs : List N) (nw od : Nat → Nat) : Prop where
  blk : Blk w s [.int .i64 room, .map (some m), ptr e.blk] T.s
  map : MapIs P T.k w m (mapOf xs)
  ring : Rg w T.p e xs nw od
  sm : s ≠ m
  sx : ∀ x ∈ e :: xs, x.blk ≠ s
  mx : ∀ x ∈ e :: xs, x.blk ≠ m
  lo : 1 ≤ room
  hi : room ≤ 4096
  fits : xs.length ≤ room

/-- The blocks of a shelf. -/
def Own (s m : Nat) (e : N) (xs : List N) (b : Nat) : Prop := b = s ∨ b = m ∨ ∃ x ∈ e :: xs, b = x.blk

/-- What is on a shelf, the least lately used first; all its blocks are among F. -/
def Shelf (P : Program) (T : Ty) (w : World) (s : Nat) (room : Nat) (kvs : List (Int × Value)) (F : Nat → Prop) : Prop :=
  ∃ m e xs nw od, Sh P T w s m e room xs nw od ∧ kvs = xs.map (fun x => (x.key, x.thing)) ∧ (∀ b, Own s m e xs b → F b) ∧ ∀ b, F b → b < w.heap.size

section
variable {P : Program} {T : Ty} {w w' : World} {s m room : Nat} {e : N} {xs : List N} {nw od : Nat → Nat} {kvs : List (Int × Value)} {F : Nat → Prop}

theorem Sh.kept {S : Nat → Prop} (h : Sh P T w s m e room xs nw od) (hK : Keeps S w w') (hn : ∀ b, Own s m e xs b → ¬ S b) : Sh P T w' s m e room xs nw od :=
  ⟨h.blk.kept hK (hn s (.inl rfl)), h.map.kept hK (hn m (.inr (.inl rfl))), h.ring.kept hK (fun x hx => hn _ (.inr (.inr ⟨x, hx, rfl⟩))), h.sm, h.sx, h.mx, h.lo, h.hi, h.fits⟩

theorem Shelf.kept {S : Nat → Prop} (h : Shelf P T w s room kvs F) (hK : Keeps S w w') (hn : ∀ b, F b → ¬ S b) : Shelf P T w' s room kvs F := by
  obtain ⟨m, e, xs, nw, od, h1, h2, h3, h4⟩ := h
  exact ⟨m, e, xs, nw, od, h1.kept hK fun b hb => hn b (h3 b hb), h2, h3, fun b hb => Nat.lt_of_lt_of_le (h4 b hb) hK.size⟩

theorem Shelf.lt (h : Shelf P T w s room kvs F) : ∀ b, F b → b < w.heap.size := by
  obtain ⟨m, e, xs, nw, od, h1, h2, h3, h4⟩ := h
  exact h4
theorem Shelf.self (h : Shelf P T w s room kvs F) : F s := by
  obtain ⟨m, e, xs, nw, od, h1, h2, h3, h4⟩ := h
  exact h3 s (.inl rfl)
theorem Shelf.fits (h : Shelf P T w s room kvs F) : kvs.length ≤ room := by
  obtain ⟨m, e, xs, nw, od, h1, rfl, h3, h4⟩ := h
  simpa using h1.fits
theorem Shelf.bounds (h : Shelf P T w s room kvs F) : 1 ≤ room ∧ room ≤ 4096 := by
  obtain ⟨m, e, xs, nw, od, h1, rfl, h3, h4⟩ := h
  exact ⟨h1.lo, h1.hi⟩

/-- The keys are unlike. -/
theorem Sh.keys (h : Sh P T w s m e room xs nw od) : (xs.map N.key).Nodup := by
  obtain ⟨es, c, _, _, h3, _⟩ := h.map
  unfold mapOf at h3
  rw [List.map_map] at h3
  have : (xs.map N.key).map (fun k : Int => Value.int .i64 k) = List.map (Prod.fst ∘ fun x : N => (Value.int .i64 x.key, ptr x.blk)) xs := by
    rw [List.map_map]; rfl
  rw [← this] at h3
  refine List.Pairwise.of_map _ (fun a b hab e => hab (by rw [e])) h3
theorem Shelf.keys (h : Shelf P T w s room kvs F) : (kvs.map Prod.fst).Nodup := by
  obtain ⟨m, e, xs, nw, od, h1, rfl, h3, h4⟩ := h
  have := h1.keys
  rw [List.map_map]
  exact this
end

/-! ### What is found, and what goes -/
section
variable (k : Int)
/-- A list either has the key at one place, or not. -/
theorem key_split (xs : List N) : (∃ A x C, xs = A ++ x :: C ∧ x.key = k) ∨ ∀ x ∈ xs, x.key ≠ k := by
  by_cases h : ∃ x ∈ xs, x.key = k
  · obtain ⟨x, hx, hk⟩ := h
    obtain ⟨A, C, rfl⟩ := List.append_of_mem hx
    exact .inl ⟨A, x, C, rfl, hk⟩
  · refine .inr fun x hx hk => h ⟨x, hx, hk⟩

/-- What lies under a key. -/
def look (kvs : List (Int × Value)) : Option Value := (kvs.find? (fun p => p.1 == k)).map Prod.snd
/-- All but what lies under a key. -/
def del (kvs : List (Int × Value)) : List (Int × Value) := kvs.filter (fun p => p.1 != k)

theorem look_split {A C : List (Int × Value)} {v : Value} (h : ((A ++ (k, v) :: C).map Prod.fst).Nodup) : look k (A ++ (k, v) :: C) = some v := by
  unfold look
  have hA : A.find? (fun p => p.1 == k) = none := by
    rw [List.find?_eq_none]
    intro p hp he
    simp at he
    simp [List.nodup_append] at h
    exact (h.2.2 p.1 p.2 hp).1 he
  rw [List.find?_append, hA]
  simp
theorem look_none {l : List (Int × Value)} (h : ∀ p ∈ l, p.1 ≠ k) : look k l = none := by
  unfold look
  rw [List.find?_eq_none.2 (fun p hp => by simpa using h p hp)]
  rfl
theorem del_none {l : List (Int × Value)} (h : ∀ p ∈ l, p.1 ≠ k) : del k l = l := List.filter_eq_self.2 fun p hp => by simpa using h p hp
theorem del_split {A C : List (Int × Value)} {v : Value} (h : ((A ++ (k, v) :: C).map Prod.fst).Nodup) : del k (A ++ (k, v) :: C) = A ++ C := by
  simp [List.nodup_append] at h
  unfold del
  rw [List.filter_append, List.filter_cons_of_neg (by simp)]
  congr 1
  · refine List.filter_eq_self.2 fun p hp => ?_
    have := (h.2.2 p.1 p.2 hp).1
    simpa using this
  · refine List.filter_eq_self.2 fun p hp => ?_
    have h1 := h.2.1.1
    simp
    intro he
    rw [← he] at h1
    exact h1 p.2 hp
end

end Go.Proofs.Ytffhkapegmnklaa
