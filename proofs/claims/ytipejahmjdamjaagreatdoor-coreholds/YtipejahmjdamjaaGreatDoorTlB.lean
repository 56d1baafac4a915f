import Derived.Test.YtipejahmjdamjaaGreatDoorChRing
import Derived.Test.YtipejahmjdamjaaGreatDoorTlRing
import Derived.Below
import Derived.Test.YtipejahmjdamjaaGreatDoorProg
import Derived.WalkKit
import Derived.WalkSpells
import Derived.WalkLawsBesides
import Derived.Deep.QuietTactic
import Derived.BigQuiet
import Derived.BigRegion
import Derived.Maps.OwnSet
import Derived.Shelf.Abstract
namespace Go.Proofs.YtipejahmjdamjaaGreatDoor.Tl
open Go.RowKit
set_option linter.unusedVariables false

/-- The numbers of an instance's types. -/
structure Ty where
  s : TypeId
  p : TypeId
  k : TypeId

def mapOf (xs : List N) : List (Value × Value) := xs.map fun x => (.int .i64 x.key, ptr x.blk)

/-- A shelf in the memory: its block, its map's, its end, its places. -/
structure Sh (P : Program) (T : Ty) (w : World) (s m : Nat) (e : N) (room : Nat) (xs : List N) (nw od : Nat → Nat) : Prop where
  blk : Blk w s [.int .i64 room, .map (some m), ptr e.blk] T.s
  map : MapIs P T.k w m (mapOf xs)
  ring : Rg w T.p e xs nw od
  sm : s ≠ m
  sx : ∀ x ∈ e :: xs, x.blk ≠ s
  mx : ∀ x ∈ e :: xs, x.blk ≠ m
  lo : 1 ≤ room
  hi : room ≤ 4096
  fits : xs.length ≤ room

/-- The blocks of a shelf. -/
def Own (s m : Nat) (e : N) (xs : List N) (b : Nat) : Prop := b = s ∨ b = m ∨ ∃ x ∈ e :: xs, b = x.blk

/-- What is on a shelf, the least lately used first; all its blocks are among F. -/
def Shelf (P : Program) (T : Ty) (w : World) (s : Nat) (room : Nat) (kvs : List (Int × Lf)) (F : Nat → Prop) : Prop :=
  ∃ m e xs nw od, Sh P T w s m e room xs nw od ∧ kvs = xs.map (fun x => (x.key, x.thing)) ∧ (∀ b, Own s m e xs b → F b) ∧ ∀ b, F b → b < w.heap.size

section
variable {P : Program} {T : Ty} {w w' : World} {s m room : Nat} {e : N} {xs : List N} {nw od : Nat → Nat} {kvs : List (Int × Lf)} {F : Nat → Prop}

theorem Sh.kept {S : Nat → Prop} (h : Sh P T w s m e room xs nw od) (hK : Keeps S w w') (hn : ∀ b, Own s m e xs b → ¬ S b) : Sh P T w' s m e room xs nw od :=
  ⟨h.blk.kept hK (hn s (.inl rfl)), h.map.kept hK (hn m (.inr (.inl rfl))), h.ring.kept hK (fun x hx => hn _ (.inr (.inr ⟨x, hx, rfl⟩))), h.sm, h.sx, h.mx, h.lo, h.hi, h.fits⟩

theorem Shelf.kept {S : Nat → Prop} (h : Shelf P T w s room kvs F) (hK : Keeps S w w') (hn : ∀ b, F b → ¬ S b) : Shelf P T w' s room kvs F := by
  obtain ⟨m, e, xs, nw, od, h1, h2, h3, h4⟩ := h
  exact ⟨m, e, xs, nw, od, h1.kept hK fun b hb => hn b (h3 b hb), h2, h3, fun b hb => Nat.lt_of_lt_of_le (h4 b hb) hK.size⟩

theorem Shelf.lt (h : Shelf P T w s room kvs F) : ∀ b, F b → b < w.heap.size := by
  obtain ⟨m, e, xs, nw, od, h1, h2, h3, h4⟩ := h
  exact h4
theorem Shelf.self (h : Shelf P T w s room kvs F) : F s := by
  obtain ⟨m, e, xs, nw, od, h1, h2, h3, h4⟩ := h
  exact h3 s (.inl rfl)
theorem Shelf.fits (h : Shelf P T w s room kvs F) : kvs.length ≤ room := by
  obtain ⟨m, e, xs, nw, od, h1, rfl, h3, h4⟩ := h
  simpa using h1.fits
theorem Shelf.bounds (h : Shelf P T w s room kvs F) : 1 ≤ room ∧ room ≤ 4096 := by
  obtain ⟨m, e, xs, nw, od, h1, rfl, h3, h4⟩ := h
  exact ⟨h1.lo, h1.hi⟩

/-- The keys are unlike. -/
theorem Sh.keys (h : Sh P T w s m e room xs nw od) : (xs.map N.key).Nodup := by
  obtain ⟨es, c, _, _, h3, _⟩ := h.map
  unfold mapOf at h3
  rw [List.map_map] at h3
  have : (xs.map N.key).map (fun k : Int => Value.int .i64 k) = List.map (Prod.fst ∘ fun x : N => (Value.int .i64 x.key, ptr x.blk)) xs := by
    rw [List.map_map]; rfl
  rw [← this] at h3
  refine List.Pairwise.of_map _ (fun a b hab e => hab (by rw [e])) h3
theorem Shelf.keys (h : Shelf P T w s room kvs F) : (kvs.map Prod.fst).Nodup := by
  obtain ⟨m, e, xs, nw, od, h1, rfl, h3, h4⟩ := h
  have := h1.keys
  rw [List.map_map]
  exact this
end

/-! ### What is found, and what goes -/
section
variable (k : Int)
/-- A list either has the key at one place, or not. -/
theorem key_split (xs : List N) : (∃ A x C, xs = A ++ x :: C ∧ x.key = k) ∨ ∀ x ∈ xs, x.key ≠ k := by
  by_cases h : ∃ x ∈ xs, x.key = k
  · obtain ⟨x, hx, hk⟩ := h
    obtain ⟨A, C, rfl⟩ := List.append_of_mem hx
    exact .inl ⟨A, x, C, rfl, hk⟩
  · refine .inr fun x hx hk => h ⟨x, hx, hk⟩

/-- What lies under a key. -/
def look (kvs : List (Int × Lf)) : Option Lf := (kvs.find? (fun p => p.1 == k)).map Prod.snd
/-- All but what lies under a key. -/
def del (kvs : List (Int × Lf)) : List (Int × Lf) := kvs.filter (fun p => p.1 != k)

theorem look_split {A C : List (Int × Lf)} {v : Lf} (h : ((A ++ (k, v) :: C).map Prod.fst).Nodup) : look k (A ++ (k, v) :: C) = some v := by
  unfold look
  have hA : A.find? (fun p => p.1 == k) = none := by
    rw [List.find?_eq_none]
    intro p hp he
    simp at he
    simp [List.nodup_append] at h
    exact (h.2.2 p.1 p.2 hp).1 he
  rw [List.find?_append, hA]
  simp
theorem look_none {l : List (Int × Lf)} (h : ∀ p ∈ l, p.1 ≠ k) : look k l = none := by
  unfold look
  rw [List.find?_eq_none.2 (fun p hp => by simpa using h p hp)]
  rfl
theorem del_none {l : List (Int × Lf)} (h : ∀ p ∈ l, p.1 ≠ k) : del k l = l := List.filter_eq_self.2 fun p hp => by simpa using h p hp
theorem del_split {A C : List (Int × Lf)} {v : Lf} (h : ((A ++ (k, v) :: C).map Prod.fst).Nodup) : del k (A ++ (k, v) :: C) = A ++ C := by
  simp [List.nodup_append] at h
  unfold del
  rw [List.filter_append, List.filter_cons_of_neg (by simp)]
  congr 1
  · refine List.filter_eq_self.2 fun p hp => ?_
    have := (h.2.2 p.1 p.2 hp).1
    simpa using this
  · refine List.filter_eq_self.2 fun p hp => ?_
    have h1 := h.2.1.1
    simp
    intro he
    rw [← he] at h1
    exact h1 p.2 hp
end

theorem Sh.cells {P : Program} {T : Ty} {w : World} {s m room : Nat} {e : N} {xs : List N} {nw od : Nat → Nat} (h : Sh P T w s m e room xs nw od) :
    w.cell? ⟨s, 0, none⟩ = some (.int .i64 room) ∧ w.cell? ⟨s, 1, none⟩ = some (.map (some m)) ∧ w.cell? ⟨s, 2, none⟩ = some (ptr e.blk) :=
  ⟨h.blk.cell rfl, h.blk.cell rfl, h.blk.cell rfl⟩

theorem Sh.drewN {P : Program} {T : Ty} {w : World} {s m room : Nat} {e : N} {xs : List N} {nw od : Nat → Nat} (h : Sh P T w s m e room xs nw od) (n : Nat) : Sh P T (w.drewN n) s m e room xs nw od :=
  h.kept (S := fun _ => False) ((Keeps.refl _ w).drewN n) fun _ _ h => h

theorem Sh.lt {P : Program} {T : Ty} {w : World} {s m room : Nat} {e : N} {xs : List N} {nw od : Nat → Nat} (h : Sh P T w s m e room xs nw od) : ∀ b, Own s m e xs b → b < w.heap.size := by
  rintro b (rfl | rfl | ⟨z, hz, rfl⟩)
  · exact h.blk.lt
  · exact h.map.lt
  · exact (h.ring.nodes z hz).lt

theorem Sh.setThing {P : Program} {T : Ty} {w : World} {s m room : Nat} {e x : N} {A C : List N} {nw od : Nat → Nat} (h : Sh P T w s m e room (A ++ x :: C) nw od) (v : Lf) :
    Sh P T (((w.setCell ⟨x.blk, 1, none⟩ (.int .i64 v.p)).setCell ⟨x.blk, 2, none⟩ (.int .i64 v.f)).setCell ⟨x.blk, 3, none⟩ (.int .i64 v.r)) s m e room (A ++ { x with thing := v } :: C) nw od := by
  have hx := h.ring.nodes x (by simp)
  have hnd := h.ring.nodup
  have hne : ∀ z ∈ e :: (A ++ C), z.blk ≠ x.blk := by
    have h1 : (x.blk :: e.blk :: (A ++ C).map N.blk).Nodup := by
      refine (List.Perm.nodup_iff ?_).1 hnd
      rw [List.map_append, List.map_cons, List.map_append]
      exact (List.Perm.cons _ List.perm_middle).trans (List.Perm.swap _ _ _)
    intro z hz he
    refine (List.nodup_cons.1 h1).1 ?_
    rw [← he]
    rcases List.mem_cons.1 hz with h | h
    · simp [h]
    · exact List.mem_cons_of_mem _ (List.mem_map.2 ⟨z, h, rfl⟩)
  have e1 : (A ++ { x with thing := v } :: C).map N.blk = (A ++ x :: C).map N.blk := by simp
  have e2 : mapOf (A ++ { x with thing := v } :: C) = mapOf (A ++ x :: C) := by simp [mapOf]
  have hcase : ∀ z ∈ e :: (A ++ { x with thing := v } :: C), z ∈ e :: (A ++ C) ∨ z = { x with thing := v } := by
    intro z hz; simp at hz ⊢; rcases hz with h | h | h | h <;> simp [h]
  refine ⟨((h.blk.setCell_ne (fun he => h.sx x (by simp) he.symm) _).setCell_ne (fun he => h.sx x (by simp) he.symm) _).setCell_ne (fun he => h.sx x (by simp) he.symm) _, ?_, ⟨by rw [e1]; exact h.ring.chain, by rw [e1]; exact hnd, ?_⟩, h.sm, ?_, ?_, h.lo, h.hi, by have := h.fits; simp at this ⊢; omega⟩
  · rw [e2]
    exact ((h.map.setCell (fun he => h.mx x (by simp) he.symm) _).setCell (fun he => h.mx x (by simp) he.symm) _).setCell (fun he => h.mx x (by simp) he.symm) _
  · intro z hz
    rcases hcase z hz with hz | rfl
    · refine (((h.ring.nodes z ?_).setCell_ne (hne z hz) _).setCell_ne (hne z hz) _).setCell_ne (hne z hz) _
      simp at hz ⊢; rcases hz with h | h | h <;> simp [h]
    · exact ((hx.setCell 1 (.int .i64 v.p)).setCell 2 (.int .i64 v.f)).setCell 3 (.int .i64 v.r)
  · intro z hz
    rcases hcase z hz with hz | rfl
    · exact h.sx z (by simp at hz ⊢; rcases hz with h | h | h <;> simp [h])
    · exact h.sx x (by simp)
  · intro z hz
    rcases hcase z hz with hz | rfl
    · exact h.mx z (by simp at hz ⊢; rcases hz with h | h | h <;> simp [h])
    · exact h.mx x (by simp)


/-- The place at a number, behind the last one the end. -/
def atN (e : N) (xs : List N) (j : Nat) : Nat := ((xs.map N.blk ++ [e.blk])[j]?).getD 0

theorem chain_next {nw od : Nat → Nat} : ∀ {p q : Nat} {A : List Nat}, Chain nw od p A q → ∀ (j b : Nat), (p :: A)[j]? = some b → (A ++ [q])[j]? = some (nw b)
  | p, q, [], h, j, b, hj => by
    cases j with
    | zero => simp at hj; subst hj; simp [h.1]
    | succ j => simp at hj
  | p, q, a :: A, h, j, b, hj => by
    cases j with
    | zero => simp at hj; subst hj; simp [h.1]
    | succ j => simpa using chain_next h.2.2 j b (by simpa using hj)

theorem Sh.first {P : Program} {T : Ty} {w : World} {s m room : Nat} {e : N} {xs : List N} {nw od : Nat → Nat} (h : Sh P T w s m e room xs nw od) : w.cell? ⟨e.blk, 5, none⟩ = some (ptr (atN e xs 0)) := by
  have h1 := chain_next h.ring.chain 0 e.blk rfl
  unfold atN
  rw [h1]
  exact (h.ring.nodes e (by simp)).cell rfl
theorem Sh.next {P : Program} {T : Ty} {w : World} {s m room : Nat} {e : N} {xs : List N} {nw od : Nat → Nat} (h : Sh P T w s m e room xs nw od) (j : Nat) (x : N) (hj : xs[j]? = some x) :
    atN e xs j = x.blk ∧ w.cell? ⟨x.blk, 5, none⟩ = some (ptr (atN e xs (j + 1))) ∧ w.cell? ⟨x.blk, 0, none⟩ = some (.int .i64 x.key) ∧ (w.cell? ⟨x.blk, 1, none⟩ = some (.int .i64 x.thing.p) ∧ w.cell? ⟨x.blk, 2, none⟩ = some (.int .i64 x.thing.f) ∧ w.cell? ⟨x.blk, 3, none⟩ = some (.int .i64 x.thing.r)) ∧ x.blk ≠ e.blk := by
  have hm : x ∈ xs := List.mem_of_getElem? hj
  have hlt := (List.getElem?_eq_some_iff.1 hj).1
  have h1 := chain_next h.ring.chain (j + 1) x.blk (by simp [hj])
  have hn := h.ring.nodes x (by simp [hm])
  refine ⟨?_, ?_, hn.cell rfl, ⟨hn.cell rfl, hn.cell rfl, hn.cell rfl⟩, fun he => ?_⟩
  · unfold atN
    rw [List.getElem?_append_left (by simpa using hlt)]
    simp [hj]
  · unfold atN
    rw [h1]
    exact hn.cell rfl
  · exact (List.nodup_cons.1 h.ring.nodup).1 (by rw [← he]; exact List.mem_map.2 ⟨x, hm, rfl⟩)
theorem atN_end (e : N) (xs : List N) : atN e xs xs.length = e.blk := by
  unfold atN
  rw [List.getElem?_append_right (by simp)]
  simp

end Go.Proofs.YtipejahmjdamjaaGreatDoor.Tl
namespace Go.Proofs.YtipejahmjdamjaaGreatDoor.Tl
open Go.RowKit Go.Shelf
set_option linter.unusedVariables false

set_option maxHeartbeats 1000000 in
theorem leave_walk (p x y : Nat) (w : World) (c2 : w.cell? ⟨p, 4, none⟩ = some (ptr x)) (c3 : w.cell? ⟨p, 5, none⟩ = some (ptr y)) (f1 : w.frozen? ⟨x, 5, none⟩ = false) (f2 : w.frozen? ⟨y, 4, none⟩ = false)
    (d1 : ∃ v, w.cell? ⟨x, 5, none⟩ = some v) (d2 : ∃ v, w.cell? ⟨y, 4, none⟩ = some v) (hpx : p ≠ x) (hpy : p ≠ y) :
    Calls Tryz.prog 198 #[ptr p] w fun e w' => e = .returned (.tuple #[]) ∧ w' = ((w.setCell ⟨x, 5, none⟩ (ptr y)).setCell ⟨y, 4, none⟩ (ptr x)).drew := by
  obtain ⟨v1, d1⟩ := d1
  obtain ⟨v2, d2⟩ := d2
  go_enter Tryz.func198, Tryz.ntmps198
  go_wp2
  go_region
  go_wp2
  go_end0
  exact ⟨rfl, rfl⟩

set_option maxHeartbeats 1000000 in
theorem enter_walk (p l e : Nat) (w : World) (c2 : w.cell? ⟨e, 4, none⟩ = some (ptr l)) (g1 : w.frozen? ⟨p, 4, none⟩ = false) (g2 : w.frozen? ⟨p, 5, none⟩ = false) (f1 : w.frozen? ⟨l, 5, none⟩ = false) (f2 : w.frozen? ⟨e, 4, none⟩ = false)
    (b1 : ∃ v, w.cell? ⟨p, 4, none⟩ = some v) (b2 : ∃ v, w.cell? ⟨p, 5, none⟩ = some v) (d1 : ∃ v, w.cell? ⟨l, 5, none⟩ = some v) (hpl : p ≠ l) (hpe : p ≠ e) :
    Calls Tryz.prog 199 #[ptr p, ptr e] w fun r w' => r = .returned (.tuple #[]) ∧ w' = ((((w.setCell ⟨p, 4, none⟩ (ptr l)).setCell ⟨p, 5, none⟩ (ptr e)).setCell ⟨l, 5, none⟩ (ptr p)).setCell ⟨e, 4, none⟩ (ptr p)).drew := by
  obtain ⟨v1, d1⟩ := d1
  obtain ⟨v2, b1⟩ := b1
  obtain ⟨v3, b2⟩ := b2
  go_enter Tryz.func199, Tryz.ntmps199
  go_wp2
  go_region
  go_wp2
  go_end0
  exact ⟨rfl, rfl⟩

/-- The numbers of this instance's types. -/
def T : Ty := ⟨171, 168, 3⟩

theorem leave_any (e p : N) (A C : List N) (nw od : Nat → Nat) (w : World) (h : Rg w 168 e (A ++ p :: C) nw od) :
    Calls Tryz.prog 198 #[ptr p.blk] w fun r w' => r = .returned (.tuple #[]) ∧ (∃ nw' od', Rg w' 168 e (A ++ C) nw' od') ∧ Keeps (fun b => ∃ x ∈ e :: (A ++ C), b = x.blk) w w' := by
  have hc := h.chain
  have hd := h.nodup
  rw [List.map_append, List.map_cons] at hc hd
  obtain ⟨h1, h2⟩ := Chain.split.1 hc
  have hx := h1.prev_mem
  have hy := h2.next_mem
  have hp := h.nodes p (by simp)
  have mx : ∃ x ∈ e :: A, od p.blk = x.blk := by
    rcases List.mem_cons.1 hx with h | h
    · exact ⟨e, by simp, h⟩
    · obtain ⟨z, hz, hz2⟩ := List.mem_map.1 h
      exact ⟨z, by simp [hz], hz2.symm⟩
  have my : ∃ x ∈ e :: C, nw p.blk = x.blk := by
    rcases List.mem_append.1 hy with h | h
    · obtain ⟨z, hz, hz2⟩ := List.mem_map.1 h
      exact ⟨z, by simp [hz], hz2.symm⟩
    · exact ⟨e, by simp, by simpa using h⟩
  obtain ⟨nx, mx1, mx2⟩ := mx
  obtain ⟨ny, my1, my2⟩ := my
  have bx := h.nodes nx (by simp at mx1 ⊢; rcases mx1 with h | h <;> simp [h])
  have by' := h.nodes ny (by simp at my1 ⊢; rcases my1 with h | h <;> simp [h])
  have out : p.blk ∉ e.blk :: (A ++ C).map N.blk := by
    intro hm
    have : (p.blk :: (e.blk :: (A ++ C).map N.blk)).Nodup := by
      refine (List.Perm.nodup_iff ?_).1 hd
      rw [List.map_append]
      exact (List.Perm.cons _ List.perm_middle).trans (List.Perm.swap _ _ _)
    exact (List.nodup_cons.1 this).1 hm
  have hpx : p.blk ≠ od p.blk := fun he => out (by
    rw [he, mx2]; simp at mx1 ⊢
    rcases mx1 with h | h
    · exact .inl (by rw [h])
    · exact .inr (.inl ⟨nx, h, rfl⟩))
  have hpy : p.blk ≠ nw p.blk := fun he => out (by
    rw [he, my2]; simp at my1 ⊢
    rcases my1 with h | h
    · exact .inl (by rw [h])
    · exact .inr (.inr ⟨ny, h, rfl⟩))
  refine (leave_walk p.blk (od p.blk) (nw p.blk) w (hp.cell rfl) (hp.cell rfl) (by rw [mx2]; exact bx.frozen 5) (by rw [my2]; exact by'.frozen 4) (by rw [mx2]; exact ⟨_, bx.cell rfl⟩) (by rw [my2]; exact ⟨_, by'.cell rfl⟩) hpx hpy).mono ?_
  rintro r w' ⟨rfl, rfl⟩
  refine ⟨rfl, ⟨_, _, ⟨?_, ?_, ((h.nodes.sub ?_).setNew (od p.blk) (nw p.blk)).setOld (nw p.blk) (od p.blk)⟩⟩, ?_⟩
  · rw [List.map_append]; exact hc.leave hd
  · rw [List.map_append]
    refine hd.sublist ?_
    simp
  · intro z hz
    simp at hz ⊢
    rcases hz with h | h | h <;> simp [h]
  · refine (((Keeps.refl _ w).setCell _ _ fun _ => ?_).setCell _ _ fun _ => ?_).drew
    · exact ⟨nx, by simp at mx1 ⊢; rcases mx1 with h | h <;> simp [h], mx2⟩
    · exact ⟨ny, by simp at my1 ⊢; rcases my1 with h | h <;> simp [h], my2⟩

theorem enter_any (e p : N) (xs : List N) (nw od : Nat → Nat) (w : World) (u v : Value) (h : Rg w 168 e xs nw od) (hp : Blk w p.blk [.int .i64 p.key, .int .i64 p.thing.p, .int .i64 p.thing.f, .int .i64 p.thing.r, u, v] 168) (hn : ∀ x ∈ e :: xs, p.blk ≠ x.blk) :
    Calls Tryz.prog 199 #[ptr p.blk, ptr e.blk] w fun r w' => r = .returned (.tuple #[]) ∧ (∃ nw' od', Rg w' 168 e (xs ++ [p]) nw' od') ∧ Keeps (fun b => ∃ x ∈ e :: (xs ++ [p]), b = x.blk) w w' := by
  have hx := h.chain.prev_mem
  have mx : ∃ x ∈ e :: xs, od e.blk = x.blk := by
    rcases List.mem_cons.1 hx with h | h
    · exact ⟨e, by simp, h⟩
    · obtain ⟨z, hz, hz2⟩ := List.mem_map.1 h
      exact ⟨z, by simp [hz], hz2.symm⟩
  obtain ⟨nx, mx1, mx2⟩ := mx
  have bx := h.nodes nx mx1
  have be := h.nodes e (by simp)
  have hpe := hn e (by simp)
  have hpl : p.blk ≠ od e.blk := by rw [mx2]; exact hn nx mx1
  have hout : p.blk ∉ e.blk :: xs.map N.blk := by
    intro hm
    rcases List.mem_cons.1 hm with h | h
    · exact hpe h
    · obtain ⟨z, hz, hz2⟩ := List.mem_map.1 h
      exact hn z (by simp [hz]) hz2.symm
  refine (enter_walk p.blk (od e.blk) e.blk w (be.cell rfl) (hp.frozen 4) (hp.frozen 5) (by rw [mx2]; exact bx.frozen 5) (be.frozen 4) ⟨_, hp.cell rfl⟩ ⟨_, hp.cell rfl⟩ (by rw [mx2]; exact ⟨_, bx.cell rfl⟩) hpl hpe).mono ?_
  rintro r w' ⟨rfl, rfl⟩
  have n0 : Nodes ((w.setCell ⟨p.blk, 4, none⟩ (ptr (od e.blk))).setCell ⟨p.blk, 5, none⟩ (ptr e.blk)) 168 (e :: (xs ++ [p])) (upd nw p.blk e.blk) (upd od p.blk (od e.blk)) := by
    intro z hz
    by_cases hzp : z.blk = p.blk
    · have hz' : z = p := by
        have : z ∈ (e :: xs) ∨ z = p := by simp at hz ⊢; rcases hz with h | h | h <;> simp [h]
        rcases this with h | h
        · exact absurd hzp.symm (hn z h)
        · exact h
      subst hz'
      rw [upd_same, upd_same]
      exact (hp.setCell 4 (ptr (od e.blk))).setCell 5 (ptr e.blk)
    · have hz' : z ∈ e :: xs := by
        simp at hz ⊢
        rcases hz with h | h | h
        · exact .inl h
        · exact .inr h
        · rw [h] at hzp; exact absurd rfl hzp
      rw [upd_ne _ _ hzp, upd_ne _ _ hzp]
      exact ((h.nodes z hz').setCell_ne hzp _).setCell_ne hzp _
  refine ⟨rfl, ⟨_, _, ⟨?_, ?_, (n0.setNew (od e.blk) p.blk).setOld e.blk p.blk⟩⟩, ?_⟩
  · rw [List.map_append]; exact h.chain.enter h.nodup hout
  · rw [List.map_append]
    have : (p.blk :: e.blk :: xs.map N.blk).Nodup := List.nodup_cons.2 ⟨hout, h.nodup⟩
    refine (List.Perm.nodup_iff ?_).1 this
    exact (List.Perm.swap _ _ _).trans (List.Perm.cons _ (List.perm_append_singleton _ _).symm)
  · refine (((((Keeps.refl _ w).setCell _ _ fun _ => ?_).setCell _ _ fun _ => ?_).setCell _ _ fun _ => ?_).setCell _ _ fun _ => ?_).drew
    · exact ⟨p, by simp, rfl⟩
    · exact ⟨p, by simp, rfl⟩
    · exact ⟨nx, by simp at mx1 ⊢; rcases mx1 with h | h <;> simp [h], mx2⟩
    · exact ⟨e, by simp, rfl⟩

end Go.Proofs.YtipejahmjdamjaaGreatDoor.Tl
namespace Go.Proofs.YtipejahmjdamjaaGreatDoor.Tl
open Go.RowKit Go.Shelf
set_option linter.unusedVariables false

abbrev I64 (k : Int) : Prop := -9223372036854775808 ≤ k ∧ k ≤ 9223372036854775807

theorem keyed : Maps.Keyed Tryz.prog 3 := Maps.int_keyed Tryz.underlying3
theorem key_of {k : Int} (h : I64 k) : keyOf Tryz.prog 3 (.int .i64 k) = some (.int .i64 k) := by
  refine Maps.keyOf_int_mk Tryz.underlying3 ?_
  have h1 : IntKind.i64.min = -9223372036854775808 := rfl
  have h2 : IntKind.i64.max = 9223372036854775807 := rfl
  simp [Lit.wf, h1, h2]
  omega

/-- The builtins and the map's operations, where their run is known. -/
theorem wpList_lookup_run {ops : Array Oper} {rest : List Oper} {o : Oper} {a : Act} {Q : Exit → Act → World → Prop} {P : Program} {w : World} (hgd : o.guard = none) (m x : Operand) (t : TypeId)
    (ho : o.op = .lookup t m x false) (vm vx v' : Value) (hm : a.eval m = vm) (hx : a.eval x = vx)
    (hr : (Instr.lookup t vm vx false).run P w = .ok v' w) (h : wpList P ops Q rest (a.put o.dst v') w) : wpList P ops Q (o :: rest) a w :=
  wpList_plain hgd fun _ hK => by
    unfold Oper.wp execOp
    simp only [ho, hm, hx, hr, Sem.run_bind, Sem.run_pure, Result.andThen_ok]
    exact hK _ _ h

theorem wpList_update_run {ops : Array Oper} {rest : List Oper} {o : Oper} {a : Act} {Q : Exit → Act → World → Prop} {P : Program} {w w' : World} (hgd : o.guard = none) (m x v : Operand) (t : TypeId)
    (ho : o.op = .mapUpdate t m x v) (vm vx vv : Value) (hm : a.eval m = vm) (hx : a.eval x = vx) (hv : a.eval v = vv)
    (hr : (Instr.mapUpdate t vm vx vv).run P w = .ok () w') (h : wpList P ops Q rest (a.put o.dst undef) w') : wpList P ops Q (o :: rest) a w :=
  wpList_plain hgd fun _ hK => by
    unfold Oper.wp
    simp [execOp, ho, hm, hx, hv, hr, Result.andThen]
    exact hK _ _ h

theorem wpList_len_run {ops : Array Oper} {rest : List Oper} {o : Oper} {a : Act} {Q : Exit → Act → World → Prop} {P : Program} {w : World} (hgd : o.guard = none) (m : Operand) (t : TypeId)
    (ho : o.op = .call { callee := .builtin .len, args := #[m], argTypes := #[t] }) (vm v' : Value) (hm : a.eval m = vm)
    (hr : ∀ ty, (Builtin.len_ #[t] ty #[vm]).run P w = .ok v' w) (h : wpList P ops Q rest (a.put o.dst v') w) : wpList P ops Q (o :: rest) a w :=
  wpList_plain hgd fun _ hK => by
    unfold Oper.wp execOp
    simp only [ho, resolve, invoke, builtin, Sem.run_bind, Sem.run_pure, Result.andThen_ok, List.map_toArray, List.map_cons, List.map_nil, hm, hr]
    exact hK _ _ h

theorem find_walk (s m : Nat) (k : Int) (v : Value) (w : World) (c1 : w.cell? ⟨s, 1, none⟩ = some (.map (some m))) (HL : Hid ((Instr.lookup 169 (.map (some m)) (.int .i64 k) false).run Tryz.prog w = .ok v w)) :
    Calls Tryz.prog 170 #[ptr s, .int .i64 k] w fun r w' => r = .returned v ∧ w' = w := by
  go_enter Tryz.func170, Tryz.ntmps170
  go_wp2_with (at_lookup; refine wpList_lookup_run rfl (.tmp 10) (.tmp 11) 169 rfl (.map (some m)) (.int .i64 k) v rfl rfl HL.out ?_)
  go_ret
  exact ⟨rfl, rfl⟩

theorem zeroPP (w : World) : (zeroValue 164).run Tryz.prog w = .ok (.pointer none) w := by kernel_rfl

theorem find_none (s m : Nat) (e : N) (room : Nat) (xs : List N) (nw od : Nat → Nat) (k : Int) (w : World) (h : Sh Tryz.prog T w s m e room xs nw od) (hk : I64 k) (hn : ∀ x ∈ xs, x.key ≠ k) :
    Calls Tryz.prog 170 #[ptr s, .int .i64 k] w fun r w' => r = .returned (.pointer none) ∧ w' = w := by
  refine find_walk s m k _ w h.cells.2.1 (h.map.look_none keyed Tryz.underlying169 (zeroPP w) (key_of hk) ?_)
  intro p hp he
  obtain ⟨x, hx, rfl⟩ := List.mem_map.1 hp
  simp at he
  exact hn x hx he

theorem find_some (s m : Nat) (e x : N) (room : Nat) (A C : List N) (nw od : Nat → Nat) (w : World) (h : Sh Tryz.prog T w s m e room (A ++ x :: C) nw od) (hk : I64 x.key) :
    Calls Tryz.prog 170 #[ptr s, .int .i64 x.key] w fun r w' => r = .returned (ptr x.blk) ∧ w' = w := by
  refine find_walk s m x.key _ w h.cells.2.1 (h.map.look_some keyed Tryz.underlying169 (key_of hk) ?_)
  simp [mapOf]

theorem find_nil (k : Int) (w : World) : Calls Tryz.prog 170 #[.pointer none, .int .i64 k] w fun r w' => r = .returned (.pointer none) ∧ w' = w := by
  go_enter Tryz.func170, Tryz.ntmps170
  go_wp2
  go_ret
  exact ⟨rfl, rfl⟩

theorem load_leaf {w : World} {b : Nat} {l : Lf} (h : Blk w b l.vs 64) : (loadVar 64 ⟨b, 0, none⟩).run Tryz.prog w = .ok l.v w :=
  run_loadVar_row w b 64 64 _ _ _ h Tryz.underlying64 (by simp) (by kernel_rfl)

theorem results_cell_tmp {P : Program} {fn : Func} {p u : Tmp} {ty : TypeId} (h : fn.results = #[.cell p ty, .tmp u]) (tmps : Array Value) (w : World) (a : Addr) (v : Value)
    (hp : tmps.getD p undef = .pointer (some a)) (hl : (loadVar ty a).run P w = .ok v w) : (results fn tmps).run P w = .ok (.tuple #[v, tmps.getD u undef]) w := by
  have hp' : tmps[p]?.getD undef = .pointer (some a) := by simpa using hp
  simp [results, h, hp', asAddr, hl]

theorem told_some (b : Nat) (l : Lf) (w : World) (c1 : w.cell? ⟨b, 1, none⟩ = some (.int .i64 l.p)) (c2 : w.cell? ⟨b, 2, none⟩ = some (.int .i64 l.f)) (c3 : w.cell? ⟨b, 3, none⟩ = some (.int .i64 l.r)) :
    Calls Tryz.prog 208 #[ptr b] w fun r w' => r = .returned (.tuple #[l.v, .bool true]) ∧ Keeps (fun _ => False) w w' := by
  have hlt := World.block_lt_of_cell? w _ c1
  go_enter Tryz.func208, Tryz.ntmps208
  go_wp2
  refine bodyPost_ret (results_cell_tmp rfl _ _ _ l.v rfl (load_leaf (Blk.new w _ 64))) rfl ?_
  exact ⟨rfl, (Keeps.refl _ w).alloc _⟩

theorem told_none (w : World) : Calls Tryz.prog 208 #[.pointer none] w fun r w' => r = .returned (.tuple #[(⟨0, 0, 0⟩ : Lf).v, .bool false]) ∧ Keeps (fun _ => False) w w' := by
  go_enter Tryz.func208, Tryz.ntmps208
  go_wp2
  refine bodyPost_ret (results_cell_tmp rfl _ _ _ (⟨0, 0, 0⟩ : Lf).v rfl (load_leaf (Blk.alloc (Blk.new w _ 64) _))) rfl ?_
  exact ⟨rfl, ((Keeps.refl _ w).alloc _).alloc _⟩

/-- One place more. -/
theorem perm_last {α : Type} (A : List α) (x : α) (C : List α) : (A ++ x :: C).Perm (A ++ C ++ [x]) := by
  rw [List.append_assoc]
  exact List.Perm.append_left A (List.perm_append_singleton x C).symm

set_option maxHeartbeats 400000 in
theorem renew_any (s m : Nat) (e x : N) (room : Nat) (A C : List N) (nw od : Nat → Nat) (w : World) (h : Sh Tryz.prog T w s m e room (A ++ x :: C) nw od) :
    Calls Tryz.prog 171 #[ptr s, ptr x.blk] w fun r w' => r = .returned (.tuple #[]) ∧ (∃ nw' od', Sh Tryz.prog T w' s m e room (A ++ C ++ [x]) nw' od') ∧ Keeps (Own s m e (A ++ x :: C)) w w' := by
  have HC : Hid (Calls _ _ _ _ _) := leave_any e x A C nw od w h.ring
  have HS : Hid (Sh Tryz.prog T w s m e room (A ++ x :: C) nw od) := h
  clear h
  go_enter Tryz.func171, Tryz.ntmps171
  go_wp2_with fail
  refine HC.out.mono ?_
  rintro r w1 ⟨rfl, ⟨nw1, od1, hR⟩, hK⟩
  have hS := HS.out
  have nd : (e.blk :: (A ++ x :: C).map N.blk).Nodup := hS.ring.nodup
  have hnx : ∀ z ∈ e :: (A ++ C), x.blk ≠ z.blk := by
    have h1 : (x.blk :: e.blk :: (A ++ C).map N.blk).Nodup := by
      refine (List.Perm.nodup_iff ?_).1 nd
      rw [List.map_append, List.map_cons, List.map_append]
      exact (List.Perm.cons _ List.perm_middle).trans (List.Perm.swap _ _ _)
    intro z hz he
    refine (List.nodup_cons.1 h1).1 ?_
    rw [he]
    rcases List.mem_cons.1 hz with h | h
    · simp [h]
    · exact List.mem_cons_of_mem _ (List.mem_map.2 ⟨z, h, rfl⟩)
  have hsub : ∀ z ∈ e :: (A ++ C), z ∈ e :: (A ++ x :: C) := by
    intro z hz; simp at hz ⊢; rcases hz with h | h | h <;> simp [h]
  have b1 : Blk w1 s [.int .i64 room, .map (some m), ptr e.blk] 171 := hS.blk.kept hK fun ⟨z, hz, he⟩ => hS.sx z (hsub z hz) he.symm
  have m1 : MapIs Tryz.prog 3 w1 m (mapOf (A ++ x :: C)) := hS.map.kept hK fun ⟨z, hz, he⟩ => hS.mx z (hsub z hz) he.symm
  have x1 := (hS.ring.nodes x (by simp)).kept hK fun ⟨z, hz, he⟩ => hnx z hz he
  have c2 := b1.cell (i := 2) rfl
  have HC2 : Hid (Calls _ _ _ _ _) := enter_any e x (A ++ C) nw1 od1 w1 _ _ hR x1 hnx
  have H1 : Hid (_ ∧ _ ∧ _ ∧ Keeps _ w w1) := ⟨b1, m1, hnx, hK⟩
  clear hS nd hsub b1 m1 x1 hnx hK hR HC
  go_wp2_with fail
  refine HC2.out.mono ?_
  rintro r w2 ⟨rfl, ⟨nw2, od2, hR2⟩, hK2⟩
  obtain ⟨b1, m1, hnx, hK⟩ := H1.out
  have H2 : Hid (Rg w2 168 e (A ++ C ++ [x]) nw2 od2 ∧ Blk w1 s [.int .i64 room, .map (some m), ptr e.blk] 171 ∧ MapIs Tryz.prog 3 w1 m (mapOf (A ++ x :: C)) ∧ Keeps (fun b => ∃ z ∈ e :: (A ++ C), b = z.blk) w w1 ∧ Keeps (fun b => ∃ z ∈ e :: (A ++ C ++ [x]), b = z.blk) w1 w2) := ⟨hR2, b1, m1, hK, hK2⟩
  clear H1 b1 m1 hnx hK hK2 hR2 HC2 c2
  go_wp2
  go_end0
  obtain ⟨hR2, b1, m1, hK, hK2⟩ := H2.out
  have hS := HS.out
  have hall : ∀ z ∈ e :: (A ++ C ++ [x]), z ∈ e :: (A ++ x :: C) := by
    intro z hz; simp at hz ⊢; rcases hz with h | h | h | h <;> simp [h]
  refine ⟨rfl, ⟨nw2, od2, ⟨b1.kept hK2 fun ⟨z, hz, he⟩ => hS.sx z (hall z hz) he.symm, (m1.perm ?_).kept hK2 fun ⟨z, hz, he⟩ => hS.mx z (hall z hz) he.symm, hR2, hS.sm, fun z hz => hS.sx z (hall z hz), fun z hz => hS.mx z (hall z hz), hS.lo, hS.hi, ?_⟩⟩, ?_⟩
  · exact (perm_last A x C).map _
  · have := hS.fits; simp at this ⊢; omega
  · refine (hK.mono fun b _ ⟨z, hz, he⟩ => .inr (.inr ⟨z, ?_, he⟩)).trans hK2 fun b _ ⟨z, hz, he⟩ => .inr (.inr ⟨z, hall z hz, he⟩)
    simp at hz ⊢; rcases hz with h | h | h <;> simp [h]

end Go.Proofs.YtipejahmjdamjaaGreatDoor.Tl
