import Derived.Test.YtipejahmjdamjaaGreatDoorChRing
import Derived.Below
import Derived.Test.YtipejahmjdamjaaGreatDoorProg
import Derived.WalkKit
import Derived.WalkSpells
import Derived.WalkLawsBesides
import Derived.Deep.QuietTactic
import Derived.BigQuiet
import Derived.BigRegion
import Derived.Maps.OwnSet
import Derived.Shelf.Abstract
namespace Go.Proofs.YtipejahmjdamjaaGreatDoor.Ch
open Go.RowKit
set_option linter.unusedVariables false

/-- The numbers of an instance's types. -/
structure Ty where
  s : TypeId
  p : TypeId
  k : TypeId

def mapOf (xs : List N) : List (Value × Value) := xs.map fun x => (.int .i64 x.key, ptr x.blk)

/-- A shelf in the memory: its block, its map's, its end, its places. -/
structure Sh (P : Program) (T : Ty) (w : World) (s m : Nat) (e : N) (room : Nat) (xs : List N) (nw od : Nat → Nat) : Prop where
  blk : Blk w s [.int .i64 room, .map (some m), ptr e.blk] T.s
  map : MapIs P T.k w m (mapOf xs)
  ring : Rg w T.p e xs nw od
  sm : s ≠ m
  sx : ∀ x ∈ e :: xs, x.blk ≠ s
  mx : ∀ x ∈ e :: xs, x.blk ≠ m
  lo : 1 ≤ room
  hi : room ≤ 4096
  fits : xs.length ≤ room

/-- The blocks of a shelf. -/
def Own (s m : Nat) (e : N) (xs : List N) (b : Nat) : Prop := b = s ∨ b = m ∨ ∃ x ∈ e :: xs, b = x.blk

/-- What is on a shelf, the least lately used first; all its blocks are among F. -/
def Shelf (P : Program) (T : Ty) (w : World) (s : Nat) (room : Nat) (ks : List Int) (F : Nat → Prop) : Prop :=
  ∃ m e xs nw od, Sh P T w s m e room xs nw od ∧ ks = xs.map N.key ∧ (∀ b, Own s m e xs b → F b) ∧ ∀ b, F b → b < w.heap.size

section
variable {P : Program} {T : Ty} {w w' : World} {s m room : Nat} {e : N} {xs : List N} {nw od : Nat → Nat} {ks : List Int} {F : Nat → Prop}

theorem Sh.kept {S : Nat → Prop} (h : Sh P T w s m e room xs nw od) (hK : Keeps S w w') (hn : ∀ b, Own s m e xs b → ¬ S b) : Sh P T w' s m e room xs nw od :=
  ⟨h.blk.kept hK (hn s (.inl rfl)), h.map.kept hK (hn m (.inr (.inl rfl))), h.ring.kept hK (fun x hx => hn _ (.inr (.inr ⟨x, hx, rfl⟩))), h.sm, h.sx, h.mx, h.lo, h.hi, h.fits⟩

theorem Shelf.kept {S : Nat → Prop} (h : Shelf P T w s room ks F) (hK : Keeps S w w') (hn : ∀ b, F b → ¬ S b) : Shelf P T w' s room ks F := by
  obtain ⟨m, e, xs, nw, od, h1, h2, h3, h4⟩ := h
  exact ⟨m, e, xs, nw, od, h1.kept hK fun b hb => hn b (h3 b hb), h2, h3, fun b hb => Nat.lt_of_lt_of_le (h4 b hb) hK.size⟩

theorem Shelf.lt (h : Shelf P T w s room ks F) : ∀ b, F b → b < w.heap.size := by
  obtain ⟨m, e, xs, nw, od, h1, h2, h3, h4⟩ := h
  exact h4
theorem Shelf.self (h : Shelf P T w s room ks F) : F s := by
  obtain ⟨m, e, xs, nw, od, h1, h2, h3, h4⟩ := h
  exact h3 s (.inl rfl)
theorem Shelf.fits (h : Shelf P T w s room ks F) : ks.length ≤ room := by
  obtain ⟨m, e, xs, nw, od, h1, rfl, h3, h4⟩ := h
  simpa using h1.fits
theorem Shelf.bounds (h : Shelf P T w s room ks F) : 1 ≤ room ∧ room ≤ 4096 := by
  obtain ⟨m, e, xs, nw, od, h1, rfl, h3, h4⟩ := h
  exact ⟨h1.lo, h1.hi⟩

/-- The keys are unlike. -/
theorem Sh.keys (h : Sh P T w s m e room xs nw od) : (xs.map N.key).Nodup := by
  obtain ⟨es, c, _, _, h3, _⟩ := h.map
  unfold mapOf at h3
  rw [List.map_map] at h3
  have : (xs.map N.key).map (fun k : Int => Value.int .i64 k) = List.map (Prod.fst ∘ fun x : N => (Value.int .i64 x.key, ptr x.blk)) xs := by
    rw [List.map_map]; rfl
  rw [← this] at h3
  refine List.Pairwise.of_map _ (fun a b hab e => hab (by rw [e])) h3
theorem Shelf.keys (h : Shelf P T w s room ks F) : ks.Nodup := by
  obtain ⟨m, e, xs, nw, od, h1, rfl, h3, h4⟩ := h
  exact h1.keys
end

/-! ### What is found, and what goes -/
/-- A list either has the key at one place, or not. -/
theorem key_split (k : Int) (xs : List N) : (∃ A x C, xs = A ++ x :: C ∧ x.key = k) ∨ ∀ x ∈ xs, x.key ≠ k := by
  by_cases h : ∃ x ∈ xs, x.key = k
  · obtain ⟨x, hx, hk⟩ := h
    obtain ⟨A, C, rfl⟩ := List.append_of_mem hx
    exact .inl ⟨A, x, C, rfl, hk⟩
  · refine .inr fun x hx hk => h ⟨x, hx, hk⟩

theorem erase_split {A C : List Int} {k : Int} (h : (A ++ k :: C).Nodup) : (A ++ k :: C).erase k = A ++ C := by
  have : k ∉ A := fun hm => by
    rw [List.nodup_append] at h
    exact h.2.2 k hm k (by simp) rfl
  rw [List.erase_append_right _ this]
  simp

theorem Sh.cells {P : Program} {T : Ty} {w : World} {s m room : Nat} {e : N} {xs : List N} {nw od : Nat → Nat} (h : Sh P T w s m e room xs nw od) :
    w.cell? ⟨s, 0, none⟩ = some (.int .i64 room) ∧ w.cell? ⟨s, 1, none⟩ = some (.map (some m)) ∧ w.cell? ⟨s, 2, none⟩ = some (ptr e.blk) :=
  ⟨h.blk.cell rfl, h.blk.cell rfl, h.blk.cell rfl⟩

theorem Sh.drewN {P : Program} {T : Ty} {w : World} {s m room : Nat} {e : N} {xs : List N} {nw od : Nat → Nat} (h : Sh P T w s m e room xs nw od) (n : Nat) : Sh P T (w.drewN n) s m e room xs nw od :=
  h.kept (S := fun _ => False) ((Keeps.refl _ w).drewN n) fun _ _ h => h

theorem Sh.lt {P : Program} {T : Ty} {w : World} {s m room : Nat} {e : N} {xs : List N} {nw od : Nat → Nat} (h : Sh P T w s m e room xs nw od) : ∀ b, Own s m e xs b → b < w.heap.size := by
  rintro b (rfl | rfl | ⟨z, hz, rfl⟩)
  · exact h.blk.lt
  · exact h.map.lt
  · exact (h.ring.nodes z hz).lt


/-- The place at a number, behind the last one the end. -/
def atN (e : N) (xs : List N) (j : Nat) : Nat := ((xs.map N.blk ++ [e.blk])[j]?).getD 0

theorem chain_next {nw od : Nat → Nat} : ∀ {p q : Nat} {A : List Nat}, Chain nw od p A q → ∀ (j b : Nat), (p :: A)[j]? = some b → (A ++ [q])[j]? = some (nw b)
  | p, q, [], h, j, b, hj => by
    cases j with
    | zero => simp at hj; subst hj; simp [h.1]
    | succ j => simp at hj
  | p, q, a :: A, h, j, b, hj => by
    cases j with
    | zero => simp at hj; subst hj; simp [h.1]
    | succ j => simpa using chain_next h.2.2 j b (by simpa using hj)

theorem Sh.first {P : Program} {T : Ty} {w : World} {s m room : Nat} {e : N} {xs : List N} {nw od : Nat → Nat} (h : Sh P T w s m e room xs nw od) : w.cell? ⟨e.blk, 2, none⟩ = some (ptr (atN e xs 0)) := by
  have h1 := chain_next h.ring.chain 0 e.blk rfl
  unfold atN
  rw [h1]
  exact (h.ring.nodes e (by simp)).cell rfl
theorem Sh.next {P : Program} {T : Ty} {w : World} {s m room : Nat} {e : N} {xs : List N} {nw od : Nat → Nat} (h : Sh P T w s m e room xs nw od) (j : Nat) (x : N) (hj : xs[j]? = some x) :
    atN e xs j = x.blk ∧ w.cell? ⟨x.blk, 2, none⟩ = some (ptr (atN e xs (j + 1))) ∧ w.cell? ⟨x.blk, 0, none⟩ = some (.int .i64 x.key) ∧ x.blk ≠ e.blk := by
  have hm : x ∈ xs := List.mem_of_getElem? hj
  have hlt := (List.getElem?_eq_some_iff.1 hj).1
  have h1 := chain_next h.ring.chain (j + 1) x.blk (by simp [hj])
  have hn := h.ring.nodes x (by simp [hm])
  refine ⟨?_, ?_, hn.cell rfl, fun he => ?_⟩
  · unfold atN
    rw [List.getElem?_append_left (by simpa using hlt)]
    simp [hj]
  · unfold atN
    rw [h1]
    exact hn.cell rfl
  · exact (List.nodup_cons.1 h.ring.nodup).1 (by rw [← he]; exact List.mem_map.2 ⟨x, hm, rfl⟩)
theorem atN_end (e : N) (xs : List N) : atN e xs xs.length = e.blk := by
  unfold atN
  rw [List.getElem?_append_right (by simp)]
  simp

end Go.Proofs.YtipejahmjdamjaaGreatDoor.Ch
namespace Go.Proofs.YtipejahmjdamjaaGreatDoor.Ch
open Go.RowKit Go.Shelf
set_option linter.unusedVariables false

set_option maxHeartbeats 1000000 in
theorem leave_walk (p x y : Nat) (w : World) (c2 : w.cell? ⟨p, 1, none⟩ = some (ptr x)) (c3 : w.cell? ⟨p, 2, none⟩ = some (ptr y)) (f1 : w.frozen? ⟨x, 2, none⟩ = false) (f2 : w.frozen? ⟨y, 1, none⟩ = false)
    (d1 : ∃ v, w.cell? ⟨x, 2, none⟩ = some v) (d2 : ∃ v, w.cell? ⟨y, 1, none⟩ = some v) (hpx : p ≠ x) (hpy : p ≠ y) :
    Calls Tryz.prog 165 #[ptr p] w fun e w' => e = .returned (.tuple #[]) ∧ w' = ((w.setCell ⟨x, 2, none⟩ (ptr y)).setCell ⟨y, 1, none⟩ (ptr x)).drew := by
  obtain ⟨v1, d1⟩ := d1
  obtain ⟨v2, d2⟩ := d2
  go_enter Tryz.func165, Tryz.ntmps165
  go_wp2
  go_region
  go_wp2
  go_end0
  exact ⟨rfl, rfl⟩

set_option maxHeartbeats 1000000 in
theorem enter_walk (p l e : Nat) (w : World) (c2 : w.cell? ⟨e, 1, none⟩ = some (ptr l)) (g1 : w.frozen? ⟨p, 1, none⟩ = false) (g2 : w.frozen? ⟨p, 2, none⟩ = false) (f1 : w.frozen? ⟨l, 2, none⟩ = false) (f2 : w.frozen? ⟨e, 1, none⟩ = false)
    (b1 : ∃ v, w.cell? ⟨p, 1, none⟩ = some v) (b2 : ∃ v, w.cell? ⟨p, 2, none⟩ = some v) (d1 : ∃ v, w.cell? ⟨l, 2, none⟩ = some v) (hpl : p ≠ l) (hpe : p ≠ e) :
    Calls Tryz.prog 166 #[ptr p, ptr e] w fun r w' => r = .returned (.tuple #[]) ∧ w' = ((((w.setCell ⟨p, 1, none⟩ (ptr l)).setCell ⟨p, 2, none⟩ (ptr e)).setCell ⟨l, 2, none⟩ (ptr p)).setCell ⟨e, 1, none⟩ (ptr p)).drew := by
  obtain ⟨v1, d1⟩ := d1
  obtain ⟨v2, b1⟩ := b1
  obtain ⟨v3, b2⟩ := b2
  go_enter Tryz.func166, Tryz.ntmps166
  go_wp2
  go_region
  go_wp2
  go_end0
  exact ⟨rfl, rfl⟩

/-- The numbers of this instance's types. -/
def T : Ty := ⟨179, 176, 3⟩

theorem leave_any (e p : N) (A C : List N) (nw od : Nat → Nat) (w : World) (h : Rg w 176 e (A ++ p :: C) nw od) :
    Calls Tryz.prog 165 #[ptr p.blk] w fun r w' => r = .returned (.tuple #[]) ∧ (∃ nw' od', Rg w' 176 e (A ++ C) nw' od') ∧ Keeps (fun b => ∃ x ∈ e :: (A ++ C), b = x.blk) w w' := by
  have hc := h.chain
  have hd := h.nodup
  rw [List.map_append, List.map_cons] at hc hd
  obtain ⟨h1, h2⟩ := Chain.split.1 hc
  have hx := h1.prev_mem
  have hy := h2.next_mem
  have hp := h.nodes p (by simp)
  have mx : ∃ x ∈ e :: A, od p.blk = x.blk := by
    rcases List.mem_cons.1 hx with h | h
    · exact ⟨e, by simp, h⟩
    · obtain ⟨z, hz, hz2⟩ := List.mem_map.1 h
      exact ⟨z, by simp [hz], hz2.symm⟩
  have my : ∃ x ∈ e :: C, nw p.blk = x.blk := by
    rcases List.mem_append.1 hy with h | h
    · obtain ⟨z, hz, hz2⟩ := List.mem_map.1 h
      exact ⟨z, by simp [hz], hz2.symm⟩
    · exact ⟨e, by simp, by simpa using h⟩
  obtain ⟨nx, mx1, mx2⟩ := mx
  obtain ⟨ny, my1, my2⟩ := my
  have bx := h.nodes nx (by simp at mx1 ⊢; rcases mx1 with h | h <;> simp [h])
  have by' := h.nodes ny (by simp at my1 ⊢; rcases my1 with h | h <;> simp [h])
  have out : p.blk ∉ e.blk :: (A ++ C).map N.blk := by
    intro hm
    have : (p.blk :: (e.blk :: (A ++ C).map N.blk)).Nodup := by
      refine (List.Perm.nodup_iff ?_).1 hd
      rw [List.map_append]
      exact (List.Perm.cons _ List.perm_middle).trans (List.Perm.swap _ _ _)
    exact (List.nodup_cons.1 this).1 hm
  have hpx : p.blk ≠ od p.blk := fun he => out (by
    rw [he, mx2]; simp at mx1 ⊢
    rcases mx1 with h | h
    · exact .inl (by rw [h])
    · exact .inr (.inl ⟨nx, h, rfl⟩))
  have hpy : p.blk ≠ nw p.blk := fun he => out (by
    rw [he, my2]; simp at my1 ⊢
    rcases my1 with h | h
    · exact .inl (by rw [h])
    · exact .inr (.inr ⟨ny, h, rfl⟩))
  refine (leave_walk p.blk (od p.blk) (nw p.blk) w (hp.cell rfl) (hp.cell rfl) (by rw [mx2]; exact bx.frozen 2) (by rw [my2]; exact by'.frozen 1) (by rw [mx2]; exact ⟨_, bx.cell rfl⟩) (by rw [my2]; exact ⟨_, by'.cell rfl⟩) hpx hpy).mono ?_
  rintro r w' ⟨rfl, rfl⟩
  refine ⟨rfl, ⟨_, _, ⟨?_, ?_, ((h.nodes.sub ?_).setNew (od p.blk) (nw p.blk)).setOld (nw p.blk) (od p.blk)⟩⟩, ?_⟩
  · rw [List.map_append]; exact hc.leave hd
  · rw [List.map_append]
    refine hd.sublist ?_
    simp
  · intro z hz
    simp at hz ⊢
    rcases hz with h | h | h <;> simp [h]
  · refine (((Keeps.refl _ w).setCell _ _ fun _ => ?_).setCell _ _ fun _ => ?_).drew
    · exact ⟨nx, by simp at mx1 ⊢; rcases mx1 with h | h <;> simp [h], mx2⟩
    · exact ⟨ny, by simp at my1 ⊢; rcases my1 with h | h <;> simp [h], my2⟩

theorem enter_any (e p : N) (xs : List N) (nw od : Nat → Nat) (w : World) (u v : Value) (h : Rg w 176 e xs nw od) (hp : Blk w p.blk [.int .i64 p.key, u, v] 176) (hn : ∀ x ∈ e :: xs, p.blk ≠ x.blk) :
    Calls Tryz.prog 166 #[ptr p.blk, ptr e.blk] w fun r w' => r = .returned (.tuple #[]) ∧ (∃ nw' od', Rg w' 176 e (xs ++ [p]) nw' od') ∧ Keeps (fun b => ∃ x ∈ e :: (xs ++ [p]), b = x.blk) w w' := by
  have hx := h.chain.prev_mem
  have mx : ∃ x ∈ e :: xs, od e.blk = x.blk := by
    rcases List.mem_cons.1 hx with h | h
    · exact ⟨e, by simp, h⟩
    · obtain ⟨z, hz, hz2⟩ := List.mem_map.1 h
      exact ⟨z, by simp [hz], hz2.symm⟩
  obtain ⟨nx, mx1, mx2⟩ := mx
  have bx := h.nodes nx mx1
  have be := h.nodes e (by simp)
  have hpe := hn e (by simp)
  have hpl : p.blk ≠ od e.blk := by rw [mx2]; exact hn nx mx1
  have hout : p.blk ∉ e.blk :: xs.map N.blk := by
    intro hm
    rcases List.mem_cons.1 hm with h | h
    · exact hpe h
    · obtain ⟨z, hz, hz2⟩ := List.mem_map.1 h
      exact hn z (by simp [hz]) hz2.symm
  refine (enter_walk p.blk (od e.blk) e.blk w (be.cell rfl) (hp.frozen 1) (hp.frozen 2) (by rw [mx2]; exact bx.frozen 2) (be.frozen 1) ⟨_, hp.cell rfl⟩ ⟨_, hp.cell rfl⟩ (by rw [mx2]; exact ⟨_, bx.cell rfl⟩) hpl hpe).mono ?_
  rintro r w' ⟨rfl, rfl⟩
  have n0 : Nodes ((w.setCell ⟨p.blk, 1, none⟩ (ptr (od e.blk))).setCell ⟨p.blk, 2, none⟩ (ptr e.blk)) 176 (e :: (xs ++ [p])) (upd nw p.blk e.blk) (upd od p.blk (od e.blk)) := by
    intro z hz
    by_cases hzp : z.blk = p.blk
    · have hz' : z = p := by
        have : z ∈ (e :: xs) ∨ z = p := by simp at hz ⊢; rcases hz with h | h | h <;> simp [h]
        rcases this with h | h
        · exact absurd hzp.symm (hn z h)
        · exact h
      subst hz'
      rw [upd_same, upd_same]
      exact (hp.setCell 1 (ptr (od e.blk))).setCell 2 (ptr e.blk)
    · have hz' : z ∈ e :: xs := by
        simp at hz ⊢
        rcases hz with h | h | h
        · exact .inl h
        · exact .inr h
        · rw [h] at hzp; exact absurd rfl hzp
      rw [upd_ne _ _ hzp, upd_ne _ _ hzp]
      exact ((h.nodes z hz').setCell_ne hzp _).setCell_ne hzp _
  refine ⟨rfl, ⟨_, _, ⟨?_, ?_, (n0.setNew (od e.blk) p.blk).setOld e.blk p.blk⟩⟩, ?_⟩
  · rw [List.map_append]; exact h.chain.enter h.nodup hout
  · rw [List.map_append]
    have : (p.blk :: e.blk :: xs.map N.blk).Nodup := List.nodup_cons.2 ⟨hout, h.nodup⟩
    refine (List.Perm.nodup_iff ?_).1 this
    exact (List.Perm.swap _ _ _).trans (List.Perm.cons _ (List.perm_append_singleton _ _).symm)
  · refine (((((Keeps.refl _ w).setCell _ _ fun _ => ?_).setCell _ _ fun _ => ?_).setCell _ _ fun _ => ?_).setCell _ _ fun _ => ?_).drew
    · exact ⟨p, by simp, rfl⟩
    · exact ⟨p, by simp, rfl⟩
    · exact ⟨nx, by simp at mx1 ⊢; rcases mx1 with h | h <;> simp [h], mx2⟩
    · exact ⟨e, by simp, rfl⟩

end Go.Proofs.YtipejahmjdamjaaGreatDoor.Ch
