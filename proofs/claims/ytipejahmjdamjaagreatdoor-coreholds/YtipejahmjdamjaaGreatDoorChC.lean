import Derived.Test.YtipejahmjdamjaaGreatDoorChRing
import Derived.Below
import Derived.Test.YtipejahmjdamjaaGreatDoorProg
import Derived.WalkKit
import Derived.WalkSpells
import Derived.WalkLawsBesides
import Derived.Deep.QuietTactic
import Derived.BigQuiet
import Derived.BigRegion
import Derived.Maps.OwnSet
import Derived.Shelf.Abstract
import Derived.StillTail
import Derived.StillTailTactics
namespace Go.Proofs.YtipejahmjdamjaaGreatDoor.Ch
open Go.RowKit
set_option linter.unusedVariables false

/-- The numbers of an instance's types. -/
structure Ty where
  s : TypeId
  p : TypeId
  k : TypeId

def mapOf (xs : List N) : List (Value × Value) := xs.map fun x => (.int .i64 x.key, ptr x.blk)

/-- A shelf in the memory: its block, its map's, its end, its places. -/
structure Sh (P : Program) (T : Ty) (w : World) (s m : Nat) (e : N) (room : Nat) (xs : List N) (nw od : Nat → Nat) : Prop where
  blk : Blk w s [.int .i64 room, .map (some m), ptr e.blk] T.s
  map : MapIs P T.k w m (mapOf xs)
  ring : Rg w T.p e xs nw od
  sm : s ≠ m
  sx : ∀ x ∈ e :: xs, x.blk ≠ s
  mx : ∀ x ∈ e :: xs, x.blk ≠ m
  lo : 1 ≤ room
  hi : room ≤ 4096
  fits : xs.length ≤ room

/-- The blocks of a shelf. -/
def Own (s m : Nat) (e : N) (xs : List N) (b : Nat) : Prop := b = s ∨ b = m ∨ ∃ x ∈ e :: xs, b = x.blk

/-- What is on a shelf, the least lately used first; all its blocks are among F. -/
def Shelf (P : Program) (T : Ty) (w : World) (s : Nat) (room : Nat) (ks : List Int) (F : Nat → Prop) : Prop :=
  ∃ m e xs nw od, Sh P T w s m e room xs nw od ∧ ks = xs.map N.key ∧ (∀ b, Own s m e xs b → F b) ∧ ∀ b, F b → b < w.heap.size

section
variable {P : Program} {T : Ty} {w w' : World} {s m room : Nat} {e : N} {xs : List N} {nw od : Nat → Nat} {ks : List Int} {F : Nat → Prop}

theorem Sh.kept {S : Nat → Prop} (h : Sh P T w s m e room xs nw od) (hK : Keeps S w w') (hn : ∀ b, Own s m e xs b → ¬ S b) : Sh P T w' s m e room xs nw od :=
  ⟨h.blk.kept hK (hn s (.inl rfl)), h.map.kept hK (hn m (.inr (.inl rfl))), h.ring.kept hK (fun x hx => hn _ (.inr (.inr ⟨x, hx, rfl⟩))), h.sm, h.sx, h.mx, h.lo, h.hi, h.fits⟩

theorem Shelf.kept {S : Nat → Prop} (h : Shelf P T w s room ks F) (hK : Keeps S w w') (hn : ∀ b, F b → ¬ S b) : Shelf P T w' s room ks F := by
  obtain ⟨m, e, xs, nw, od, h1, h2, h3, h4⟩ := h
  exact ⟨m, e, xs, nw, od, h1.kept hK fun b hb => hn b (h3 b hb), h2, h3, fun b hb => Nat.lt_of_lt_of_le (h4 b hb) hK.size⟩

theorem Shelf.lt (h : Shelf P T w s room ks F) : ∀ b, F b → b < w.heap.size := by
  obtain ⟨m, e, xs, nw, od, h1, h2, h3, h4⟩ := h
  exact h4
theorem Shelf.self (h : Shelf P T w s room ks F) : F s := by
  obtain ⟨m, e, xs, nw, od, h1, h2, h3, h4⟩ := h
  exact h3 s (.inl rfl)
theorem Shelf.fits (h : Shelf P T w s room ks F) : ks.length ≤ room := by
  obtain ⟨m, e, xs, nw, od, h1, rfl, h3, h4⟩ := h
  simpa using h1.fits
theorem Shelf.bounds (h : Shelf P T w s room ks F) : 1 ≤ room ∧ room ≤ 4096 := by
  obtain ⟨m, e, xs, nw, od, h1, rfl, h3, h4⟩ := h
  exact ⟨h1.lo, h1.hi⟩

/-- The keys are unlike. -/
theorem Sh.keys (h : Sh P T w s m e room xs nw od) : (xs.map N.key).Nodup := by
  obtain ⟨es, c, _, _, h3, _⟩ := h.map
  unfold mapOf at h3
  rw [List.map_map] at h3
  have : (xs.map N.key).map (fun k : Int => Value.int .i64 k) = List.map (Prod.fst ∘ fun x : N => (Value.int .i64 x.key, ptr x.blk)) xs := by
    rw [List.map_map]; rfl
  rw [← this] at h3
  refine List.Pairwise.of_map _ (fun a b hab e => hab (by rw [e])) h3
theorem Shelf.keys (h : Shelf P T w s room ks F) : ks.Nodup := by
  obtain ⟨m, e, xs, nw, od, h1, rfl, h3, h4⟩ := h
  exact h1.keys
end

/-! ### What is found, and what goes -/
/-- A list either has the key at one place, or not. -/
theorem key_split (k : Int) (xs : List N) : (∃ A x C, xs = A ++ x :: C ∧ x.key = k) ∨ ∀ x ∈ xs, x.key ≠ k := by
  by_cases h : ∃ x ∈ xs, x.key = k
  · obtain ⟨x, hx, hk⟩ := h
    obtain ⟨A, C, rfl⟩ := List.append_of_mem hx
    exact .inl ⟨A, x, C, rfl, hk⟩
  · refine .inr fun x hx hk => h ⟨x, hx, hk⟩

theorem erase_split {A C : List Int} {k : Int} (h : (A ++ k :: C).Nodup) : (A ++ k :: C).erase k = A ++ C := by
  have : k ∉ A := fun hm => by
    rw [List.nodup_append] at h
    exact h.2.2 k hm k (by simp) rfl
  rw [List.erase_append_right _ this]
  simp

theorem Sh.cells {P : Program} {T : Ty} {w : World} {s m room : Nat} {e : N} {xs : List N} {nw od : Nat → Nat} (h : Sh P T w s m e room xs nw od) :
    w.cell? ⟨s, 0, none⟩ = some (.int .i64 room) ∧ w.cell? ⟨s, 1, none⟩ = some (.map (some m)) ∧ w.cell? ⟨s, 2, none⟩ = some (ptr e.blk) :=
  ⟨h.blk.cell rfl, h.blk.cell rfl, h.blk.cell rfl⟩

theorem Sh.drewN {P : Program} {T : Ty} {w : World} {s m room : Nat} {e : N} {xs : List N} {nw od : Nat → Nat} (h : Sh P T w s m e room xs nw od) (n : Nat) : Sh P T (w.drewN n) s m e room xs nw od :=
  h.kept (S := fun _ => False) ((Keeps.refl _ w).drewN n) fun _ _ h => h

theorem Sh.lt {P : Program} {T : Ty} {w : World} {s m room : Nat} {e : N} {xs : List N} {nw od : Nat → Nat} (h : Sh P T w s m e room xs nw od) : ∀ b, Own s m e xs b → b < w.heap.size := by
  rintro b (rfl | rfl | ⟨z, hz, rfl⟩)
  · exact h.blk.lt
  · exact h.map.lt
  · exact (h.ring.nodes z hz).lt


/-- The place at a number, behind the last one the end. -/
def atN (e : N) (xs : List N) (j : Nat) : Nat := ((xs.map N.blk ++ [e.blk])[j]?).getD 0

theorem chain_next {nw od : Nat → Nat} : ∀ {p q : Nat} {A : List Nat}, Chain nw od p A q → ∀ (j b : Nat), (p :: A)[j]? = some b → (A ++ [q])[j]? = some (nw b)
  | p, q, [], h, j, b, hj => by
    cases j with
    | zero => simp at hj; subst hj; simp [h.1]
    | succ j => simp at hj
  | p, q, a :: A, h, j, b, hj => by
    cases j with
    | zero => simp at hj; subst hj; simp [h.1]
    | succ j => simpa using chain_next h.2.2 j b (by simpa using hj)

theorem Sh.first {P : Program} {T : Ty} {w : World} {s m room : Nat} {e : N} {xs : List N} {nw od : Nat → Nat} (h : Sh P T w s m e room xs nw od) : w.cell? ⟨e.blk, 2, none⟩ = some (ptr (atN e xs 0)) := by
  have h1 := chain_next h.ring.chain 0 e.blk rfl
  unfold atN
  rw [h1]
  exact (h.ring.nodes e (by simp)).cell rfl
theorem Sh.next {P : Program} {T : Ty} {w : World} {s m room : Nat} {e : N} {xs : List N} {nw od : Nat → Nat} (h : Sh P T w s m e room xs nw od) (j : Nat) (x : N) (hj : xs[j]? = some x) :
    atN e xs j = x.blk ∧ w.cell? ⟨x.blk, 2, none⟩ = some (ptr (atN e xs (j + 1))) ∧ w.cell? ⟨x.blk, 0, none⟩ = some (.int .i64 x.key) ∧ x.blk ≠ e.blk := by
  have hm : x ∈ xs := List.mem_of_getElem? hj
  have hlt := (List.getElem?_eq_some_iff.1 hj).1
  have h1 := chain_next h.ring.chain (j + 1) x.blk (by simp [hj])
  have hn := h.ring.nodes x (by simp [hm])
  refine ⟨?_, ?_, hn.cell rfl, fun he => ?_⟩
  · unfold atN
    rw [List.getElem?_append_left (by simpa using hlt)]
    simp [hj]
  · unfold atN
    rw [h1]
    exact hn.cell rfl
  · exact (List.nodup_cons.1 h.ring.nodup).1 (by rw [← he]; exact List.mem_map.2 ⟨x, hm, rfl⟩)
theorem atN_end (e : N) (xs : List N) : atN e xs xs.length = e.blk := by
  unfold atN
  rw [List.getElem?_append_right (by simp)]
  simp

end Go.Proofs.YtipejahmjdamjaaGreatDoor.Ch
namespace Go.Proofs.YtipejahmjdamjaaGreatDoor.Ch
open Go.RowKit Go.Shelf
set_option linter.unusedVariables false

set_option maxHeartbeats 1000000 in
theorem leave_walk (p x y : Nat) (w : World) (c2 : w.cell? ⟨p, 1, none⟩ = some (ptr x)) (c3 : w.cell? ⟨p, 2, none⟩ = some (ptr y)) (f1 : w.frozen? ⟨x, 2, none⟩ = false) (f2 : w.frozen? ⟨y, 1, none⟩ = false)
    (d1 : ∃ v, w.cell? ⟨x, 2, none⟩ = some v) (d2 : ∃ v, w.cell? ⟨y, 1, none⟩ = some v) (hpx : p ≠ x) (hpy : p ≠ y) :
    Calls Tryz.prog 165 #[ptr p] w fun e w' => e = .returned (.tuple #[]) ∧ w' = ((w.setCell ⟨x, 2, none⟩ (ptr y)).setCell ⟨y, 1, none⟩ (ptr x)).drew := by
  obtain ⟨v1, d1⟩ := d1
  obtain ⟨v2, d2⟩ := d2
  go_enter Tryz.func165, Tryz.ntmps165
  go_wp2
  go_region
  go_wp2
  go_end0
  exact ⟨rfl, rfl⟩

set_option maxHeartbeats 1000000 in
theorem enter_walk (p l e : Nat) (w : World) (c2 : w.cell? ⟨e, 1, none⟩ = some (ptr l)) (g1 : w.frozen? ⟨p, 1, none⟩ = false) (g2 : w.frozen? ⟨p, 2, none⟩ = false) (f1 : w.frozen? ⟨l, 2, none⟩ = false) (f2 : w.frozen? ⟨e, 1, none⟩ = false)
    (b1 : ∃ v, w.cell? ⟨p, 1, none⟩ = some v) (b2 : ∃ v, w.cell? ⟨p, 2, none⟩ = some v) (d1 : ∃ v, w.cell? ⟨l, 2, none⟩ = some v) (hpl : p ≠ l) (hpe : p ≠ e) :
    Calls Tryz.prog 166 #[ptr p, ptr e] w fun r w' => r = .returned (.tuple #[]) ∧ w' = ((((w.setCell ⟨p, 1, none⟩ (ptr l)).setCell ⟨p, 2, none⟩ (ptr e)).setCell ⟨l, 2, none⟩ (ptr p)).setCell ⟨e, 1, none⟩ (ptr p)).drew := by
  obtain ⟨v1, d1⟩ := d1
  obtain ⟨v2, b1⟩ := b1
  obtain ⟨v3, b2⟩ := b2
  go_enter Tryz.func166, Tryz.ntmps166
  go_wp2
  go_region
  go_wp2
  go_end0
  exact ⟨rfl, rfl⟩

/-- The numbers of this instance's types. -/
def T : Ty := ⟨179, 176, 3⟩

theorem leave_any (e p : N) (A C : List N) (nw od : Nat → Nat) (w : World) (h : Rg w 176 e (A ++ p :: C) nw od) :
    Calls Tryz.prog 165 #[ptr p.blk] w fun r w' => r = .returned (.tuple #[]) ∧ (∃ nw' od', Rg w' 176 e (A ++ C) nw' od') ∧ Keeps (fun b => ∃ x ∈ e :: (A ++ C), b = x.blk) w w' := by
  have hc := h.chain
  have hd := h.nodup
  rw [List.map_append, List.map_cons] at hc hd
  obtain ⟨h1, h2⟩ := Chain.split.1 hc
  have hx := h1.prev_mem
  have hy := h2.next_mem
  have hp := h.nodes p (by simp)
  have mx : ∃ x ∈ e :: A, od p.blk = x.blk := by
    rcases List.mem_cons.1 hx with h | h
    · exact ⟨e, by simp, h⟩
    · obtain ⟨z, hz, hz2⟩ := List.mem_map.1 h
      exact ⟨z, by simp [hz], hz2.symm⟩
  have my : ∃ x ∈ e :: C, nw p.blk = x.blk := by
    rcases List.mem_append.1 hy with h | h
    · obtain ⟨z, hz, hz2⟩ := List.mem_map.1 h
      exact ⟨z, by simp [hz], hz2.symm⟩
    · exact ⟨e, by simp, by simpa using h⟩
  obtain ⟨nx, mx1, mx2⟩ := mx
  obtain ⟨ny, my1, my2⟩ := my
  have bx := h.nodes nx (by simp at mx1 ⊢; rcases mx1 with h | h <;> simp [h])
  have by' := h.nodes ny (by simp at my1 ⊢; rcases my1 with h | h <;> simp [h])
  have out : p.blk ∉ e.blk :: (A ++ C).map N.blk := by
    intro hm
    have : (p.blk :: (e.blk :: (A ++ C).map N.blk)).Nodup := by
      refine (List.Perm.nodup_iff ?_).1 hd
      rw [List.map_append]
      exact (List.Perm.cons _ List.perm_middle).trans (List.Perm.swap _ _ _)
    exact (List.nodup_cons.1 this).1 hm
  have hpx : p.blk ≠ od p.blk := fun he => out (by
    rw [he, mx2]; simp at mx1 ⊢
    rcases mx1 with h | h
    · exact .inl (by rw [h])
    · exact .inr (.inl ⟨nx, h, rfl⟩))
  have hpy : p.blk ≠ nw p.blk := fun he => out (by
    rw [he, my2]; simp at my1 ⊢
    rcases my1 with h | h
    · exact .inl (by rw [h])
    · exact .inr (.inr ⟨ny, h, rfl⟩))
  refine (leave_walk p.blk (od p.blk) (nw p.blk) w (hp.cell rfl) (hp.cell rfl) (by rw [mx2]; exact bx.frozen 2) (by rw [my2]; exact by'.frozen 1) (by rw [mx2]; exact ⟨_, bx.cell rfl⟩) (by rw [my2]; exact ⟨_, by'.cell rfl⟩) hpx hpy).mono ?_
  rintro r w' ⟨rfl, rfl⟩
  refine ⟨rfl, ⟨_, _, ⟨?_, ?_, ((h.nodes.sub ?_).setNew (od p.blk) (nw p.blk)).setOld (nw p.blk) (od p.blk)⟩⟩, ?_⟩
  · rw [List.map_append]; exact hc.leave hd
  · rw [List.map_append]
    refine hd.sublist ?_
    simp
  · intro z hz
    simp at hz ⊢
    rcases hz with h | h | h <;> simp [h]
  · refine (((Keeps.refl _ w).setCell _ _ fun _ => ?_).setCell _ _ fun _ => ?_).drew
    · exact ⟨nx, by simp at mx1 ⊢; rcases mx1 with h | h <;> simp [h], mx2⟩
    · exact ⟨ny, by simp at my1 ⊢; rcases my1 with h | h <;> simp [h], my2⟩

theorem enter_any (e p : N) (xs : List N) (nw od : Nat → Nat) (w : World) (u v : Value) (h : Rg w 176 e xs nw od) (hp : Blk w p.blk [.int .i64 p.key, u, v] 176) (hn : ∀ x ∈ e :: xs, p.blk ≠ x.blk) :
    Calls Tryz.prog 166 #[ptr p.blk, ptr e.blk] w fun r w' => r = .returned (.tuple #[]) ∧ (∃ nw' od', Rg w' 176 e (xs ++ [p]) nw' od') ∧ Keeps (fun b => ∃ x ∈ e :: (xs ++ [p]), b = x.blk) w w' := by
  have hx := h.chain.prev_mem
  have mx : ∃ x ∈ e :: xs, od e.blk = x.blk := by
    rcases List.mem_cons.1 hx with h | h
    · exact ⟨e, by simp, h⟩
    · obtain ⟨z, hz, hz2⟩ := List.mem_map.1 h
      exact ⟨z, by simp [hz], hz2.symm⟩
  obtain ⟨nx, mx1, mx2⟩ := mx
  have bx := h.nodes nx mx1
  have be := h.nodes e (by simp)
  have hpe := hn e (by simp)
  have hpl : p.blk ≠ od e.blk := by rw [mx2]; exact hn nx mx1
  have hout : p.blk ∉ e.blk :: xs.map N.blk := by
    intro hm
    rcases List.mem_cons.1 hm with h | h
    · exact hpe h
    · obtain ⟨z, hz, hz2⟩ := List.mem_map.1 h
      exact hn z (by simp [hz]) hz2.symm
  refine (enter_walk p.blk (od e.blk) e.blk w (be.cell rfl) (hp.frozen 1) (hp.frozen 2) (by rw [mx2]; exact bx.frozen 2) (be.frozen 1) ⟨_, hp.cell rfl⟩ ⟨_, hp.cell rfl⟩ (by rw [mx2]; exact ⟨_, bx.cell rfl⟩) hpl hpe).mono ?_
  rintro r w' ⟨rfl, rfl⟩
  have n0 : Nodes ((w.setCell ⟨p.blk, 1, none⟩ (ptr (od e.blk))).setCell ⟨p.blk, 2, none⟩ (ptr e.blk)) 176 (e :: (xs ++ [p])) (upd nw p.blk e.blk) (upd od p.blk (od e.blk)) := by
    intro z hz
    by_cases hzp : z.blk = p.blk
    · have hz' : z = p := by
        have : z ∈ (e :: xs) ∨ z = p := by simp at hz ⊢; rcases hz with h | h | h <;> simp [h]
        rcases this with h | h
        · exact absurd hzp.symm (hn z h)
        · exact h
      subst hz'
      rw [upd_same, upd_same]
      exact (hp.setCell 1 (ptr (od e.blk))).setCell 2 (ptr e.blk)
    · have hz' : z ∈ e :: xs := by
        simp at hz ⊢
        rcases hz with h | h | h
        · exact .inl h
        · exact .inr h
        · rw [h] at hzp; exact absurd rfl hzp
      rw [upd_ne _ _ hzp, upd_ne _ _ hzp]
      exact ((h.nodes z hz').setCell_ne hzp _).setCell_ne hzp _
  refine ⟨rfl, ⟨_, _, ⟨?_, ?_, (n0.setNew (od e.blk) p.blk).setOld e.blk p.blk⟩⟩, ?_⟩
  · rw [List.map_append]; exact h.chain.enter h.nodup hout
  · rw [List.map_append]
    have : (p.blk :: e.blk :: xs.map N.blk).Nodup := List.nodup_cons.2 ⟨hout, h.nodup⟩
    refine (List.Perm.nodup_iff ?_).1 this
    exact (List.Perm.swap _ _ _).trans (List.Perm.cons _ (List.perm_append_singleton _ _).symm)
  · refine (((((Keeps.refl _ w).setCell _ _ fun _ => ?_).setCell _ _ fun _ => ?_).setCell _ _ fun _ => ?_).setCell _ _ fun _ => ?_).drew
    · exact ⟨p, by simp, rfl⟩
    · exact ⟨p, by simp, rfl⟩
    · exact ⟨nx, by simp at mx1 ⊢; rcases mx1 with h | h <;> simp [h], mx2⟩
    · exact ⟨e, by simp, rfl⟩

end Go.Proofs.YtipejahmjdamjaaGreatDoor.Ch
namespace Go.Proofs.YtipejahmjdamjaaGreatDoor.Ch
open Go.RowKit Go.Shelf
set_option linter.unusedVariables false

abbrev I64 (k : Int) : Prop := -9223372036854775808 ≤ k ∧ k ≤ 9223372036854775807

theorem keyed : Maps.Keyed Tryz.prog 3 := Maps.int_keyed Tryz.underlying3
theorem key_of {k : Int} (h : I64 k) : keyOf Tryz.prog 3 (.int .i64 k) = some (.int .i64 k) := by
  refine Maps.keyOf_int_mk Tryz.underlying3 ?_
  have h1 : IntKind.i64.min = -9223372036854775808 := rfl
  have h2 : IntKind.i64.max = 9223372036854775807 := rfl
  simp [Lit.wf, h1, h2]
  omega

/-- The builtins and the map's operations, where their run is known. -/
theorem wpList_lookup_run {ops : Array Oper} {rest : List Oper} {o : Oper} {a : Act} {Q : Exit → Act → World → Prop} {P : Program} {w : World} (hgd : o.guard = none) (m x : Operand) (t : TypeId)
    (ho : o.op = .lookup t m x false) (vm vx v' : Value) (hm : a.eval m = vm) (hx : a.eval x = vx)
    (hr : (Instr.lookup t vm vx false).run P w = .ok v' w) (h : wpList P ops Q rest (a.put o.dst v') w) : wpList P ops Q (o :: rest) a w :=
  wpList_plain hgd fun _ hK => by
    unfold Oper.wp execOp
    simp only [ho, hm, hx, hr, Sem.run_bind, Sem.run_pure, Result.andThen_ok]
    exact hK _ _ h

theorem wpList_update_run {ops : Array Oper} {rest : List Oper} {o : Oper} {a : Act} {Q : Exit → Act → World → Prop} {P : Program} {w w' : World} (hgd : o.guard = none) (m x v : Operand) (t : TypeId)
    (ho : o.op = .mapUpdate t m x v) (vm vx vv : Value) (hm : a.eval m = vm) (hx : a.eval x = vx) (hv : a.eval v = vv)
    (hr : (Instr.mapUpdate t vm vx vv).run P w = .ok () w') (h : wpList P ops Q rest (a.put o.dst undef) w') : wpList P ops Q (o :: rest) a w :=
  wpList_plain hgd fun _ hK => by
    unfold Oper.wp
    simp [execOp, ho, hm, hx, hv, hr, Result.andThen]
    exact hK _ _ h

theorem wpList_len_run {ops : Array Oper} {rest : List Oper} {o : Oper} {a : Act} {Q : Exit → Act → World → Prop} {P : Program} {w : World} (hgd : o.guard = none) (m : Operand) (t : TypeId)
    (ho : o.op = .call { callee := .builtin .len, args := #[m], argTypes := #[t] }) (vm v' : Value) (hm : a.eval m = vm)
    (hr : ∀ ty, (Builtin.len_ #[t] ty #[vm]).run P w = .ok v' w) (h : wpList P ops Q rest (a.put o.dst v') w) : wpList P ops Q (o :: rest) a w :=
  wpList_plain hgd fun _ hK => by
    unfold Oper.wp execOp
    simp only [ho, resolve, invoke, builtin, Sem.run_bind, Sem.run_pure, Result.andThen_ok, List.map_toArray, List.map_cons, List.map_nil, hm, hr]
    exact hK _ _ h

theorem find_walk (s m : Nat) (k : Int) (v : Value) (w : World) (c1 : w.cell? ⟨s, 1, none⟩ = some (.map (some m))) (HL : Hid ((Instr.lookup 177 (.map (some m)) (.int .i64 k) false).run Tryz.prog w = .ok v w)) :
    Calls Tryz.prog 118 #[ptr s, .int .i64 k] w fun r w' => r = .returned v ∧ w' = w := by
  go_enter Tryz.func118, Tryz.ntmps118
  go_wp2_with (at_lookup; refine wpList_lookup_run rfl (.tmp 10) (.tmp 11) 177 rfl (.map (some m)) (.int .i64 k) v rfl rfl HL.out ?_)
  go_ret
  exact ⟨rfl, rfl⟩

theorem zeroPP (w : World) : (zeroValue 172).run Tryz.prog w = .ok (.pointer none) w := by kernel_rfl

theorem find_none (s m : Nat) (e : N) (room : Nat) (xs : List N) (nw od : Nat → Nat) (k : Int) (w : World) (h : Sh Tryz.prog T w s m e room xs nw od) (hk : I64 k) (hn : ∀ x ∈ xs, x.key ≠ k) :
    Calls Tryz.prog 118 #[ptr s, .int .i64 k] w fun r w' => r = .returned (.pointer none) ∧ w' = w := by
  refine find_walk s m k _ w h.cells.2.1 (h.map.look_none keyed Tryz.underlying177 (zeroPP w) (key_of hk) ?_)
  intro p hp he
  obtain ⟨x, hx, rfl⟩ := List.mem_map.1 hp
  simp at he
  exact hn x hx he

theorem find_some (s m : Nat) (e x : N) (room : Nat) (A C : List N) (nw od : Nat → Nat) (w : World) (h : Sh Tryz.prog T w s m e room (A ++ x :: C) nw od) (hk : I64 x.key) :
    Calls Tryz.prog 118 #[ptr s, .int .i64 x.key] w fun r w' => r = .returned (ptr x.blk) ∧ w' = w := by
  refine find_walk s m x.key _ w h.cells.2.1 (h.map.look_some keyed Tryz.underlying177 (key_of hk) ?_)
  simp [mapOf]

theorem find_nil (k : Int) (w : World) : Calls Tryz.prog 118 #[.pointer none, .int .i64 k] w fun r w' => r = .returned (.pointer none) ∧ w' = w := by
  go_enter Tryz.func118, Tryz.ntmps118
  go_wp2
  go_ret
  exact ⟨rfl, rfl⟩

theorem load0 (a : Addr) (w : World) : (loadVar 133 a).run Tryz.prog w = .ok (.agg #[]) w := by
  simp [go_sem, loadVar, loadCells]

theorem results_cell_tmp {P : Program} {fn : Func} {p u : Tmp} {ty : TypeId} (h : fn.results = #[.cell p ty, .tmp u]) (tmps : Array Value) (w : World) (a : Addr) (v : Value)
    (hp : tmps.getD p undef = .pointer (some a)) (hl : (loadVar ty a).run P w = .ok v w) : (results fn tmps).run P w = .ok (.tuple #[v, tmps.getD u undef]) w := by
  have hp' : tmps[p]?.getD undef = .pointer (some a) := by simpa using hp
  simp [results, h, hp', asAddr, hl]

theorem part_run {w : World} {b : Nat} {l : List Value} (h : Blk w b l 176) : (partAt ⟨b, 0, none⟩ 1 8).run Tryz.prog w = .ok ⟨b, 1, some 8⟩ w := by
  have h1 : w.heap[b]? = some (.cells l.toArray 176 (0, 0)) := h
  have e0 : byteOfCell Tryz.prog Tryz.prog.depth 176 0 = some 0 := by kernel_rfl
  have e1 : byteOfCell Tryz.prog Tryz.prog.depth 176 1 = some 16 := by kernel_rfl
  have e2 : Tryz.prog.cellsOf 176 = 3 := by kernel_rfl
  have es : w.shape? b = some (176, l.length) := by simp [World.shape?, h1]
  have ev : (viewAt b).run Tryz.prog w = .ok none w := by simp [viewAt, es]
  have es : (Sem.shape b Sem.pure).run Tryz.prog w = .ok (some (176, l.length)) w := by simp [Sem.run, es]
  simp [partAt, byteOf, noView, ev, es, shape, e0, e1, e2]

theorem told_some (b : Nat) (l : List Value) (w : World) (h : Blk w b l 176) : Calls Tryz.prog 201 #[ptr b] w fun r w' => r = .returned (.tuple #[.agg #[], .bool true]) ∧ Keeps (fun _ => False) w w' := by
  have hp := part_run (h.alloc (.cells #[] 133))
  clear h
  go_enter Tryz.func201, Tryz.ntmps201
  go_wp2
  (try simp only [Exit.inBlock, Exit.then])
  refine bodyPost_ret (results_cell_tmp rfl _ _ _ (.agg #[]) rfl (load0 _ _)) rfl ?_
  exact ⟨rfl, (Keeps.refl _ w).alloc _⟩

theorem told_none (w : World) : Calls Tryz.prog 201 #[.pointer none] w fun r w' => r = .returned (.tuple #[.agg #[], .bool false]) ∧ Keeps (fun _ => False) w w' := by
  go_enter Tryz.func201, Tryz.ntmps201
  go_wp2
  (try simp only [Exit.inBlock, Exit.then])
  refine bodyPost_ret (results_cell_tmp rfl _ _ _ (.agg #[]) rfl (load0 _ _)) rfl ?_
  exact ⟨rfl, ((Keeps.refl _ w).alloc _).alloc _⟩

/-- One place more. -/
theorem perm_last {α : Type} (A : List α) (x : α) (C : List α) : (A ++ x :: C).Perm (A ++ C ++ [x]) := by
  rw [List.append_assoc]
  exact List.Perm.append_left A (List.perm_append_singleton x C).symm

set_option maxHeartbeats 400000 in
theorem renew_any (s m : Nat) (e x : N) (room : Nat) (A C : List N) (nw od : Nat → Nat) (w : World) (h : Sh Tryz.prog T w s m e room (A ++ x :: C) nw od) :
    Calls Tryz.prog 119 #[ptr s, ptr x.blk] w fun r w' => r = .returned (.tuple #[]) ∧ (∃ nw' od', Sh Tryz.prog T w' s m e room (A ++ C ++ [x]) nw' od') ∧ Keeps (Own s m e (A ++ x :: C)) w w' := by
  have HC : Hid (Calls _ _ _ _ _) := leave_any e x A C nw od w h.ring
  have HS : Hid (Sh Tryz.prog T w s m e room (A ++ x :: C) nw od) := h
  clear h
  go_enter Tryz.func119, Tryz.ntmps119
  go_wp2_with fail
  refine HC.out.mono ?_
  rintro r w1 ⟨rfl, ⟨nw1, od1, hR⟩, hK⟩
  have hS := HS.out
  have nd : (e.blk :: (A ++ x :: C).map N.blk).Nodup := hS.ring.nodup
  have hnx : ∀ z ∈ e :: (A ++ C), x.blk ≠ z.blk := by
    have h1 : (x.blk :: e.blk :: (A ++ C).map N.blk).Nodup := by
      refine (List.Perm.nodup_iff ?_).1 nd
      rw [List.map_append, List.map_cons, List.map_append]
      exact (List.Perm.cons _ List.perm_middle).trans (List.Perm.swap _ _ _)
    intro z hz he
    refine (List.nodup_cons.1 h1).1 ?_
    rw [he]
    rcases List.mem_cons.1 hz with h | h
    · simp [h]
    · exact List.mem_cons_of_mem _ (List.mem_map.2 ⟨z, h, rfl⟩)
  have hsub : ∀ z ∈ e :: (A ++ C), z ∈ e :: (A ++ x :: C) := by
    intro z hz; simp at hz ⊢; rcases hz with h | h | h <;> simp [h]
  have b1 : Blk w1 s [.int .i64 room, .map (some m), ptr e.blk] 179 := hS.blk.kept hK fun ⟨z, hz, he⟩ => hS.sx z (hsub z hz) he.symm
  have m1 : MapIs Tryz.prog 3 w1 m (mapOf (A ++ x :: C)) := hS.map.kept hK fun ⟨z, hz, he⟩ => hS.mx z (hsub z hz) he.symm
  have x1 := (hS.ring.nodes x (by simp)).kept hK fun ⟨z, hz, he⟩ => hnx z hz he
  have c2 := b1.cell (i := 2) rfl
  have HC2 : Hid (Calls _ _ _ _ _) := enter_any e x (A ++ C) nw1 od1 w1 _ _ hR x1 hnx
  have H1 : Hid (_ ∧ _ ∧ _ ∧ Keeps _ w w1) := ⟨b1, m1, hnx, hK⟩
  clear hS nd hsub b1 m1 x1 hnx hK hR HC
  go_wp2_with fail
  refine HC2.out.mono ?_
  rintro r w2 ⟨rfl, ⟨nw2, od2, hR2⟩, hK2⟩
  obtain ⟨b1, m1, hnx, hK⟩ := H1.out
  have H2 : Hid (Rg w2 176 e (A ++ C ++ [x]) nw2 od2 ∧ Blk w1 s [.int .i64 room, .map (some m), ptr e.blk] 179 ∧ MapIs Tryz.prog 3 w1 m (mapOf (A ++ x :: C)) ∧ Keeps (fun b => ∃ z ∈ e :: (A ++ C), b = z.blk) w w1 ∧ Keeps (fun b => ∃ z ∈ e :: (A ++ C ++ [x]), b = z.blk) w1 w2) := ⟨hR2, b1, m1, hK, hK2⟩
  clear H1 b1 m1 hnx hK hK2 hR2 HC2 c2
  go_wp2
  go_end0
  obtain ⟨hR2, b1, m1, hK, hK2⟩ := H2.out
  have hS := HS.out
  have hall : ∀ z ∈ e :: (A ++ C ++ [x]), z ∈ e :: (A ++ x :: C) := by
    intro z hz; simp at hz ⊢; rcases hz with h | h | h | h <;> simp [h]
  refine ⟨rfl, ⟨nw2, od2, ⟨b1.kept hK2 fun ⟨z, hz, he⟩ => hS.sx z (hall z hz) he.symm, (m1.perm ?_).kept hK2 fun ⟨z, hz, he⟩ => hS.mx z (hall z hz) he.symm, hR2, hS.sm, fun z hz => hS.sx z (hall z hz), fun z hz => hS.mx z (hall z hz), hS.lo, hS.hi, ?_⟩⟩, ?_⟩
  · exact (perm_last A x C).map _
  · have := hS.fits; simp at this ⊢; omega
  · refine (hK.mono fun b _ ⟨z, hz, he⟩ => .inr (.inr ⟨z, ?_, he⟩)).trans hK2 fun b _ ⟨z, hz, he⟩ => .inr (.inr ⟨z, hall z hz, he⟩)
    simp at hz ⊢; rcases hz with h | h | h <;> simp [h]

end Go.Proofs.YtipejahmjdamjaaGreatDoor.Ch
namespace Go.Proofs.YtipejahmjdamjaaGreatDoor.Ch
open Go.RowKit Go.Shelf
set_option linter.unusedVariables false
set_option maxRecDepth 6000

theorem Tryz.mixed : Tryz.prog.follows Departure.mixedOrders = true := by kernel_rfl

/-- A region whose last operations must come last, each in its turn; those ahead of them only read. -/
theorem region_tail {id : Nat} {Q : Exit → Act → World → Prop} {a : Act} {w : World} {l : List Oper} (n : Nat) (hB : Region.lexTailB .any l.toArray n = true)
    (h : wpStill Tryz.prog l.toArray (w.drewN 1) (fun a' => wpList Tryz.prog l.toArray Q (l.drop n) a' (w.drewN 1)) (l.take n) a) : (Code.region id l.toArray true).wp Tryz.prog Q a w :=
  wp_region_still_tail n Tryz.mixed hB h

theorem wpList_delete_run {ops : Array Oper} {rest : List Oper} {o : Oper} {a : Act} {Q : Exit → Act → World → Prop} {P : Program} {w w' : World} (hgd : o.guard = none) (m x : Operand) (t k : TypeId)
    (ho : o.op = .call { callee := .builtin .delete, args := #[m, x], argTypes := #[t, k] }) (vm vx v' : Value) (hm : a.eval m = vm) (hx : a.eval x = vx)
    (hr : ∀ ty, (Builtin.delete_ #[t, k] ty #[vm, vx]).run P w = .ok v' w') (h : wpList P ops Q rest (a.put o.dst v') w') : wpList P ops Q (o :: rest) a w :=
  wpList_plain hgd fun _ hK => by
    unfold Oper.wp execOp
    simp only [ho, resolve, invoke, builtin, Sem.run_bind, Sem.run_pure, Result.andThen_ok, List.map_toArray, List.map_cons, List.map_nil, hm, hx, hr]
    exact hK _ _ h

set_option maxHeartbeats 400000 in
theorem remove_any (s m : Nat) (e x : N) (room : Nat) (A C : List N) (nw od : Nat → Nat) (w : World) (h : Sh Tryz.prog T w s m e room (A ++ x :: C) nw od) (hk : I64 x.key) :
    Calls Tryz.prog 121 #[ptr s, ptr x.blk] w fun r w' => r = .returned (.tuple #[]) ∧ (∃ nw' od', Sh Tryz.prog T w' s m e room (A ++ C) nw' od') ∧ Keeps (Own s m e (A ++ x :: C)) w w' ∧ w'.cell? ⟨x.blk, 0, none⟩ = some (.int .i64 x.key) := by
  have c1 := h.cells.2.1
  have hx := h.ring.nodes x (by simp)
  have k0 := hx.cell (i := 0) rfl
  have hm1 : MapIs Tryz.prog 3 (w.drewN 1) m (mapOf A ++ (.int .i64 x.key, ptr x.blk) :: mapOf C) := by
    have := (h.drewN 1).map
    simp [mapOf] at this ⊢
    exact this
  obtain ⟨w1, hr, hm2, hK1⟩ := hm1.drop keyed Tryz.underlying177 (key_of hk)
  have HD : Hid (∀ ty, (Builtin.delete_ #[177, 3] ty #[.map (some m), .int .i64 x.key]).run Tryz.prog (w.drewN 1) = .ok (.tuple #[]) w1) := hr
  have hR1 : Rg w1 176 e (A ++ x :: C) nw od := (h.drewN 1).ring.kept hK1 fun z hz he => h.mx z hz he
  have b1 : Blk w1 s [.int .i64 room, .map (some m), ptr e.blk] 179 := (h.drewN 1).blk.kept hK1 h.sm
  have HC : Hid (Calls _ _ _ _ _) := leave_any e x A C nw od w1 hR1
  have hnx : ∀ z ∈ e :: (A ++ C), x.blk ≠ z.blk := by
    have nd := h.ring.nodup
    have h1 : (x.blk :: e.blk :: (A ++ C).map N.blk).Nodup := by
      refine (List.Perm.nodup_iff ?_).1 nd
      rw [List.map_append, List.map_cons, List.map_append]
      exact (List.Perm.cons _ List.perm_middle).trans (List.Perm.swap _ _ _)
    intro z hz he
    refine (List.nodup_cons.1 h1).1 ?_
    rw [he]
    rcases List.mem_cons.1 hz with h | h
    · simp [h]
    · exact List.mem_cons_of_mem _ (List.mem_map.2 ⟨z, h, rfl⟩)
  have HH : Hid (Sh Tryz.prog T w s m e room (A ++ x :: C) nw od ∧ Blk w1 s [.int .i64 room, .map (some m), ptr e.blk] 179 ∧ MapIs Tryz.prog 3 w1 m (mapOf A ++ mapOf C) ∧ Keeps (fun b => b = m) w w1 ∧ Rg w1 176 e (A ++ x :: C) nw od ∧ ∀ z ∈ e :: (A ++ C), x.blk ≠ z.blk) :=
    ⟨h, b1, hm2, ((Keeps.refl _ w).drewN 1).trans hK1 (fun _ _ h => h), hR1, hnx⟩
  clear h hx hm1 hr hm2 hK1 hR1 b1 hnx hk
  go_enter Tryz.func121, Tryz.ntmps121
  go_wp2_with fail
  refine region_tail 9 (by kernel_rfl) ?_
  simp only [List.take_succ_cons, List.take_zero, List.drop_succ_cons, List.drop_zero]
  repeat still_step
  refine wpStill_nil ?_
  go_wp2_with (at_delete; refine wpList_delete_run rfl (.tmp 7) (.tmp 12) 177 3 rfl (.map (some m)) (.int .i64 x.key) (.tuple #[]) rfl rfl HD.out ?_; refine Hid.out ?_)
  unfold Hid
  clear c1 k0
  go_wp2_with fail
  refine HC.out.mono ?_
  rintro r w2 ⟨rfl, ⟨nw2, od2, hR2⟩, hK2⟩
  have H2 : Hid (Rg w2 176 e (A ++ C) nw2 od2 ∧ Keeps (fun b => ∃ z ∈ e :: (A ++ C), b = z.blk) w1 w2) := ⟨hR2, hK2⟩
  clear hR2 hK2 HC HD
  go_wp2
  go_end0
  obtain ⟨hS, b1, m1, hK1, hR1, hnx⟩ := HH.out
  obtain ⟨hR2, hK2⟩ := H2.out
  have hall : ∀ z ∈ e :: (A ++ C), z ∈ e :: (A ++ x :: C) := by
    intro z hz; simp at hz ⊢; rcases hz with h | h | h <;> simp [h]
  refine ⟨rfl, ⟨nw2, od2, ⟨b1.kept hK2 fun ⟨z, hz, he⟩ => hS.sx z (hall z hz) he.symm, ?_, hR2, hS.sm, fun z hz => hS.sx z (hall z hz), fun z hz => hS.mx z (hall z hz), hS.lo, hS.hi, ?_⟩⟩, ?_, ?_⟩
  · have : mapOf (A ++ C) = mapOf A ++ mapOf C := by simp [mapOf]
    show MapIs Tryz.prog 3 w2 m (mapOf (A ++ C))
    rw [this]
    exact m1.kept hK2 fun ⟨z, hz, he⟩ => hS.mx z (hall z hz) he.symm
  · have := hS.fits; simp at this ⊢; omega
  · exact (hK1.mono fun b _ he => .inr (.inl he)).trans hK2 fun b _ ⟨z, hz, he⟩ => .inr (.inr ⟨z, hall z hz, he⟩)
  · exact ((hR1.nodes x (by simp)).kept hK2 fun ⟨z, hz, he⟩ => hnx z hz he).cell rfl

theorem build_item (k : Int) (w : World) : (Instr.build 174 #[(0, .int .i64 k), (1, .agg #[])]).run Tryz.prog w = .ok (.agg #[.int .i64 k]) w := by
  simp [Instr.build, go_sem, Instr.fill]
  rfl

theorem wpList_build_run {ops : Array Oper} {rest : List Oper} {o : Oper} {a : Act} {Q : Exit → Act → World → Prop} {P : Program} {w : World} (hgd : o.guard = none) (x y : Operand) (t : TypeId)
    (ho : o.op = .build t #[(0, x), (1, y)]) (vx vy v' : Value) (hx : a.eval x = vx) (hy : a.eval y = vy)
    (hr : (Instr.build t #[(0, vx), (1, vy)]).run P w = .ok v' w) (h : wpList P ops Q rest (a.put o.dst v') w) : wpList P ops Q (o :: rest) a w :=
  wpList_plain hgd fun _ hK => by
    unfold Oper.wp execOp
    simp [ho, hx, hy, hr]
    exact hK _ _ h

set_option maxRecDepth 20000 in
set_option maxHeartbeats 1000000 in
theorem add_any (s m : Nat) (e : N) (room : Nat) (xs : List N) (nw od : Nat → Nat) (k : Int) (w : World) (h : Sh Tryz.prog T w s m e room xs nw od) (hk : I64 k) (hn : ∀ x ∈ xs, x.key ≠ k) (hf : xs.length < room)
    :
    Calls Tryz.prog 120 #[ptr s, .int .i64 k, .agg #[]] w fun r w' => r = .returned (.tuple #[]) ∧ (∃ nw' od', Sh Tryz.prog T w' s m e room (xs ++ [⟨w.heap.size + 1, k⟩]) nw' od') ∧ Keeps (Own s m e xs) w w' := by
  obtain ⟨w1, hw1⟩ : ∃ w1, w1 = (w.alloc (.cells #[] 133)).alloc (.cells #[.int .i64 k, .pointer none, .pointer none] 176) := ⟨_, rfl⟩
  have hK1 : Keeps (fun _ => False) w w1 := by rw [hw1]; exact ((Keeps.refl _ w).alloc _).alloc _
  have hp1 : Blk w1 (w.heap.size + 1) [.int .i64 k, .pointer none, .pointer none] 176 := by rw [hw1, show w.heap.size + 1 = (w.alloc (.cells #[] 133)).heap.size by simp]; exact Blk.new _ _ 176
  have h1 := h.kept hK1 fun _ _ h => h
  have hlt : ∀ b, Own s m e xs b → b < w.heap.size := by
    rintro b (rfl | rfl | ⟨z, hz, rfl⟩)
    · exact h.blk.lt
    · exact h.map.lt
    · exact (h.ring.nodes z hz).lt
  have hroom : (mapOf xs).length < maxLen := by
    have := h.hi; unfold mapOf maxLen; simp; omega
  obtain ⟨w2, hr, hm2, hK2⟩ := h1.map.store keyed Tryz.underlying177 (v := ptr (w.heap.size + 1)) (key_of hk) hroom (by
    intro p hp he
    obtain ⟨x, hx, rfl⟩ := List.mem_map.1 hp
    simp at he
    exact hn x hx he)
  have c1 := h1.cells.2.1
  rw [hw1] at c1
  have hR2 : Rg w2 176 e xs nw od := h1.ring.kept hK2 fun z hz he => h.mx z hz he
  have b2 : Blk w2 s [.int .i64 room, .map (some m), ptr e.blk] 179 := h1.blk.kept hK2 h.sm
  have p2 : Blk w2 (w.heap.size + 1) [.int .i64 k, .pointer none, .pointer none] 176 := hp1.kept hK2 fun he => by have := hlt m (.inr (.inl rfl)); omega
  have c2 := b2.cell (i := 2) rfl
  have hnx : ∀ z ∈ e :: xs, w.heap.size + 1 ≠ z.blk := fun z hz he => by have := hlt z.blk (.inr (.inr ⟨z, hz, rfl⟩)); omega
  have HC : Hid (Calls Tryz.prog 166 #[ptr (w.heap.size + 1), ptr e.blk] w2 _) := enter_any e ⟨w.heap.size + 1, k⟩ xs nw od w2 _ _ hR2 p2 hnx
  have HU : Hid ((Instr.mapUpdate 177 (.map (some m)) (.int .i64 k) (ptr (w.heap.size + 1))).run Tryz.prog w1 = .ok () w2) := hr
  have HH : Hid (Sh Tryz.prog T w s m e room xs nw od ∧ Blk w2 s [.int .i64 room, .map (some m), ptr e.blk] 179 ∧ MapIs Tryz.prog 3 w2 m ((.int .i64 k, ptr (w.heap.size + 1)) :: mapOf xs) ∧ Keeps (fun b => b = m) w w2 ∧ (∀ z ∈ e :: xs, w.heap.size + 1 ≠ z.blk) ∧ (∀ b, Own s m e xs b → b < w.heap.size) ∧ xs.length < room) :=
    ⟨h, b2, hm2, (hK1.mono fun b _ h => h.elim).trans hK2 (fun _ _ h => h), hnx, hlt, hf⟩
  clear h h1 hp1 hK1 hlt hroom hr hm2 hK2 hR2 b2 p2 hnx hn hf hk
  have HW : Hid (w1 = _) := hw1
  clear hw1
  go_enter Tryz.func120, Tryz.ntmps120
  go_wp2_with (refine wpList_build_run rfl (.tmp 7) (.tmp 8) 174 rfl (.int .i64 k) (.agg #[]) (.agg #[.int .i64 k]) rfl rfl (build_item k _) ?_; refine Hid.out ?_)
  unfold Hid
  go_wp2_with (at_mapUpdate; rw [← HW.out]; refine wpList_update_run rfl (.tmp 15) (.tmp 16) (.tmp 17) 177 rfl (.map (some m)) (.int .i64 k) (ptr (w.heap.size + 1)) rfl rfl rfl HU.out ?_; refine Hid.out ?_)
  unfold Hid
  clear c1
  go_wp2_with fail
  refine HC.out.mono ?_
  rintro r w3 ⟨rfl, ⟨nw2, od2, hR3⟩, hK3⟩
  have H3 : Hid (Rg w3 176 e (xs ++ [⟨w.heap.size + 1, k⟩]) nw2 od2 ∧ Keeps (fun b => ∃ z ∈ e :: (xs ++ [⟨w.heap.size + 1, k⟩]), b = z.blk) w2 w3) := ⟨hR3, hK3⟩
  clear hR3 hK3 HC HU c2
  go_wp2
  go_end0
  obtain ⟨hS, b2, m2, hK2, hnx, hlt, hf⟩ := HH.out
  obtain ⟨hR3, hK3⟩ := H3.out
  have hcase : ∀ z ∈ e :: (xs ++ [(⟨w.heap.size + 1, k⟩ : N)]), z ∈ e :: xs ∨ z = ⟨w.heap.size + 1, k⟩ := by
    intro z hz; simp at hz ⊢; rcases hz with h | h | h <;> simp [h]
  have sx : ∀ z ∈ e :: (xs ++ [(⟨w.heap.size + 1, k⟩ : N)]), z.blk ≠ s := by
    intro z hz
    rcases hcase z hz with h | rfl
    · exact hS.sx z h
    · intro he; have := hlt s (.inl rfl); simp at he; omega
  have mx : ∀ z ∈ e :: (xs ++ [(⟨w.heap.size + 1, k⟩ : N)]), z.blk ≠ m := by
    intro z hz
    rcases hcase z hz with h | rfl
    · exact hS.mx z h
    · intro he; have := hlt m (.inr (.inl rfl)); simp at he; omega
  refine ⟨rfl, ⟨nw2, od2, ⟨b2.kept hK3 fun ⟨z, hz, he⟩ => sx z hz he.symm, ?_, hR3, hS.sm, sx, mx, hS.lo, hS.hi, ?_⟩⟩, ?_⟩
  · show MapIs Tryz.prog 3 w3 m (mapOf (xs ++ [⟨w.heap.size + 1, k⟩]))
    refine (m2.perm ?_).kept hK3 fun ⟨z, hz, he⟩ => mx z hz he.symm
    have : mapOf (xs ++ [⟨w.heap.size + 1, k⟩]) = mapOf xs ++ [(.int .i64 k, ptr (w.heap.size + 1))] := by simp [mapOf]
    rw [this]
    exact (List.perm_append_singleton _ _).symm
  · simp; omega
  · refine (hK2.mono fun b _ he => .inr (.inl he)).trans hK3 fun b hb ⟨z, hz, he⟩ => ?_
    rcases hcase z hz with h | rfl
    · exact .inr (.inr ⟨z, h, he⟩)
    · simp at he; omega

end Go.Proofs.YtipejahmjdamjaaGreatDoor.Ch
