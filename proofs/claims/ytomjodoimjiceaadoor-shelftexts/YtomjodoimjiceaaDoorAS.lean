import Derived.Test.YtomjodoimjiceaaDoorProg
import Derived.Test.YtomjodoimjiceaaDoorShS
import Derived.WalkKit
import Derived.WalkSpells
import Derived.WalkLawsBesides
import Derived.Deep.QuietTactic
import Derived.BigQuiet
import Derived.BigRegion
import Derived.Below
import Derived.Maps.OwnSet
import Derived.Shelf.Abstract
namespace Go.Proofs.YtomjodoimjiceaaDoor.S
open Go.RowKit Go.Shelf
set_option linter.unusedVariables false
set_option maxRecDepth 6000

set_option maxHeartbeats 1000000 in
theorem leave_walk (p x y : Nat) (w : World) (c2 : w.cell? ⟨p, 3, none⟩ = some (ptr x)) (c3 : w.cell? ⟨p, 4, none⟩ = some (ptr y)) (f1 : w.frozen? ⟨x, 4, none⟩ = false) (f2 : w.frozen? ⟨y, 3, none⟩ = false)
    (d1 : ∃ v, w.cell? ⟨x, 4, none⟩ = some v) (d2 : ∃ v, w.cell? ⟨y, 3, none⟩ = some v) (hpx : p ≠ x) (hpy : p ≠ y) :
    Calls Tryd.prog 55 #[ptr p] w fun e w' => e = .returned (.tuple #[]) ∧ w' = ((w.setCell ⟨x, 4, none⟩ (ptr y)).setCell ⟨y, 3, none⟩ (ptr x)).drew := by
  obtain ⟨v1, d1⟩ := d1
  obtain ⟨v2, d2⟩ := d2
  go_enter Tryd.func55, Tryd.ntmps55
  go_wp2
  go_region
  go_wp2
  go_end0
  exact ⟨rfl, rfl⟩

set_option maxHeartbeats 1000000 in
theorem enter_walk (p l e : Nat) (w : World) (c2 : w.cell? ⟨e, 3, none⟩ = some (ptr l)) (g1 : w.frozen? ⟨p, 3, none⟩ = false) (g2 : w.frozen? ⟨p, 4, none⟩ = false) (f1 : w.frozen? ⟨l, 4, none⟩ = false) (f2 : w.frozen? ⟨e, 3, none⟩ = false)
    (b1 : ∃ v, w.cell? ⟨p, 3, none⟩ = some v) (b2 : ∃ v, w.cell? ⟨p, 4, none⟩ = some v) (d1 : ∃ v, w.cell? ⟨l, 4, none⟩ = some v) (hpl : p ≠ l) (hpe : p ≠ e) :
    Calls Tryd.prog 56 #[ptr p, ptr e] w fun r w' => r = .returned (.tuple #[]) ∧ w' = ((((w.setCell ⟨p, 3, none⟩ (ptr l)).setCell ⟨p, 4, none⟩ (ptr e)).setCell ⟨l, 4, none⟩ (ptr p)).setCell ⟨e, 3, none⟩ (ptr p)).drew := by
  obtain ⟨v1, d1⟩ := d1
  obtain ⟨v2, b1⟩ := b1
  obtain ⟨v3, b2⟩ := b2
  go_enter Tryd.func56, Tryd.ntmps56
  go_wp2
  go_region
  go_wp2
  go_end0
  exact ⟨rfl, rfl⟩

/-- The numbers of this instance's types. -/
def T : Ty := ⟨49, 46, 9⟩

theorem leave_any (e p : N) (A C : List N) (nw od : Nat → Nat) (w : World) (h : Rg w 46 e (A ++ p :: C) nw od) :
    Calls Tryd.prog 55 #[ptr p.blk] w fun r w' => r = .returned (.tuple #[]) ∧ (∃ nw' od', Rg w' 46 e (A ++ C) nw' od') ∧ Keeps (fun b => ∃ x ∈ e :: (A ++ C), b = x.blk) w w' := by
  have hc := h.chain
  have hd := h.nodup
  rw [List.map_append, List.map_cons] at hc hd
  obtain ⟨h1, h2⟩ := Chain.split.1 hc
  have hx := h1.prev_mem
  have hy := h2.next_mem
  have hp := h.nodes p (by simp)
  have mx : ∃ x ∈ e :: A, od p.blk = x.blk := by
    rcases List.mem_cons.1 hx with h | h
    · exact ⟨e, by simp, h⟩
    · obtain ⟨z, hz, hz2⟩ := List.mem_map.1 h
      exact ⟨z, by simp [hz], hz2.symm⟩
  have my : ∃ x ∈ e :: C, nw p.blk = x.blk := by
    rcases List.mem_append.1 hy with h | h
    · obtain ⟨z, hz, hz2⟩ := List.mem_map.1 h
      exact ⟨z, by simp [hz], hz2.symm⟩
    · exact ⟨e, by simp, by simpa using h⟩
  obtain ⟨nx, mx1, mx2⟩ := mx
  obtain ⟨ny, my1, my2⟩ := my
  have bx := h.nodes nx (by simp at mx1 ⊢; rcases mx1 with h | h <;> simp [h])
  have by' := h.nodes ny (by simp at my1 ⊢; rcases my1 with h | h <;> simp [h])
  have out : p.blk ∉ e.blk :: (A ++ C).map N.blk := by
    intro hm
    have : (p.blk :: (e.blk :: (A ++ C).map N.blk)).Nodup := by
      refine (List.Perm.nodup_iff ?_).1 hd
      rw [List.map_append]
      exact (List.Perm.cons _ List.perm_middle).trans (List.Perm.swap _ _ _)
    exact (List.nodup_cons.1 this).1 hm
  have hpx : p.blk ≠ od p.blk := fun he => out (by
    rw [he, mx2]; simp at mx1 ⊢
    rcases mx1 with h | h
    · exact .inl (by rw [h])
    · exact .inr (.inl ⟨nx, h, rfl⟩))
  have hpy : p.blk ≠ nw p.blk := fun he => out (by
    rw [he, my2]; simp at my1 ⊢
    rcases my1 with h | h
    · exact .inl (by rw [h])
    · exact .inr (.inr ⟨ny, h, rfl⟩))
  refine (leave_walk p.blk (od p.blk) (nw p.blk) w (hp.cell rfl) (hp.cell rfl) (by rw [mx2]; exact bx.frozen 4) (by rw [my2]; exact by'.frozen 3) (by rw [mx2]; exact ⟨_, bx.cell rfl⟩) (by rw [my2]; exact ⟨_, by'.cell rfl⟩) hpx hpy).mono ?_
  rintro r w' ⟨rfl, rfl⟩
  refine ⟨rfl, ⟨_, _, ⟨?_, ?_, ((h.nodes.sub ?_).setNew (od p.blk) (nw p.blk)).setOld (nw p.blk) (od p.blk)⟩⟩, ?_⟩
  · rw [List.map_append]; exact hc.leave hd
  · rw [List.map_append]
    refine hd.sublist ?_
    simp
  · intro z hz
    simp at hz ⊢
    rcases hz with h | h | h <;> simp [h]
  · refine (((Keeps.refl _ w).setCell _ _ fun _ => ?_).setCell _ _ fun _ => ?_).drew
    · exact ⟨nx, by simp at mx1 ⊢; rcases mx1 with h | h <;> simp [h], mx2⟩
    · exact ⟨ny, by simp at my1 ⊢; rcases my1 with h | h <;> simp [h], my2⟩

theorem enter_any (e p : N) (xs : List N) (nw od : Nat → Nat) (w : World) (u v : Value) (h : Rg w 46 e xs nw od) (hp : Blk w p.blk [.string p.key, .int .i64 p.thing.p, .int .i64 p.thing.f, u, v] 46) (hn : ∀ x ∈ e :: xs, p.blk ≠ x.blk) :
    Calls Tryd.prog 56 #[ptr p.blk, ptr e.blk] w fun r w' => r = .returned (.tuple #[]) ∧ (∃ nw' od', Rg w' 46 e (xs ++ [p]) nw' od') ∧ Keeps (fun b => ∃ x ∈ e :: (xs ++ [p]), b = x.blk) w w' := by
  have hx := h.chain.prev_mem
  have mx : ∃ x ∈ e :: xs, od e.blk = x.blk := by
    rcases List.mem_cons.1 hx with h | h
    · exact ⟨e, by simp, h⟩
    · obtain ⟨z, hz, hz2⟩ := List.mem_map.1 h
      exact ⟨z, by simp [hz], hz2.symm⟩
  obtain ⟨nx, mx1, mx2⟩ := mx
  have bx := h.nodes nx mx1
  have be := h.nodes e (by simp)
  have hpe := hn e (by simp)
  have hpl : p.blk ≠ od e.blk := by rw [mx2]; exact hn nx mx1
  have hout : p.blk ∉ e.blk :: xs.map N.blk := by
    intro hm
    rcases List.mem_cons.1 hm with h | h
    · exact hpe h
    · obtain ⟨z, hz, hz2⟩ := List.mem_map.1 h
      exact hn z (by simp [hz]) hz2.symm
  refine (enter_walk p.blk (od e.blk) e.blk w (be.cell rfl) (hp.frozen 3) (hp.frozen 4) (by rw [mx2]; exact bx.frozen 4) (be.frozen 3) ⟨_, hp.cell rfl⟩ ⟨_, hp.cell rfl⟩ (by rw [mx2]; exact ⟨_, bx.cell rfl⟩) hpl hpe).mono ?_
  rintro r w' ⟨rfl, rfl⟩
  have n0 : Nodes ((w.setCell ⟨p.blk, 3, none⟩ (ptr (od e.blk))).setCell ⟨p.blk, 4, none⟩ (ptr e.blk)) 46 (e :: (xs ++ [p])) (upd nw p.blk e.blk) (upd od p.blk (od e.blk)) := by
    intro z hz
    by_cases hzp : z.blk = p.blk
    · have hz' : z = p := by
        have : z ∈ (e :: xs) ∨ z = p := by simp at hz ⊢; rcases hz with h | h | h <;> simp [h]
        rcases this with h | h
        · exact absurd hzp.symm (hn z h)
        · exact h
      subst hz'
      rw [upd_same, upd_same]
      exact (hp.setCell 3 (ptr (od e.blk))).setCell 4 (ptr e.blk)
    · have hz' : z ∈ e :: xs := by
        simp at hz ⊢
        rcases hz with h | h | h
        · exact .inl h
        · exact .inr h
        · rw [h] at hzp; exact absurd rfl hzp
      rw [upd_ne _ _ hzp, upd_ne _ _ hzp]
      exact ((h.nodes z hz').setCell_ne hzp _).setCell_ne hzp _
  refine ⟨rfl, ⟨_, _, ⟨?_, ?_, (n0.setNew (od e.blk) p.blk).setOld e.blk p.blk⟩⟩, ?_⟩
  · rw [List.map_append]; exact h.chain.enter h.nodup hout
  · rw [List.map_append]
    have : (p.blk :: e.blk :: xs.map N.blk).Nodup := List.nodup_cons.2 ⟨hout, h.nodup⟩
    refine (List.Perm.nodup_iff ?_).1 this
    exact (List.Perm.swap _ _ _).trans (List.Perm.cons _ (List.perm_append_singleton _ _).symm)
  · refine (((((Keeps.refl _ w).setCell _ _ fun _ => ?_).setCell _ _ fun _ => ?_).setCell _ _ fun _ => ?_).setCell _ _ fun _ => ?_).drew
    · exact ⟨p, by simp, rfl⟩
    · exact ⟨p, by simp, rfl⟩
    · exact ⟨nx, by simp at mx1 ⊢; rcases mx1 with h | h <;> simp [h], mx2⟩
    · exact ⟨e, by simp, rfl⟩

end Go.Proofs.YtomjodoimjiceaaDoor.S
