import Derived.Test.YtomjodoimjiceaaDoorES
namespace Go.Proofs.YtomjodoimjiceaaDoor.S
open Go.RowKit Go.Shelf
set_option linter.unusedVariables false
set_option maxRecDepth 6000

set_option maxHeartbeats 1000000 in
theorem clear_walk (s e : Nat) (u1 u2 u3 : Value) (w W1 : World) (hW : W1 = (w.alloc (.map #[] 0)).setCell ⟨s, 1, none⟩ (.map (some w.heap.size)))
    (hs : s < w.heap.size) (d1 : w.cell? ⟨s, 1, none⟩ = some u1) (f1 : w.frozen? ⟨s, 1, none⟩ = false) (c2 : W1.cell? ⟨s, 2, none⟩ = some (ptr e)) (d2 : W1.cell? ⟨e, 3, none⟩ = some u2) (d3 : W1.cell? ⟨e, 4, none⟩ = some u3)
    (f2 : W1.frozen? ⟨e, 3, none⟩ = false) (f3 : W1.frozen? ⟨e, 4, none⟩ = false) (hse : s ≠ e) :
    Calls Tryd.prog 13 #[ptr s] w fun r w' => r = .returned (.tuple #[]) ∧ w' = ((W1.setCell ⟨e, 3, none⟩ (ptr e)).setCell ⟨e, 4, none⟩ (ptr e)).drew := by
  have HW : Hid (W1 = _) := hW
  clear hW
  have d1' : (w.alloc (.map #[] 0)).cell? ⟨s, 1, none⟩ = some u1 := by
    rw [World.cell?_of_block (w := w) (Below.heap_alloc w _ s hs)]; exact d1
  have f1' : (w.alloc (.map #[] 0)).frozen? ⟨s, 1, none⟩ = false := by
    rw [World.frozen?_of_block (w := w) (Below.heap_alloc w _ s hs)]; exact f1
  have hmk : (Instr.makeMap 47 none).run Tryd.prog w = .ok (.map (some w.heap.size)) (w.alloc (.map #[] 0)) := run_makeMap 47 w
  clear d1 f1 hs
  go_enter Tryd.func13, Tryd.ntmps13
  go_wp2_with fail
  rw [← HW.out]
  go_region
  go_wp2
  go_end0
  exact ⟨rfl, rfl⟩

theorem clear_any (s : Nat) (e : N) (mv u2 u3 : Value) (room : Nat) (w : World) (h : Blk w s [.int .i64 room, mv, ptr e.blk] 49) (he : Blk w e.blk [.string e.key, .int .i64 e.thing.p, .int .i64 e.thing.f, u2, u3] 46) (hne : s ≠ e.blk) (lo : 1 ≤ room) (hi : room ≤ 4096) :
    Calls Tryd.prog 13 #[ptr s] w fun r w' => r = .returned (.tuple #[]) ∧ (∃ nw od, Sh Tryd.prog T w' s w.heap.size e room [] nw od) ∧ Keeps (fun b => b = s ∨ b = e.blk) w w' := by
  obtain ⟨W0, hW0⟩ : ∃ W0, W0 = w.alloc (.map #[] 0) := ⟨_, rfl⟩
  obtain ⟨W1, hW1⟩ : ∃ W1, W1 = W0.setCell ⟨s, 1, none⟩ (.map (some w.heap.size)) := ⟨_, rfl⟩
  have hs0 : Blk W0 s [.int .i64 room, mv, ptr e.blk] 49 := by rw [hW0]; exact h.alloc _
  have he0 : Blk W0 e.blk [.string e.key, .int .i64 e.thing.p, .int .i64 e.thing.f, u2, u3] 46 := by rw [hW0]; exact he.alloc _
  have hm0 : MapIs Tryd.prog 9 W0 w.heap.size [] := by rw [hW0]; exact MapIs.new _ _ w
  have hs1 : Blk W1 s [.int .i64 room, .map (some w.heap.size), ptr e.blk] 49 := by rw [hW1]; exact hs0.setCell 1 _
  have he1 : Blk W1 e.blk [.string e.key, .int .i64 e.thing.p, .int .i64 e.thing.f, u2, u3] 46 := by rw [hW1]; exact he0.setCell_ne (fun h => hne h.symm) _
  have hm1 : MapIs Tryd.prog 9 W1 w.heap.size [] := by rw [hW1]; exact hm0.setCell (fun h' => by have := h.lt; simp at h'; omega) _
  have hlt := h.lt
  have hle := he.lt
  refine (clear_walk s e.blk mv u2 u3 w W1 (by rw [hW1, hW0]) hlt (h.cell rfl) (h.frozen 1) (hs1.cell rfl) (he1.cell rfl) (he1.cell rfl) (he1.frozen 3) (he1.frozen 4) hne).mono ?_
  rintro r w' ⟨rfl, rfl⟩
  refine ⟨rfl, ⟨fun _ => e.blk, fun _ => e.blk, ⟨((hs1.setCell_ne (a := ⟨e.blk, 3, none⟩) hne _).setCell_ne (a := ⟨e.blk, 4, none⟩) hne _).drew, ?_, ⟨⟨rfl, rfl⟩, by simp, ?_⟩, ?_, ?_, ?_, lo, hi, by simp⟩⟩, ?_⟩
  · show MapIs Tryd.prog 9 _ w.heap.size []
    exact ((hm1.setCell (a := ⟨e.blk, 3, none⟩) (fun h' => by simp at h'; omega) _).setCell (a := ⟨e.blk, 4, none⟩) (fun h' => by simp at h'; omega) _).kept (S := fun _ => False) ((Keeps.refl _ _).drew) fun h => h
  · intro z hz
    simp at hz
    subst hz
    exact ((he1.setCell 3 (ptr z.blk)).setCell 4 (ptr z.blk)).drew
  · omega
  · intro z hz; simp at hz; subst hz; exact fun h => hne h.symm
  · intro z hz; simp at hz; subst hz; intro h'; omega
  · have hK1 : Keeps (fun b => b = s ∨ b = e.blk) w W1 := by
      rw [hW1, hW0]
      exact ((Keeps.refl _ w).alloc _).setCell _ _ fun _ => .inl rfl
    exact ((hK1.setCell _ _ fun _ => .inr rfl).setCell _ _ fun _ => .inr rfl).drew

set_option maxHeartbeats 400000 in
theorem new_in (room : Nat) (w : World) (lo : 1 ≤ room) (hi : room ≤ 4096) :
    Calls Tryd.prog 4 #[.int .i64 room] w fun r w' => r = .returned (.tuple #[ptr (w.heap.size + 1), .int .i64 0]) ∧ (∃ m e nw od, w.heap.size ≤ m ∧ w.heap.size ≤ e.blk ∧ Sh Tryd.prog T w' (w.heap.size + 1) m e room [] nw od) ∧ Keeps (fun _ => False) w w' := by
  obtain ⟨W0, hW0⟩ : ∃ W0, W0 = w.alloc (.cells #[.string ⟨#[]⟩, .int .i64 0, .int .i64 0, .pointer none, .pointer none] 46) := ⟨_, rfl⟩
  obtain ⟨W1, hW1⟩ : ∃ W1, W1 = W0.alloc (.cells #[.int .i64 room, .map none, ptr w.heap.size] 49) := ⟨_, rfl⟩
  have hz : W0.heap.size = w.heap.size + 1 := by rw [hW0]; simp
  have he1 : Blk W1 w.heap.size [.string ⟨#[]⟩, .int .i64 0, .int .i64 0, .pointer none, .pointer none] 46 := by
    rw [hW1]; refine Blk.alloc ?_ _; rw [hW0]; exact Blk.new w _ 46
  have hs1 : Blk W1 (w.heap.size + 1) [.int .i64 room, .map none, ptr w.heap.size] 49 := by
    rw [hW1, ← hz]; exact Blk.new W0 _ 49
  have hK1 : Keeps (fun _ => False) w W1 := by rw [hW1, hW0]; exact ((Keeps.refl _ w).alloc _).alloc _
  have H1 : Hid (Calls _ _ _ _ _) := clear_any (w.heap.size + 1) ⟨w.heap.size, ⟨#[]⟩, Lf.none⟩ (.map none) _ _ room W1 hs1 he1 (by simp) lo hi
  have HK : Hid (Keeps (fun _ => False) w W1) := hK1
  have HZ : Hid (W0.heap.size = w.heap.size + 1) := hz
  have HW : Hid (W1 = (w.alloc (.cells #[.string ⟨#[]⟩, .int .i64 0, .int .i64 0, .pointer none, .pointer none] 46)).alloc (.cells #[.int .i64 room, .map none, ptr w.heap.size] 49)) := by rw [← hW0]; exact hW1
  have h1 : ¬ ((room : Int) < 1) := by omega
  have h2 : ¬ ((room : Int) > 4096) := by omega
  clear hW0 hW1 hz he1 hs1 hK1 lo hi
  go_enter Tryd.func4, Tryd.ntmps4
  go_wp2_with fail
  rw [← HW.out]
  refine H1.out.mono ?_
  rintro r w2 ⟨rfl, ⟨nw, od, hS⟩, hK⟩
  have HS : Hid ((∃ m e nw od, w.heap.size ≤ m ∧ w.heap.size ≤ e.blk ∧ Sh Tryd.prog T w2 (w.heap.size + 1) m e room [] nw od) ∧ Keeps (fun _ => False) w w2) :=
    ⟨⟨_, _, nw, od, HK.out.size, Nat.le_refl _, hS⟩, HK.out.trans hK (by
      rintro b hb (h | h)
      · omega
      · first | omega | (simp at h; omega))⟩
  clear hS hK H1 HW
  go_wp2
  go_ret2
  exact ⟨rfl, HS.out⟩

theorem new_out (room : Int) (w : World) (h : room < 1 ∨ 4096 < room) :
    Calls Tryd.prog 4 #[.int .i64 room] w fun r w' => r = .returned (.tuple #[.pointer none, .int .i64 60]) ∧ w' = w := by
  by_cases h1 : room < 1
  · clear h
    go_enter Tryd.func4, Tryd.ntmps4
    go_wp2
    go_ret2
    exact ⟨rfl, rfl⟩
  · have h2 : 4096 < room := by omega
    clear h
    go_enter Tryd.func4, Tryd.ntmps4
    go_wp2
    go_ret2
    exact ⟨rfl, rfl⟩

end Go.Proofs.YtomjodoimjiceaaDoor.S
