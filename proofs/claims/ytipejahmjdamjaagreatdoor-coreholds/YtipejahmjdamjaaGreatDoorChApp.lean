import Derived.Test.YtipejahmjdamjaaGreatDoorChC
import Derived.Test.YtipejahmjdamjaaGreatDoorChRing
import Derived.Test.YtipejahmjdamjaaGreatDoorProg
import Derived.WalkKit
namespace Go.Proofs.YtipejahmjdamjaaGreatDoor.Ch
open Go.RowKit Go.Shelf
set_option linter.unusedVariables false

set_option maxHeartbeats 400000 in
theorem get_in (s m : Nat) (e x : N) (room : Nat) (A C : List N) (nw od : Nat → Nat) (w : World) (h : Sh Tryz.prog T w s m e room (A ++ x :: C) nw od) (hk : I64 x.key) :
    Calls Tryz.prog 177 #[ptr s, .int .i64 x.key] w fun r w' => r = .returned (.tuple #[.agg #[], .bool true]) ∧ (∃ nw' od', Sh Tryz.prog T w' s m e room (A ++ C ++ [x]) nw' od') ∧ Keeps (Own s m e (A ++ x :: C)) w w' := by
  obtain ⟨W, hW⟩ : ∃ W, W = w.alloc (.cells #[] 133) := ⟨_, rfl⟩
  have hKW : Keeps (fun _ => False) w W := by rw [hW]; exact (Keeps.refl _ w).alloc _
  have h0 := h.kept hKW fun _ _ h => h
  have H1 : Hid (Calls _ _ _ _ _) := find_some s m e x room A C nw od W h0 hk
  have H2 : Hid (Calls _ _ _ _ _) := renew_any s m e x room A C nw od W h0
  obtain ⟨k, hkk⟩ : ∃ k, k = x.key := ⟨_, rfl⟩
  rw [← hkk] at H1 ⊢
  have HW : Hid (W = _ ∧ Keeps (fun _ => False) w W) := ⟨hW, hKW⟩
  clear h hk hkk h0 hKW hW
  go_enter Tryz.func177, Tryz.ntmps177
  go_wp2_with fail
  rw [← HW.out.1]
  refine H1.out.mono ?_
  rintro r w1 ⟨rfl, rfl⟩
  clear H1
  go_wp2_with fail
  refine H2.out.mono ?_
  rintro r w2 ⟨rfl, ⟨nw', od', hS⟩, hK⟩
  have H3 : Hid (Calls _ _ _ _ _) := told_some x.blk _ w2 (hS.ring.nodes x (by simp))
  have HS : Hid (Sh Tryz.prog T w2 s m e room (A ++ C ++ [x]) nw' od' ∧ Keeps (Own s m e (A ++ x :: C)) w w2) := ⟨hS, (HW.out.2.mono fun _ _ h => h.elim).trans hK fun _ _ h => h⟩
  clear hS hK H2
  go_wp2_with fail
  refine H3.out.mono ?_
  rintro r w3 ⟨rfl, hK⟩
  have HT : Hid ((∃ nw' od', Sh Tryz.prog T w3 s m e room (A ++ C ++ [x]) nw' od') ∧ Keeps (Own s m e (A ++ x :: C)) w w3) := ⟨⟨_, _, HS.out.1.kept hK fun _ _ h => h⟩, HS.out.2.trans hK fun _ _ h => h.elim⟩
  clear H3 hK HS
  go_wp2
  (try simp only [Exit.inBlock, Exit.then])
  refine bodyPost_ret (results_cell_tmp rfl _ _ _ (.agg #[]) rfl (load0 _ _)) rfl ?_
  exact ⟨rfl, HT.out⟩

set_option maxHeartbeats 400000 in
theorem get_out (s m : Nat) (e : N) (room : Nat) (xs : List N) (nw od : Nat → Nat) (k : Int) (w : World) (h : Sh Tryz.prog T w s m e room xs nw od) (hk : I64 k) (hn : ∀ x ∈ xs, x.key ≠ k) :
    Calls Tryz.prog 177 #[ptr s, .int .i64 k] w fun r w' => r = .returned (.tuple #[.agg #[], .bool false]) ∧ Keeps (fun _ => False) w w' := by
  obtain ⟨W, hW⟩ : ∃ W, W = w.alloc (.cells #[] 133) := ⟨_, rfl⟩
  have hKW : Keeps (fun _ => False) w W := by rw [hW]; exact (Keeps.refl _ w).alloc _
  have h0 := h.kept hKW fun _ _ h => h
  have H1 : Hid (Calls _ _ _ _ _) := find_none s m e room xs nw od k W h0 hk hn
  have H3 : Hid (Calls _ _ _ _ _) := told_none W
  have HW : Hid (W = _ ∧ Keeps (fun _ => False) w W) := ⟨hW, hKW⟩
  clear h hk hn h0 hKW hW
  go_enter Tryz.func177, Tryz.ntmps177
  go_wp2_with fail
  rw [← HW.out.1]
  refine H1.out.mono ?_
  rintro r w1 ⟨rfl, rfl⟩
  clear H1
  go_wp2_with fail
  refine H3.out.mono ?_
  rintro r w3 ⟨rfl, hK⟩
  have HK : Hid (Keeps (fun _ => False) w w3) := HW.out.2.trans hK fun _ _ h => h
  clear H3 hK
  go_wp2
  (try simp only [Exit.inBlock, Exit.then])
  refine bodyPost_ret (results_cell_tmp rfl _ _ _ (.agg #[]) rfl (load0 _ _)) rfl ?_
  exact ⟨rfl, HK.out⟩

end Go.Proofs.YtipejahmjdamjaaGreatDoor.Ch
namespace Go.Proofs.YtipejahmjdamjaaGreatDoor.Ch
open Go.RowKit Go.Shelf
set_option linter.unusedVariables false

set_option maxHeartbeats 400000 in
theorem put_in (s m : Nat) (e x : N) (room : Nat) (A C : List N) (nw od : Nat → Nat) (w : World) (h : Sh Tryz.prog T w s m e room (A ++ x :: C) nw od) (hk : I64 x.key) :
    Calls Tryz.prog 85 #[ptr s, .int .i64 x.key, .agg #[]] w fun r w' => r = .returned (.tuple #[.int .i64 0, .bool false]) ∧ (∃ nw' od', Sh Tryz.prog T w' s m e room (A ++ C ++ [x]) nw' od') ∧ Keeps (Own s m e (A ++ x :: C)) w w' := by
  obtain ⟨W, hW⟩ : ∃ W, W = w.alloc (.cells #[] 133) := ⟨_, rfl⟩
  have hKW : Keeps (fun _ => False) w W := by rw [hW]; exact (Keeps.refl _ w).alloc _
  have h0 := h.kept hKW fun _ _ h => h
  have HW : Hid (W = _ ∧ Keeps (fun _ => False) w W) := ⟨hW, hKW⟩
  have hp := part_run (h0.ring.nodes x (by simp))
  have H1 : Hid (Calls _ _ _ _ _) := find_some s m e x room A C nw od W h0 hk
  have H2 : Hid (Calls _ _ _ _ _) := renew_any s m e x room A C nw od W h0
  obtain ⟨k, hkk⟩ : ∃ k, k = x.key := ⟨_, rfl⟩
  rw [← hkk] at H1 ⊢
  clear h hk hkk h0 hKW hW
  go_enter Tryz.func85, Tryz.ntmps85
  go_wp2_with fail
  rw [← HW.out.1]
  refine H1.out.mono ?_
  rintro r w1 ⟨rfl, rfl⟩
  clear H1
  go_wp2_with fail
  refine H2.out.mono ?_
  rintro r w2 ⟨rfl, hS, hK⟩
  have HS : Hid ((∃ nw' od', Sh Tryz.prog T w2 s m e room (A ++ C ++ [x]) nw' od') ∧ Keeps (Own s m e (A ++ x :: C)) w w2) := ⟨hS, (HW.out.2.mono fun _ _ h => h.elim).trans hK fun _ _ h => h⟩
  clear hS hK H2 hp
  go_wp2
  go_ret2
  exact ⟨rfl, HS.out⟩

set_option maxHeartbeats 1000000 in
theorem put_new (s m : Nat) (e : N) (room : Nat) (xs : List N) (nw od : Nat → Nat) (k : Int) (w : World) (h : Sh Tryz.prog T w s m e room xs nw od) (hk : I64 k) (hn : ∀ x ∈ xs, x.key ≠ k) (hf : xs.length < room) :
    Calls Tryz.prog 85 #[ptr s, .int .i64 k, .agg #[]] w fun r w' => r = .returned (.tuple #[.int .i64 0, .bool false]) ∧ (∃ b nw' od', w.heap.size ≤ b ∧ Sh Tryz.prog T w' s m e room (xs ++ [⟨b, k⟩]) nw' od') ∧ Keeps (Own s m e xs) w w' := by
  obtain ⟨W, hW⟩ : ∃ W, W = w.alloc (.cells #[] 133) := ⟨_, rfl⟩
  have hKW : Keeps (fun _ => False) w W := by rw [hW]; exact (Keeps.refl _ w).alloc _
  have h0 := h.kept hKW fun _ _ h => h
  have HW : Hid (W = _ ∧ Keeps (fun _ => False) w W) := ⟨hW, hKW⟩
  have H1 : Hid (Calls _ _ _ _ _) := find_none s m e room xs nw od k W h0 hk hn
  have hL : (mapOf xs).length = xs.length := by simp [mapOf]
  have H2 : Hid (∀ q, Calls Tryz.prog 120 #[ptr s, .int .i64 k, .agg #[]] (W.drewN q) _) := fun q => add_any s m e room xs nw od k (W.drewN q) (h0.drewN q) hk hn hf
  have hl : ∀ ty q, (Builtin.len_ #[177] ty #[.map (some m)]).run Tryz.prog (W.drewN q) = .ok (.int .i64 xs.length) (W.drewN q) := fun ty q => by
    have := (h0.drewN q).map.len (ty := ty) Tryz.underlying177
    rw [hL] at this
    exact this
  have c0 := h0.cells.1
  have c1 := h0.cells.2.1
  obtain ⟨L, hLL⟩ : ∃ L, L = xs.length := ⟨_, rfl⟩
  rw [← hLL] at hl hf
  have hf' : (L : Int) < room := by omega
  clear h hk hn hL hLL hf h0 hKW hW
  go_enter Tryz.func85, Tryz.ntmps85
  go_wp2_with fail
  rw [← HW.out.1]
  refine H1.out.mono ?_
  rintro r w1 ⟨rfl, rfl⟩
  clear H1
  go_wp2_with fail
  go_quiet (fail)
  go_wp2_with fail
  refine (H2.out _).mono ?_
  rintro r w2 ⟨rfl, hS, hK⟩
  have HS : Hid ((∃ b nw' od', w.heap.size ≤ b ∧ Sh Tryz.prog T w2 s m e room (xs ++ [⟨b, k⟩]) nw' od') ∧ Keeps (Own s m e xs) w w2) := ⟨by obtain ⟨nw', od', hS⟩ := hS; exact ⟨_, nw', od', by have := HW.out.2.size; simp; omega, hS⟩, (HW.out.2.mono fun _ _ h => h.elim).trans hK.fromDrewN fun _ _ h => h⟩
  clear hS hK H2 c0 c1 hl
  go_wp2
  go_ret2
  exact ⟨rfl, HS.out⟩

set_option maxHeartbeats 1000000 in
theorem put_full (s m : Nat) (e x : N) (room : Nat) (xs : List N) (nw od : Nat → Nat) (k : Int) (w : World) (h : Sh Tryz.prog T w s m e room (x :: xs) nw od) (hk : I64 k) (hkx : I64 x.key) (hn : ∀ z ∈ x :: xs, z.key ≠ k) (hf : xs.length + 1 = room) :
    Calls Tryz.prog 85 #[ptr s, .int .i64 k, .agg #[]] w fun r w' => r = .returned (.tuple #[.int .i64 x.key, .bool true]) ∧ (∃ b nw' od', w.heap.size ≤ b ∧ Sh Tryz.prog T w' s m e room (xs ++ [⟨b, k⟩]) nw' od') ∧ Keeps (Own s m e (x :: xs)) w w' := by
  obtain ⟨W, hW⟩ : ∃ W, W = w.alloc (.cells #[] 133) := ⟨_, rfl⟩
  have hKW : Keeps (fun _ => False) w W := by rw [hW]; exact (Keeps.refl _ w).alloc _
  have h0 := h.kept hKW fun _ _ h => h
  have HW : Hid (W = _ ∧ Keeps (fun _ => False) w W) := ⟨hW, hKW⟩
  have H1 : Hid (Calls _ _ _ _ _) := find_none s m e room (x :: xs) nw od k W h0 hk hn
  have hL : (mapOf (x :: xs)).length = room := by simp [mapOf]; omega
  have H2 : Hid (∀ q, Calls Tryz.prog 121 #[ptr s, ptr x.blk] (W.drewN q) _) := fun q => remove_any s m e x room [] xs nw od (W.drewN q) (h0.drewN q) hkx
  have hl : ∀ ty q, (Builtin.len_ #[177] ty #[.map (some m)]).run Tryz.prog (W.drewN q) = .ok (.int .i64 room) (W.drewN q) := fun ty q => by
    have := (h0.drewN q).map.len (ty := ty) Tryz.underlying177
    rw [hL] at this
    exact this
  have c0 := h0.cells.1
  have c1 := h0.cells.2.1
  have c2 := h0.cells.2.2
  have en : nw e.blk = x.blk := h.ring.chain.1
  have c3 := (h0.ring.nodes e (by simp)).cell (i := 2) rfl
  rw [en] at c3
  have hxo : ¬ Own s m e xs x.blk := by
    rintro (he | he | ⟨z, hz, he⟩)
    · exact h.sx x (by simp) he
    · exact h.mx x (by simp) he
    · have nd := h.ring.nodup
      rw [List.map_cons] at nd
      rcases List.mem_cons.1 hz with h' | h'
      · rw [h'] at he; rw [he] at nd; simp at nd
      · have := (List.nodup_cons.1 (List.nodup_cons.1 nd).2).1
        exact this (by rw [he]; exact List.mem_map.2 ⟨z, h', rfl⟩)
  have HXO : Hid (¬ Own s m e xs x.blk) := hxo
  have HX : Hid ((∀ z ∈ xs, z.key ≠ k) ∧ I64 k ∧ xs.length < room ∧ ∀ b, Own s m e (x :: xs) b → b < w.heap.size) := ⟨fun z hz => hn z (by simp [hz]), hk, by omega, h.lt⟩
  clear h hk hkx hn hL hf en hxo h0 hKW hW
  go_enter Tryz.func85, Tryz.ntmps85
  go_wp2_with fail
  rw [← HW.out.1]
  refine H1.out.mono ?_
  rintro r w1 ⟨rfl, rfl⟩
  clear H1
  go_wp2_with fail
  go_quiet (fail)
  go_wp2_with fail
  refine (H2.out _).mono ?_
  rintro r w2 ⟨rfl, ⟨nw2, od2, hS⟩, hK, kx⟩
  have HK : Hid (Keeps (Own s m e (x :: xs)) w w2) := (HW.out.2.mono fun _ _ h => h.elim).trans hK.fromDrewN fun _ _ h => h
  have hk2 : x.blk < w2.heap.size := Nat.lt_of_lt_of_le (HX.out.2.2.2 x.blk (.inr (.inr ⟨x, by simp, rfl⟩))) HK.out.size
  have H3 : Hid (Calls Tryz.prog 120 #[ptr s, .int .i64 k, .agg #[]] w2 _) := add_any s m e room xs nw2 od2 k w2 hS HX.out.2.1 HX.out.1 HX.out.2.2.1
  have hxo := HXO.out
  have HK2 : Hid (w2.cell? ⟨x.blk, 0, none⟩ = some (.int .i64 x.key) ∧ x.blk < w2.heap.size ∧ ¬ Own s m e xs x.blk) := ⟨kx, hk2, hxo⟩
  clear hS hK H2 c0 c1 c2 c3 hl kx hk2 hxo
  go_wp2_with fail
  refine H3.out.mono ?_
  rintro r w3 ⟨rfl, ⟨nw3, od3, hS3⟩, hK3⟩
  have k3 : w3.cell? ⟨x.blk, 0, none⟩ = some (.int .i64 x.key) := by
    rw [World.cell?_of_block (w := w2) (hK3.block x.blk HK2.out.2.1 HK2.out.2.2)]
    exact HK2.out.1
  have HS : Hid ((∃ b nw' od', w.heap.size ≤ b ∧ Sh Tryz.prog T w3 s m e room (xs ++ [⟨b, k⟩]) nw' od') ∧ Keeps (Own s m e xs) w2 w3) := ⟨⟨_, nw3, od3, Nat.le_succ_of_le HK.out.size, hS3⟩, hK3⟩
  clear hS3 hK3 H3
  go_wp2
  go_ret2
  refine ⟨rfl, HS.out.1, HK.out.trans HS.out.2 ?_⟩
  rintro b _ (rfl | rfl | ⟨z, hz, rfl⟩)
  · exact .inl rfl
  · exact .inr (.inl rfl)
  · simp at hz
    rcases hz with h | h
    · exact .inr (.inr ⟨e, by simp, by rw [h]⟩)
    · exact .inr (.inr ⟨z, by simp [h], rfl⟩)

end Go.Proofs.YtipejahmjdamjaaGreatDoor.Ch
namespace Go.Proofs.YtipejahmjdamjaaGreatDoor.Ch
open Go.RowKit Go.Shelf
set_option linter.unusedVariables false

set_option maxHeartbeats 1000000 in
theorem clear_walk (s e : Nat) (u1 u2 u3 : Value) (w W1 : World) (hW : W1 = (w.alloc (.map #[] 0)).setCell ⟨s, 1, none⟩ (.map (some w.heap.size)))
    (hs : s < w.heap.size) (d1 : w.cell? ⟨s, 1, none⟩ = some u1) (f1 : w.frozen? ⟨s, 1, none⟩ = false) (c2 : W1.cell? ⟨s, 2, none⟩ = some (ptr e)) (d2 : W1.cell? ⟨e, 1, none⟩ = some u2) (d3 : W1.cell? ⟨e, 2, none⟩ = some u3)
    (f2 : W1.frozen? ⟨e, 1, none⟩ = false) (f3 : W1.frozen? ⟨e, 2, none⟩ = false) (hse : s ≠ e) :
    Calls Tryz.prog 96 #[ptr s] w fun r w' => r = .returned (.tuple #[]) ∧ w' = ((W1.setCell ⟨e, 1, none⟩ (ptr e)).setCell ⟨e, 2, none⟩ (ptr e)).drew := by
  have HW : Hid (W1 = _) := hW
  clear hW
  have d1' : (w.alloc (.map #[] 0)).cell? ⟨s, 1, none⟩ = some u1 := by
    rw [World.cell?_of_block (w := w) (Below.heap_alloc w _ s hs)]; exact d1
  have f1' : (w.alloc (.map #[] 0)).frozen? ⟨s, 1, none⟩ = false := by
    rw [World.frozen?_of_block (w := w) (Below.heap_alloc w _ s hs)]; exact f1
  have hmk : (Instr.makeMap 177 none).run Tryz.prog w = .ok (.map (some w.heap.size)) (w.alloc (.map #[] 0)) := run_makeMap 177 w
  clear d1 f1 hs
  go_enter Tryz.func96, Tryz.ntmps96
  go_wp2_with fail
  rw [← HW.out]
  go_region
  go_wp2
  go_end0
  exact ⟨rfl, rfl⟩

theorem clear_any (s : Nat) (e : N) (mv u2 u3 : Value) (room : Nat) (w : World) (h : Blk w s [.int .i64 room, mv, ptr e.blk] 179) (he : Blk w e.blk [.int .i64 e.key, u2, u3] 176) (hne : s ≠ e.blk) (lo : 1 ≤ room) (hi : room ≤ 4096) :
    Calls Tryz.prog 96 #[ptr s] w fun r w' => r = .returned (.tuple #[]) ∧ (∃ nw od, Sh Tryz.prog T w' s w.heap.size e room [] nw od) ∧ Keeps (fun b => b = s ∨ b = e.blk) w w' := by
  obtain ⟨W0, hW0⟩ : ∃ W0, W0 = w.alloc (.map #[] 0) := ⟨_, rfl⟩
  obtain ⟨W1, hW1⟩ : ∃ W1, W1 = W0.setCell ⟨s, 1, none⟩ (.map (some w.heap.size)) := ⟨_, rfl⟩
  have hs0 : Blk W0 s [.int .i64 room, mv, ptr e.blk] 179 := by rw [hW0]; exact h.alloc _
  have he0 : Blk W0 e.blk [.int .i64 e.key, u2, u3] 176 := by rw [hW0]; exact he.alloc _
  have hm0 : MapIs Tryz.prog 3 W0 w.heap.size [] := by rw [hW0]; exact MapIs.new _ _ w
  have hs1 : Blk W1 s [.int .i64 room, .map (some w.heap.size), ptr e.blk] 179 := by rw [hW1]; exact hs0.setCell 1 _
  have he1 : Blk W1 e.blk [.int .i64 e.key, u2, u3] 176 := by rw [hW1]; exact he0.setCell_ne (fun h => hne h.symm) _
  have hm1 : MapIs Tryz.prog 3 W1 w.heap.size [] := by rw [hW1]; exact hm0.setCell (fun h' => by have := h.lt; simp at h'; omega) _
  have hlt := h.lt
  have hle := he.lt
  refine (clear_walk s e.blk mv u2 u3 w W1 (by rw [hW1, hW0]) hlt (h.cell rfl) (h.frozen 1) (hs1.cell rfl) (he1.cell rfl) (he1.cell rfl) (he1.frozen 1) (he1.frozen 2) hne).mono ?_
  rintro r w' ⟨rfl, rfl⟩
  refine ⟨rfl, ⟨fun _ => e.blk, fun _ => e.blk, ⟨((hs1.setCell_ne (a := ⟨e.blk, 1, none⟩) hne _).setCell_ne (a := ⟨e.blk, 2, none⟩) hne _).drew, ?_, ⟨⟨rfl, rfl⟩, by simp, ?_⟩, ?_, ?_, ?_, lo, hi, by simp⟩⟩, ?_⟩
  · show MapIs Tryz.prog 3 _ w.heap.size []
    exact ((hm1.setCell (a := ⟨e.blk, 1, none⟩) (fun h' => by simp at h'; omega) _).setCell (a := ⟨e.blk, 2, none⟩) (fun h' => by simp at h'; omega) _).kept (S := fun _ => False) ((Keeps.refl _ _).drew) fun h => h
  · intro z hz
    simp at hz
    subst hz
    exact ((he1.setCell 1 (ptr z.blk)).setCell 2 (ptr z.blk)).drew
  · omega
  · intro z hz; simp at hz; subst hz; exact fun h => hne h.symm
  · intro z hz; simp at hz; subst hz; intro h'; omega
  · have hK1 : Keeps (fun b => b = s ∨ b = e.blk) w W1 := by
      rw [hW1, hW0]
      exact ((Keeps.refl _ w).alloc _).setCell _ _ fun _ => .inl rfl
    exact ((hK1.setCell _ _ fun _ => .inr rfl).setCell _ _ fun _ => .inr rfl).drew

set_option maxHeartbeats 400000 in
theorem new_in (room : Nat) (w : World) (lo : 1 ≤ room) (hi : room ≤ 4096) :
    Calls Tryz.prog 69 #[.int .i64 room] w fun r w' => r = .returned (.tuple #[ptr (w.heap.size + 1), .int .i64 0]) ∧ (∃ m e nw od, w.heap.size ≤ m ∧ w.heap.size ≤ e.blk ∧ Sh Tryz.prog T w' (w.heap.size + 1) m e room [] nw od) ∧ Keeps (fun _ => False) w w' := by
  obtain ⟨W0, hW0⟩ : ∃ W0, W0 = w.alloc (.cells #[.int .i64 0, .pointer none, .pointer none] 176) := ⟨_, rfl⟩
  obtain ⟨W1, hW1⟩ : ∃ W1, W1 = W0.alloc (.cells #[.int .i64 room, .map none, ptr w.heap.size] 179) := ⟨_, rfl⟩
  have hz : W0.heap.size = w.heap.size + 1 := by rw [hW0]; simp
  have he1 : Blk W1 w.heap.size [.int .i64 0, .pointer none, .pointer none] 176 := by
    rw [hW1]; refine Blk.alloc ?_ _; rw [hW0]; exact Blk.new w _ 176
  have hs1 : Blk W1 (w.heap.size + 1) [.int .i64 room, .map none, ptr w.heap.size] 179 := by
    rw [hW1, ← hz]; exact Blk.new W0 _ 179
  have hK1 : Keeps (fun _ => False) w W1 := by rw [hW1, hW0]; exact ((Keeps.refl _ w).alloc _).alloc _
  have H1 : Hid (Calls _ _ _ _ _) := clear_any (w.heap.size + 1) ⟨w.heap.size, 0⟩ (.map none) _ _ room W1 hs1 he1 (by simp) lo hi
  have HK : Hid (Keeps (fun _ => False) w W1) := hK1
  have HZ : Hid (W0.heap.size = w.heap.size + 1) := hz
  have HW : Hid (W1 = (w.alloc (.cells #[.int .i64 0, .pointer none, .pointer none] 176)).alloc (.cells #[.int .i64 room, .map none, ptr w.heap.size] 179)) := by rw [← hW0]; exact hW1
  have h1 : ¬ ((room : Int) < 1) := by omega
  have h2 : ¬ ((room : Int) > 4096) := by omega
  clear hW0 hW1 hz he1 hs1 hK1 lo hi
  go_enter Tryz.func69, Tryz.ntmps69
  go_wp2_with fail
  rw [← HW.out]
  refine H1.out.mono ?_
  rintro r w2 ⟨rfl, ⟨nw, od, hS⟩, hK⟩
  have HS : Hid ((∃ m e nw od, w.heap.size ≤ m ∧ w.heap.size ≤ e.blk ∧ Sh Tryz.prog T w2 (w.heap.size + 1) m e room [] nw od) ∧ Keeps (fun _ => False) w w2) :=
    ⟨⟨_, _, nw, od, HK.out.size, Nat.le_refl _, hS⟩, HK.out.trans hK (by
      rintro b hb (h | h)
      · omega
      · first | omega | (simp at h; omega))⟩
  clear hS hK H1 HW
  go_wp2
  go_ret2
  exact ⟨rfl, HS.out⟩

theorem new_out (room : Int) (w : World) (h : room < 1 ∨ 4096 < room) :
    Calls Tryz.prog 69 #[.int .i64 room] w fun r w' => r = .returned (.tuple #[.pointer none, .int .i64 60]) ∧ w' = w := by
  by_cases h1 : room < 1
  · clear h
    go_enter Tryz.func69, Tryz.ntmps69
    go_wp2
    go_ret2
    exact ⟨rfl, rfl⟩
  · have h2 : 4096 < room := by omega
    clear h
    go_enter Tryz.func69, Tryz.ntmps69
    go_wp2
    go_ret2
    exact ⟨rfl, rfl⟩

end Go.Proofs.YtipejahmjdamjaaGreatDoor.Ch
namespace Go.Proofs.YtipejahmjdamjaaGreatDoor.Ch
open Go.RowKit Go.Shelf
set_option linter.unusedVariables false

theorem sh_key_ok {w : World} {s m room : Nat} {e : N} {xs : List N} {nw od : Nat → Nat} (h : Sh Tryz.prog T w s m e room xs nw od) : ∀ x ∈ xs, I64 x.key := by
  intro x hx
  obtain ⟨es, c, _, _, _, h4⟩ := h.map
  obtain ⟨lit, hl⟩ := h4 (.int .i64 x.key, ptr x.blk) (List.mem_map.2 ⟨x, hx, rfl⟩)
  have h1 : IntKind.i64.min = -9223372036854775808 := rfl
  have h2 : IntKind.i64.max = 9223372036854775807 := rfl
  have hu : Tryz.prog.underlying T.k = some (.int .i64) := Tryz.underlying3
  simp [keyOf, hu, mapKey, Lit.wf, h1, h2] at hl
  obtain ⟨⟨h3, h4⟩, _⟩ := hl
  exact ⟨h3, h4⟩

abbrev Sf (w : World) (s : Nat) (room : Nat) (ks : List Int) (F : Nat → Prop) : Prop := Shelf Tryz.prog T w s room ks F

theorem sf_key_ok {w : World} {s room : Nat} {ks : List Int} {F : Nat → Prop} (h : Sf w s room ks F) : ∀ k ∈ ks, I64 k := by
  obtain ⟨m, e, xs, nw, od, h1, rfl, h3, h4⟩ := h
  intro p hp
  obtain ⟨x, hx, rfl⟩ := List.mem_map.1 hp
  exact sh_key_ok h1 x hx

/-- What is there behind a Get. -/
def touch (k : Int) (ks : List Int) : List Int := if k ∈ ks then ks.erase k ++ [k] else ks
/-- What is there behind a Put, and what it answers. -/
def putL (room : Nat) (k : Int) (ks : List Int) : List Int :=
  if k ∈ ks then ks.erase k ++ [k] else if ks.length < room then ks ++ [k] else ks.tail ++ [k]
def goneL (room : Nat) (k : Int) (ks : List Int) : Int × Bool :=
  if k ∈ ks then (0, false) else if ks.length < room then (0, false) else ((ks.head?).getD 0, true)

theorem key_in {A C : List N} {x : N} : x.key ∈ (A ++ x :: C).map N.key := by simp
theorem key_out {xs : List N} {k : Int} (h : ∀ x ∈ xs, x.key ≠ k) : k ∉ xs.map N.key := by
  intro hm
  obtain ⟨x, hx, he⟩ := List.mem_map.1 hm
  exact h x hx he
theorem key_erase {A C : List N} {x : N} (h : ((A ++ x :: C).map N.key).Nodup) : ((A ++ x :: C).map N.key).erase x.key = (A ++ C).map N.key := by
  rw [List.map_append, List.map_cons] at h ⊢
  rw [erase_split h, List.map_append]

/-- Where the shelf is now: its blocks are old ones of its own or new ones. -/
def Now (w w' : World) (s room : Nat) (ks : List Int) (F : Nat → Prop) : Prop :=
  (∃ F', Sf w' s room ks F' ∧ ∀ b, F' b → F b ∨ w.heap.size ≤ b) ∧ Keeps F w w'

theorem now_of {w w' : World} {s room m m' : Nat} {e e' : N} {xs ys : List N} {nw od : Nat → Nat} {ks : List Int} {F : Nat → Prop} (h3 : ∀ b, Own s m e xs b → F b) (h4 : ∀ b, F b → b < w.heap.size)
    (h : Sh Tryz.prog T w' s m' e' room ys nw od) (hk : ks = ys.map N.key) (hO : ∀ b, Own s m' e' ys b → Own s m e xs b ∨ w.heap.size ≤ b) (hK : Keeps (Own s m e xs) w w') : Now w w' s room ks F := by
  refine ⟨⟨fun b => (F b ∨ w.heap.size ≤ b) ∧ b < w'.heap.size, ⟨m', e', ys, nw, od, h, hk, fun b hb => ⟨?_, h.lt b hb⟩, fun b hb => hb.2⟩, fun b hb => hb.1⟩, hK.mono fun b _ hb => h3 b hb⟩
  rcases hO b hb with h | h
  · exact .inl (h3 b h)
  · exact .inr h

theorem now_same {w : World} {s room : Nat} {ks : List Int} {F : Nat → Prop} (h : Sf w s room ks F) : Now w w s room ks F :=
  ⟨⟨F, h, fun b hb => .inl hb⟩, Keeps.refl _ _⟩

theorem now_keep {w w' : World} {s room : Nat} {ks : List Int} {F : Nat → Prop} (h : Sf w s room ks F) (hK : Keeps (fun _ => False) w w') : Now w w' s room ks F :=
  ⟨⟨F, h.kept hK fun _ _ h => h, fun b hb => .inl hb⟩, hK.mono fun _ _ h => h.elim⟩

theorem own_sub {s m : Nat} {e : N} {xs ys : List N} (h : ∀ x ∈ ys, x ∈ xs) {b : Nat} (hb : Own s m e ys b) : Own s m e xs b := by
  rcases hb with h1 | h1 | ⟨z, hz, h1⟩
  · exact .inl h1
  · exact .inr (.inl h1)
  · refine .inr (.inr ⟨z, ?_, h1⟩)
    rcases List.mem_cons.1 hz with h2 | h2
    · simp [h2]
    · exact List.mem_cons_of_mem _ (h z h2)

theorem get_any (s room : Nat) (ks : List Int) (F : Nat → Prop) (k : Int) (w : World) (h : Sf w s room ks F) (hk : I64 k) :
    Calls Tryz.prog 177 #[ptr s, .int .i64 k] w fun r w' => r = .returned (.tuple #[.agg #[], .bool (decide (k ∈ ks))]) ∧ Now w w' s room (touch k ks) F := by
  have hs := h
  have hnd := h.keys
  obtain ⟨m, e, xs, nw, od, h1, rfl, h3, h4⟩ := h
  unfold touch
  rcases key_split k xs with ⟨A, x, C, rfl, rfl⟩ | hn
  · rw [if_pos key_in, decide_eq_true key_in, key_erase hnd]
    refine (get_in s m e x room A C nw od w h1 hk).mono ?_
    rintro r w' ⟨rfl, ⟨nw', od', hS⟩, hK⟩
    refine ⟨rfl, now_of h3 h4 hS (by simp) (fun b hb => .inl (own_sub (fun z hz => ?_) hb)) hK⟩
    simp at hz ⊢; rcases hz with h | h | h <;> simp [h]
  · have hl := key_out hn
    rw [if_neg hl, decide_eq_false hl]
    refine (get_out s m e room xs nw od k w h1 hk hn).mono ?_
    rintro r w' ⟨rfl, hK⟩
    exact ⟨rfl, now_keep hs hK⟩

theorem put_any (s room : Nat) (ks : List Int) (F : Nat → Prop) (k : Int) (w : World) (h : Sf w s room ks F) (hk : I64 k) :
    Calls Tryz.prog 85 #[ptr s, .int .i64 k, .agg #[]] w fun r w' => r = .returned (.tuple #[.int .i64 (goneL room k ks).1, .bool (goneL room k ks).2]) ∧ Now w w' s room (putL room k ks) F := by
  have hs := h
  have hnd := h.keys
  obtain ⟨m, e, xs, nw, od, h1, rfl, h3, h4⟩ := h
  unfold goneL putL
  rcases key_split k xs with ⟨A, x, C, rfl, rfl⟩ | hn
  · rw [if_pos key_in, if_pos key_in, key_erase hnd]
    refine (put_in s m e x room A C nw od w h1 hk).mono ?_
    rintro r w' ⟨rfl, ⟨nw', od', hS⟩, hK⟩
    refine ⟨rfl, now_of h3 h4 hS (by simp) (fun b hb => .inl (own_sub (fun z hz => ?_) hb)) hK⟩
    simp at hz ⊢; rcases hz with h | h | h <;> simp [h]
  · have hl := key_out hn
    rw [if_neg hl, if_neg hl]
    by_cases hf : xs.length < room
    · simp only [List.length_map, if_pos hf]
      refine (put_new s m e room xs nw od k w h1 hk hn hf).mono ?_
      rintro r w' ⟨rfl, ⟨b0, nw', od', hb0, hS⟩, hK⟩
      refine ⟨rfl, now_of h3 h4 hS (by simp) (fun b hb => ?_) hK⟩
      rcases hb with h | h | ⟨z, hz, h⟩
      · exact .inl (.inl h)
      · exact .inl (.inr (.inl h))
      · simp at hz
        rcases hz with h5 | h5 | h5
        · exact .inl (.inr (.inr ⟨e, by simp, by rw [h, h5]⟩))
        · exact .inl (.inr (.inr ⟨z, by simp [h5], h⟩))
        · exact .inr (by rw [h, h5]; exact hb0)
    · simp only [List.length_map, if_neg hf]
      cases xs with
      | nil => have := h1.lo; simp at hf; omega
      | cons x xs =>
        have hfit := h1.fits
        simp at hfit hf
        refine (put_full s m e x room xs nw od k w h1 hk (sh_key_ok h1 x (by simp)) hn (by omega)).mono ?_
        rintro r w' ⟨rfl, ⟨b0, nw', od', hb0, hS⟩, hK⟩
        refine ⟨rfl, now_of h3 h4 hS (by simp) (fun b hb => ?_) hK⟩
        rcases hb with h | h | ⟨z, hz, h⟩
        · exact .inl (.inl h)
        · exact .inl (.inr (.inl h))
        · simp at hz
          rcases hz with h5 | h5 | h5
          · exact .inl (.inr (.inr ⟨e, by simp, by rw [h, h5]⟩))
          · exact .inl (.inr (.inr ⟨z, by simp [h5], h⟩))
          · exact .inr (by rw [h, h5]; exact hb0)

theorem clear_all (s room : Nat) (ks : List Int) (F : Nat → Prop) (w : World) (h : Sf w s room ks F) :
    Calls Tryz.prog 96 #[ptr s] w fun r w' => r = .returned (.tuple #[]) ∧ Now w w' s room [] F := by
  obtain ⟨m, e, xs, nw, od, h1, rfl, h3, h4⟩ := h
  refine (clear_any s e _ _ _ room w h1.blk (h1.ring.nodes e (by simp)) (fun he => h1.sx e (by simp) he.symm) h1.lo h1.hi).mono ?_
  rintro r w' ⟨rfl, ⟨nw', od', hS⟩, hK⟩
  refine ⟨rfl, now_of h3 h4 hS rfl (fun b hb => ?_) (hK.mono fun b _ hb => ?_)⟩
  · rcases hb with h | h | ⟨z, hz, h⟩
    · exact .inl (.inl h)
    · exact .inr (by omega)
    · simp at hz; subst hz; exact .inl (.inr (.inr ⟨z, by simp, h⟩))
  · rcases hb with h | h
    · exact .inl h
    · exact .inr (.inr ⟨e, by simp, h⟩)

theorem new_any (room : Nat) (w : World) (lo : 1 ≤ room) (hi : room ≤ 4096) :
    Calls Tryz.prog 69 #[.int .i64 room] w fun r w' => r = .returned (.tuple #[ptr (w.heap.size + 1), .int .i64 0]) ∧ (∃ F, Sf w' (w.heap.size + 1) room [] F ∧ ∀ b, F b → w.heap.size ≤ b) ∧ Keeps (fun _ => False) w w' := by
  refine (new_in room w lo hi).mono ?_
  rintro r w' ⟨rfl, ⟨m, e, nw, od, hm, he, hS⟩, hK⟩
  refine ⟨rfl, ⟨fun b => w.heap.size ≤ b ∧ b < w'.heap.size, ⟨m, e, [], nw, od, hS, rfl, fun b hb => ⟨?_, hS.lt b hb⟩, fun b hb => hb.2⟩, fun b hb => hb.1⟩, hK⟩
  rcases hb with h | h | ⟨z, hz, h⟩
  · omega
  · omega
  · simp at hz; subst hz; omega

end Go.Proofs.YtipejahmjdamjaaGreatDoor.Ch
namespace Go.Proofs.YtipejahmjdamjaaGreatDoor.Ch
open Go.RowKit
set_option linter.unusedVariables false

theorem grown_of_keeps {S : Nat → Prop} {w w' : World} {row : Option Nat} (h : Keeps S w w') (hs : ∀ k, k < w.heap.size → S k → some k = row) : w.grownBy w' row :=
  ⟨h.os, h.tape, h.output, h.size, fun k hk hn => h.block k hk fun hS => hn (hs k hk hS)⟩

/-- An owned row is kept where its block is. -/
theorem owns_kept {S : Nat → Prop} {w w' : World} {e : TypeId} {size n : Nat} {v : Value} {vs : List Value} (h : w.ownsRow 0 e size v n vs) (hK : Keeps S w w') (hn : ∀ k, v.ownBlock = some k → ¬ S k) : w'.ownsRow 0 e size v n vs := by
  refine ⟨h.1, ?_⟩
  rcases h.2 with h2 | ⟨g, cap, cur, rfl, hb, hg, h3⟩
  · exact .inl h2
  · refine .inr ⟨g, cap, cur, rfl, hb, ?_, h3⟩
    rw [hK.block g (Array.getElem?_eq_some_iff.1 hg).1 (hn g rfl)]
    exact hg

/-! ### append to a row of one's own, and where the new row lies -/

theorem append_many {w : World} (t e : TypeId) (i : TypeInfo) (z : Value) (size bytes : Nat) (ht : Tryz.prog.underlying t = some (.slice e)) (hi : Tryz.prog.info? e = some i) (hz : i.zero = some z)
    (hs : i.size = size) (hb : i.bytes = bytes) (hzs : z.cells.size = size) (h0 : 0 < size) (v : Value) (n : Nat) (vs : List Value) (hown : w.ownsRow 0 e size v n vs)
    (a : Addr) (m c : Nat) (news : List Value) (hl : news.length = m * size) (hnews : ∀ j u, news[j]? = some u → w.cell? (a.add j) = some u) (h1 : ∀ u ∈ news, u.oneCell' = true)
    (hm : n + m ≤ maxLen) (hbytes : (n + m) * bytes ≤ 140737488355328) :
    ∃ v' W', (∀ ty, (Builtin.append_ #[t, t] ty #[v, .slice (some a) m c]).run Tryz.prog w = .ok v' W') ∧ W'.ownsRow 0 e size v' (n + m) (vs ++ news) ∧
      (v'.ownBlock = v.ownBlock ∨ ∃ k, v'.ownBlock = some k ∧ w.heap.size ≤ k) ∧ Keeps (fun k => some k = v.ownBlock) w W' := by
  obtain ⟨v', W', hr, ho, hg, hnil⟩ := run_append_own (P := Tryz.prog) w 0 t 0 e i z size bytes ht hi hz hs hb hzs h0 v n vs hown a m c news hl hnews h1 hm hbytes (Nat.zero_le _)
  refine ⟨v', W', fun ty => hr, ho, ?_, Keeps.of_grown hg⟩
  have hbig : n + m ≤ 9223372036854775807 := by unfold maxLen at hm; omega
  rcases hown.2 with ⟨rfl, rfl⟩ | ⟨g, cap, cur, rfl, _, hg1, hnc, hcm, hcs, htake⟩
  · by_cases hm0 : m = 0
    · left; rw [hnil.2 ⟨rfl, hm0⟩]
    · have h2 := run_append_nil (P := Tryz.prog) w t 0 e i z ht hi hz a m c news (by rw [hs]; exact hl) hnews (by omega) (by omega) (by
        rw [hb]
        rw [Nat.zero_add] at hbytes
        omega)
      rw [hr] at h2
      have e1 : v' = _ := (Result.ok.inj h2).1
      right
      rw [e1]
      exact ⟨_, rfl, by simp⟩
  · by_cases hroom : n + m ≤ cap
    · have h2 := run_append_room (P := Tryz.prog) w t 0 e i ht hi g n cap cur hg1 a m c news (by rw [hs]; exact hl) hnews h1 hroom (by
        rw [hs, hcs, hl, ← Nat.add_mul]; exact Nat.mul_le_mul_right _ hroom)
      rw [hr] at h2
      have e1 : v' = _ := (Result.ok.inj h2).1
      left
      rw [e1]
      rfl
    · have h2 := run_append_grow (P := Tryz.prog) w t 0 e i z ht hi hz ⟨g, 0, none⟩ n cap vs (by rw [hs]; exact hown.1) (hown.cells rfl) a m c news (by rw [hs]; exact hl) hnews (by omega) (by omega) (by
        rw [hb]; exact growslice_fits (by omega) hbytes)
      rw [hr] at h2
      have e1 : v' = _ := (Result.ok.inj h2).1
      right
      rw [e1]
      exact ⟨_, rfl, by simp⟩

/-- append of nothing, from nowhere. -/
theorem append_none {w : World} (t e : TypeId) (i : TypeInfo) (size : Nat) (ht : Tryz.prog.underlying t = some (.slice e)) (hi : Tryz.prog.info? e = some i)
    (hs : i.size = size) (h0 : 0 < size) (v : Value) (n c : Nat) (vs : List Value) (hown : w.ownsRow 0 e size v n vs) (ty : TypeId) :
    (Builtin.append_ #[t, t] ty #[v, .slice none 0 c]).run Tryz.prog w = .ok v w := by
  rcases hown.2 with ⟨rfl, rfl⟩ | ⟨g, cap, cur, rfl, _, hg1, hnc, hcm, hcs, htake⟩
  · simp [Builtin.append_, run_underlying ht, sizeOf, typeInfo, hi, Builtin.lenOf, run_firstCells_none]
  · simp [Builtin.append_, run_underlying ht, sizeOf, typeInfo, hi, Builtin.lenOf, hnc, run_firstCells_none, storeCells]

/-- append of a new block of one. -/
theorem append_new {w : World} (t e : TypeId) (i : TypeInfo) (z : Value) (size bytes : Nat) (ht : Tryz.prog.underlying t = some (.slice e)) (hi : Tryz.prog.info? e = some i) (hz : i.zero = some z)
    (hs : i.size = size) (hb : i.bytes = bytes) (hzs : z.cells.size = size) (h0 : 0 < size) (v : Value) (n : Nat) (vs : List Value) (hown : w.ownsRow 0 e size v n vs)
    (xs : Array Value) (hl : xs.size = size) (h1 : ∀ u ∈ xs.toList, u.oneCell' = true)
    (hm : n + 1 ≤ maxLen) (hbytes : (n + 1) * bytes ≤ 140737488355328) :
    ∃ v' W', (∀ ty, (Builtin.append_ #[t, t] ty #[v, .slice (some ⟨w.heap.size, 0, none⟩) 1 1]).run Tryz.prog (w.alloc (.cells xs e)) = .ok v' W') ∧ W'.ownsRow 0 e size v' (n + 1) (vs ++ xs.toList) ∧
      (v'.ownBlock = v.ownBlock ∨ ∃ k, v'.ownBlock = some k ∧ w.heap.size ≤ k) ∧ Keeps (fun k => some k = v.ownBlock) w W' := by
  have hW : Keeps (fun _ => False) w (w.alloc (.cells xs e)) := (Keeps.refl _ w).alloc _
  have hown1 : (w.alloc (.cells xs e)).ownsRow 0 e size v n vs := owns_kept hown hW (fun _ _ h => h)
  obtain ⟨v', W', hr, ho, hfr, hK⟩ := append_many t e i z size bytes ht hi hz hs hb hzs h0 v n vs hown1 ⟨w.heap.size, 0, none⟩ 1 1 xs.toList (by simpa using hl) (by
    intro j u hj
    have hB := Blk.new w xs e
    rw [addr_add]
    exact hB.cell (by rw [Nat.zero_add]; exact hj)) h1 hm hbytes
  refine ⟨v', W', hr, ho, ?_, (hW.mono fun _ _ h => h.elim).trans hK fun _ _ h => h⟩
  rcases hfr with h | ⟨k, h, h2⟩
  · exact .inl h
  · exact .inr ⟨k, h, by simp at h2; omega⟩

/-- A row that has grown: where it lies, and that nothing else was changed. -/
structure Grew (w : World) (v : Value) (w' : World) (v' : Value) : Prop where
  fresh : v'.ownBlock = v.ownBlock ∨ ∃ k, v'.ownBlock = some k ∧ w.heap.size ≤ k
  keeps : Keeps (fun k => some k = v.ownBlock) w w'

theorem Grew.refl (w : World) (v : Value) : Grew w v w v := ⟨.inl rfl, Keeps.refl _ _⟩
theorem Grew.trans {w w1 w2 : World} {v v1 v2 : Value} (h : Grew w v w1 v1) (k : Grew w1 v1 w2 v2) : Grew w v w2 v2 := by
  refine ⟨?_, h.keeps.trans k.keeps ?_⟩
  · rcases k.fresh with e | ⟨b, e, hb⟩
    · rw [e]; exact h.fresh
    · exact .inr ⟨b, e, Nat.le_trans h.keeps.size hb⟩
  · intro b hb e
    rcases h.fresh with f | ⟨c, f, hc⟩
    · rw [← f]; exact e
    · rw [f] at e; cases e; omega


theorem Grew.owns {w w' : World} {v v' : Value} (h : Grew w v w' v') (hv : v.ownBlock = none) : Keeps (fun _ => False) w w' :=
  h.keeps.mono fun b _ e => by rw [hv] at e; cases e

end Go.Proofs.YtipejahmjdamjaaGreatDoor.Ch
