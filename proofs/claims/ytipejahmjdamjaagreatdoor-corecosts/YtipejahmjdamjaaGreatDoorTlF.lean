import Derived.Test.YtipejahmjdamjaaGreatDoorTlD
namespace Go.Proofs.YtipejahmjdamjaaGreatDoor.Tl
open Go.RowKit Go.Shelf
set_option linter.unusedVariables false

set_option maxHeartbeats 400000 in
theorem put_in (s m : Nat) (e x : N) (room : Nat) (A C : List N) (nw od : Nat → Nat) (l : Lf) (w : World) (h : Sh Tryz.prog T w s m e room (A ++ x :: C) nw od) (hk : I64 x.key) :
    Calls Tryz.prog 124 #[ptr s, .int .i64 x.key, l.v] w fun r w' => r = .returned (.tuple #[.int .i64 0, .bool false]) ∧ (∃ nw' od', Sh Tryz.prog T w' s m e room (A ++ C ++ [{ x with thing := l }]) nw' od') ∧ Keeps (Own s m e (A ++ x :: C)) w w' := by
  obtain ⟨W, hW⟩ : ∃ W, W = w.alloc (.cells #[.int .i64 l.p, .int .i64 l.f, .int .i64 l.r] 64) := ⟨_, rfl⟩
  have hKW : Keeps (fun _ => False) w W := by rw [hW]; exact (Keeps.refl _ w).alloc _
  have hB : Blk W w.heap.size l.vs 64 := by rw [hW]; exact Blk.new w _ 64
  have h0 := h.kept hKW fun _ _ h => h
  have hx := h0.ring.nodes x (by simp)
  have f1 := hx.frozen 1
  have f2 := hx.frozen 2
  have f3 := hx.frozen 3
  have d1 := hx.cell (i := 1) rfl
  have d2 := hx.cell (i := 2) rfl
  have d3 := hx.cell (i := 3) rfl
  have v0 := hB.cell (i := 0) rfl
  have v1 := hB.cell (i := 1) rfl
  have v2 := hB.cell (i := 2) rfl
  have H1 : Hid (Calls _ _ _ _ _) := find_some s m e x room A C nw od W h0 hk
  have H2 : Hid (Calls Tryz.prog 171 #[ptr s, ptr x.blk] _ _) := renew_any s m e { x with thing := l } room A C nw od _ (h0.setThing l)
  obtain ⟨k, hkk⟩ : ∃ k, k = x.key := ⟨_, rfl⟩
  rw [← hkk] at H1 ⊢
  have HE : Hid (k = x.key ∧ W = _ ∧ Keeps (fun _ => False) w W) := ⟨hkk, hW, hKW⟩
  clear h hk hkk hx h0 hKW hW hB
  go_enter Tryz.func124, Tryz.ntmps124
  go_wp2_with fail
  rw [← HE.out.2.1]
  refine H1.out.mono ?_
  rintro r w1 ⟨rfl, rfl⟩
  clear H1
  go_wp2_with fail
  refine H2.out.mono ?_
  rintro r w2 ⟨rfl, hS, hK⟩
  have HS : Hid ((∃ nw' od', Sh Tryz.prog T w2 s m e room (A ++ C ++ [{ x with thing := l }]) nw' od') ∧ Keeps (Own s m e (A ++ { x with thing := l } :: C)) _ w2) := ⟨hS, hK⟩
  clear hS hK H2 f1 d1 f2 f3 d2 d3 v0 v1 v2
  go_wp2
  go_ret2
  refine ⟨rfl, by rw [HE.out.1]; exact HS.out.1, ?_⟩
  have hK := HS.out.2
  have hx : w1.heap.size < w1.heap.size ∨ True := .inr trivial
  refine ((((HE.out.2.2.mono fun _ _ h => h.elim).setCell _ _ ?_).setCell _ _ ?_).setCell _ _ ?_).trans hK ?_
  · exact fun _ => .inr (.inr ⟨x, by simp, rfl⟩)
  · exact fun _ => .inr (.inr ⟨x, by simp, rfl⟩)
  · exact fun _ => .inr (.inr ⟨x, by simp, rfl⟩)
  rintro b _ (rfl | rfl | ⟨z, hz, rfl⟩)
  · exact .inl rfl
  · exact .inr (.inl rfl)
  · simp at hz
    rcases hz with h | h | h | h
    · exact .inr (.inr ⟨e, by simp, by rw [h]⟩)
    · exact .inr (.inr ⟨z, by simp [h], rfl⟩)
    · exact .inr (.inr ⟨x, by simp, by rw [h]⟩)
    · exact .inr (.inr ⟨z, by simp [h], rfl⟩)

set_option maxHeartbeats 1000000 in
theorem put_new (s m : Nat) (e : N) (room : Nat) (xs : List N) (nw od : Nat → Nat) (k : Int) (l : Lf) (w : World) (h : Sh Tryz.prog T w s m e room xs nw od) (hk : I64 k) (hn : ∀ x ∈ xs, x.key ≠ k) (hf : xs.length < room) :
    Calls Tryz.prog 124 #[ptr s, .int .i64 k, l.v] w fun r w' => r = .returned (.tuple #[.int .i64 0, .bool false]) ∧ (∃ b nw' od', w.heap.size ≤ b ∧ Sh Tryz.prog T w' s m e room (xs ++ [⟨b, k, l⟩]) nw' od') ∧ Keeps (Own s m e xs) w w' := by
  obtain ⟨W, hW⟩ : ∃ W, W = w.alloc (.cells #[.int .i64 l.p, .int .i64 l.f, .int .i64 l.r] 64) := ⟨_, rfl⟩
  have hKW : Keeps (fun _ => False) w W := by rw [hW]; exact (Keeps.refl _ w).alloc _
  have hB : Blk W w.heap.size l.vs 64 := by rw [hW]; exact Blk.new w _ 64
  have h0 := h.kept hKW fun _ _ h => h
  have v0 := hB.cell (i := 0) rfl
  have v1 := hB.cell (i := 1) rfl
  have v2 := hB.cell (i := 2) rfl
  have HW : Hid (W = _ ∧ Keeps (fun _ => False) w W) := ⟨hW, hKW⟩
  have H1 : Hid (Calls _ _ _ _ _) := find_none s m e room xs nw od k W h0 hk hn
  have hL : (mapOf xs).length = xs.length := by simp [mapOf]
  have H2 : Hid (∀ q, Calls Tryz.prog 172 #[ptr s, .int .i64 k, l.v] (W.drewN q) _) := fun q => add_any s m e room xs nw od k l (W.drewN q) (h0.drewN q) hk hn hf
  have hl : ∀ ty q, (Builtin.len_ #[169] ty #[.map (some m)]).run Tryz.prog (W.drewN q) = .ok (.int .i64 xs.length) (W.drewN q) := fun ty q => by
    have := (h0.drewN q).map.len (ty := ty) Tryz.underlying169
    rw [hL] at this
    exact this
  have c0 := h0.cells.1
  have c1 := h0.cells.2.1
  obtain ⟨L, hLL⟩ : ∃ L, L = xs.length := ⟨_, rfl⟩
  rw [← hLL] at hl hf
  have hf' : (L : Int) < room := by omega
  clear h hk hn hL hLL hf h0 hKW hW hB
  go_enter Tryz.func124, Tryz.ntmps124
  go_wp2_with fail
  rw [← HW.out.1]
  refine H1.out.mono ?_
  rintro r w1 ⟨rfl, rfl⟩
  clear H1
  go_wp2_with fail
  go_quiet (fail)
  go_wp2_with fail
  refine (H2.out _).mono ?_
  rintro r w2 ⟨rfl, hS, hK⟩
  have HS : Hid ((∃ b nw' od', w.heap.size ≤ b ∧ Sh Tryz.prog T w2 s m e room (xs ++ [⟨b, k, l⟩]) nw' od') ∧ Keeps (Own s m e xs) w w2) := ⟨by obtain ⟨nw', od', hS⟩ := hS; exact ⟨_, nw', od', by have := HW.out.2.size; simp; omega, hS⟩, (HW.out.2.mono fun _ _ h => h.elim).trans hK.fromDrewN fun _ _ h => h⟩
  clear hS hK H2 c0 c1 hl v0 v1 v2
  go_wp2
  go_ret2
  exact ⟨rfl, HS.out⟩

set_option maxHeartbeats 1000000 in
theorem put_full (s m : Nat) (e x : N) (room : Nat) (xs : List N) (nw od : Nat → Nat) (k : Int) (l : Lf) (w : World) (h : Sh Tryz.prog T w s m e room (x :: xs) nw od) (hk : I64 k) (hkx : I64 x.key) (hn : ∀ z ∈ x :: xs, z.key ≠ k) (hf : xs.length + 1 = room) :
    Calls Tryz.prog 124 #[ptr s, .int .i64 k, l.v] w fun r w' => r = .returned (.tuple #[.int .i64 x.key, .bool true]) ∧ (∃ b nw' od', w.heap.size ≤ b ∧ Sh Tryz.prog T w' s m e room (xs ++ [⟨b, k, l⟩]) nw' od') ∧ Keeps (Own s m e (x :: xs)) w w' := by
  obtain ⟨W, hW⟩ : ∃ W, W = w.alloc (.cells #[.int .i64 l.p, .int .i64 l.f, .int .i64 l.r] 64) := ⟨_, rfl⟩
  have hKW : Keeps (fun _ => False) w W := by rw [hW]; exact (Keeps.refl _ w).alloc _
  have hB : Blk W w.heap.size l.vs 64 := by rw [hW]; exact Blk.new w _ 64
  have h0 := h.kept hKW fun _ _ h => h
  have hBO : ¬ Own s m e (x :: xs) w.heap.size := fun ho => by have := h.lt _ ho; omega
  have HB : Hid (Blk W w.heap.size l.vs 64 ∧ ¬ Own s m e (x :: xs) w.heap.size) := ⟨hB, hBO⟩
  have HW : Hid (W = _ ∧ Keeps (fun _ => False) w W) := ⟨hW, hKW⟩
  have H1 : Hid (Calls _ _ _ _ _) := find_none s m e room (x :: xs) nw od k W h0 hk hn
  have hL : (mapOf (x :: xs)).length = room := by simp [mapOf]; omega
  have H2 : Hid (∀ q, Calls Tryz.prog 173 #[ptr s, ptr x.blk] (W.drewN q) _) := fun q => remove_any s m e x room [] xs nw od (W.drewN q) (h0.drewN q) hkx
  have hl : ∀ ty q, (Builtin.len_ #[169] ty #[.map (some m)]).run Tryz.prog (W.drewN q) = .ok (.int .i64 room) (W.drewN q) := fun ty q => by
    have := (h0.drewN q).map.len (ty := ty) Tryz.underlying169
    rw [hL] at this
    exact this
  have c0 := h0.cells.1
  have c1 := h0.cells.2.1
  have c2 := h0.cells.2.2
  have en : nw e.blk = x.blk := h.ring.chain.1
  have c3 := (h0.ring.nodes e (by simp)).cell (i := 5) rfl
  rw [en] at c3
  have hxo : ¬ Own s m e xs x.blk := by
    rintro (he | he | ⟨z, hz, he⟩)
    · exact h.sx x (by simp) he
    · exact h.mx x (by simp) he
    · have nd := h.ring.nodup
      rw [List.map_cons] at nd
      rcases List.mem_cons.1 hz with h' | h'
      · rw [h'] at he; rw [he] at nd; simp at nd
      · have := (List.nodup_cons.1 (List.nodup_cons.1 nd).2).1
        exact this (by rw [he]; exact List.mem_map.2 ⟨z, h', rfl⟩)
  have HXO : Hid (¬ Own s m e xs x.blk) := hxo
  have HX : Hid ((∀ z ∈ xs, z.key ≠ k) ∧ I64 k ∧ xs.length < room ∧ ∀ b, Own s m e (x :: xs) b → b < w.heap.size) := ⟨fun z hz => hn z (by simp [hz]), hk, by omega, h.lt⟩
  clear h hk hkx hn hL hf en hxo h0 hKW hW hB hBO
  go_enter Tryz.func124, Tryz.ntmps124
  go_wp2_with fail
  rw [← HW.out.1]
  refine H1.out.mono ?_
  rintro r w1 ⟨rfl, rfl⟩
  clear H1
  go_wp2_with fail
  go_quiet (fail)
  go_wp2_with fail
  refine (H2.out _).mono ?_
  rintro r w2 ⟨rfl, ⟨nw2, od2, hS⟩, hK, kx⟩
  have HK : Hid (Keeps (Own s m e (x :: xs)) w w2) := (HW.out.2.mono fun _ _ h => h.elim).trans hK.fromDrewN fun _ _ h => h
  have hB2 : Blk w2 w.heap.size l.vs 64 := HB.out.1.kept hK.fromDrewN HB.out.2
  have v0 := hB2.cell (i := 0) rfl
  have v1 := hB2.cell (i := 1) rfl
  have v2 := hB2.cell (i := 2) rfl
  have hk2 : x.blk < w2.heap.size := Nat.lt_of_lt_of_le (HX.out.2.2.2 x.blk (.inr (.inr ⟨x, by simp, rfl⟩))) HK.out.size
  have H3 : Hid (Calls Tryz.prog 172 #[ptr s, .int .i64 k, l.v] w2 _) := add_any s m e room xs nw2 od2 k l w2 hS HX.out.2.1 HX.out.1 HX.out.2.2.1
  have hxo := HXO.out
  have HK2 : Hid (w2.cell? ⟨x.blk, 0, none⟩ = some (.int .i64 x.key) ∧ x.blk < w2.heap.size ∧ ¬ Own s m e xs x.blk) := ⟨kx, hk2, hxo⟩
  clear hS hK H2 c0 c1 c2 c3 hl kx hk2 hxo hB2
  go_wp2_with fail
  refine H3.out.mono ?_
  rintro r w3 ⟨rfl, ⟨nw3, od3, hS3⟩, hK3⟩
  have k3 : w3.cell? ⟨x.blk, 0, none⟩ = some (.int .i64 x.key) := by
    rw [World.cell?_of_block (w := w2) (hK3.block x.blk HK2.out.2.1 HK2.out.2.2)]
    exact HK2.out.1
  have HS : Hid ((∃ b nw' od', w.heap.size ≤ b ∧ Sh Tryz.prog T w3 s m e room (xs ++ [⟨b, k, l⟩]) nw' od') ∧ Keeps (Own s m e xs) w2 w3) := ⟨⟨_, nw3, od3, Nat.le_succ_of_le HK.out.size, hS3⟩, hK3⟩
  clear hS3 hK3 H3 v0 v1 v2
  go_wp2
  go_ret2
  refine ⟨rfl, HS.out.1, HK.out.trans HS.out.2 ?_⟩
  rintro b _ (rfl | rfl | ⟨z, hz, rfl⟩)
  · exact .inl rfl
  · exact .inr (.inl rfl)
  · simp at hz
    rcases hz with h | h
    · exact .inr (.inr ⟨e, by simp, by rw [h]⟩)
    · exact .inr (.inr ⟨z, by simp [h], rfl⟩)

end Go.Proofs.YtipejahmjdamjaaGreatDoor.Tl
namespace Go.Proofs.YtipejahmjdamjaaGreatDoor.Tl
open Go.RowKit Go.Shelf
set_option linter.unusedVariables false

set_option maxHeartbeats 1000000 in
theorem clear_walk (s e : Nat) (u1 u2 u3 : Value) (w W1 : World) (hW : W1 = (w.alloc (.map #[] 0)).setCell ⟨s, 1, none⟩ (.map (some w.heap.size)))
    (hs : s < w.heap.size) (d1 : w.cell? ⟨s, 1, none⟩ = some u1) (f1 : w.frozen? ⟨s, 1, none⟩ = false) (c2 : W1.cell? ⟨s, 2, none⟩ = some (ptr e)) (d2 : W1.cell? ⟨e, 4, none⟩ = some u2) (d3 : W1.cell? ⟨e, 5, none⟩ = some u3)
    (f2 : W1.frozen? ⟨e, 4, none⟩ = false) (f3 : W1.frozen? ⟨e, 5, none⟩ = false) (hse : s ≠ e) :
    Calls Tryz.prog 95 #[ptr s] w fun r w' => r = .returned (.tuple #[]) ∧ w' = ((W1.setCell ⟨e, 4, none⟩ (ptr e)).setCell ⟨e, 5, none⟩ (ptr e)).drew := by
  have HW : Hid (W1 = _) := hW
  clear hW
  have d1' : (w.alloc (.map #[] 0)).cell? ⟨s, 1, none⟩ = some u1 := by
    rw [World.cell?_of_block (w := w) (Below.heap_alloc w _ s hs)]; exact d1
  have f1' : (w.alloc (.map #[] 0)).frozen? ⟨s, 1, none⟩ = false := by
    rw [World.frozen?_of_block (w := w) (Below.heap_alloc w _ s hs)]; exact f1
  have hmk : (Instr.makeMap 169 none).run Tryz.prog w = .ok (.map (some w.heap.size)) (w.alloc (.map #[] 0)) := run_makeMap 169 w
  clear d1 f1 hs
  go_enter Tryz.func95, Tryz.ntmps95
  go_wp2_with fail
  rw [← HW.out]
  go_region
  go_wp2
  go_end0
  exact ⟨rfl, rfl⟩

theorem clear_any (s : Nat) (e : N) (mv u2 u3 : Value) (room : Nat) (w : World) (h : Blk w s [.int .i64 room, mv, ptr e.blk] 171) (he : Blk w e.blk [.int .i64 e.key, .int .i64 e.thing.p, .int .i64 e.thing.f, .int .i64 e.thing.r, u2, u3] 168) (hne : s ≠ e.blk) (lo : 1 ≤ room) (hi : room ≤ 4096) :
    Calls Tryz.prog 95 #[ptr s] w fun r w' => r = .returned (.tuple #[]) ∧ (∃ nw od, Sh Tryz.prog T w' s w.heap.size e room [] nw od) ∧ Keeps (fun b => b = s ∨ b = e.blk) w w' := by
  obtain ⟨W0, hW0⟩ : ∃ W0, W0 = w.alloc (.map #[] 0) := ⟨_, rfl⟩
  obtain ⟨W1, hW1⟩ : ∃ W1, W1 = W0.setCell ⟨s, 1, none⟩ (.map (some w.heap.size)) := ⟨_, rfl⟩
  have hs0 : Blk W0 s [.int .i64 room, mv, ptr e.blk] 171 := by rw [hW0]; exact h.alloc _
  have he0 : Blk W0 e.blk [.int .i64 e.key, .int .i64 e.thing.p, .int .i64 e.thing.f, .int .i64 e.thing.r, u2, u3] 168 := by rw [hW0]; exact he.alloc _
  have hm0 : MapIs Tryz.prog 3 W0 w.heap.size [] := by rw [hW0]; exact MapIs.new _ _ w
  have hs1 : Blk W1 s [.int .i64 room, .map (some w.heap.size), ptr e.blk] 171 := by rw [hW1]; exact hs0.setCell 1 _
  have he1 : Blk W1 e.blk [.int .i64 e.key, .int .i64 e.thing.p, .int .i64 e.thing.f, .int .i64 e.thing.r, u2, u3] 168 := by rw [hW1]; exact he0.setCell_ne (fun h => hne h.symm) _
  have hm1 : MapIs Tryz.prog 3 W1 w.heap.size [] := by rw [hW1]; exact hm0.setCell (fun h' => by have := h.lt; simp at h'; omega) _
  have hlt := h.lt
  have hle := he.lt
  refine (clear_walk s e.blk mv u2 u3 w W1 (by rw [hW1, hW0]) hlt (h.cell rfl) (h.frozen 1) (hs1.cell rfl) (he1.cell rfl) (he1.cell rfl) (he1.frozen 4) (he1.frozen 5) hne).mono ?_
  rintro r w' ⟨rfl, rfl⟩
  refine ⟨rfl, ⟨fun _ => e.blk, fun _ => e.blk, ⟨((hs1.setCell_ne (a := ⟨e.blk, 4, none⟩) hne _).setCell_ne (a := ⟨e.blk, 5, none⟩) hne _).drew, ?_, ⟨⟨rfl, rfl⟩, by simp, ?_⟩, ?_, ?_, ?_, lo, hi, by simp⟩⟩, ?_⟩
  · show MapIs Tryz.prog 3 _ w.heap.size []
    exact ((hm1.setCell (a := ⟨e.blk, 4, none⟩) (fun h' => by simp at h'; omega) _).setCell (a := ⟨e.blk, 5, none⟩) (fun h' => by simp at h'; omega) _).kept (S := fun _ => False) ((Keeps.refl _ _).drew) fun h => h
  · intro z hz
    simp at hz
    subst hz
    exact ((he1.setCell 4 (ptr z.blk)).setCell 5 (ptr z.blk)).drew
  · omega
  · intro z hz; simp at hz; subst hz; exact fun h => hne h.symm
  · intro z hz; simp at hz; subst hz; intro h'; omega
  · have hK1 : Keeps (fun b => b = s ∨ b = e.blk) w W1 := by
      rw [hW1, hW0]
      exact ((Keeps.refl _ w).alloc _).setCell _ _ fun _ => .inl rfl
    exact ((hK1.setCell _ _ fun _ => .inr rfl).setCell _ _ fun _ => .inr rfl).drew

set_option maxHeartbeats 400000 in
theorem new_in (room : Nat) (w : World) (lo : 1 ≤ room) (hi : room ≤ 4096) :
    Calls Tryz.prog 68 #[.int .i64 room] w fun r w' => r = .returned (.tuple #[ptr (w.heap.size + 1), .int .i64 0]) ∧ (∃ m e nw od, w.heap.size ≤ m ∧ w.heap.size ≤ e.blk ∧ Sh Tryz.prog T w' (w.heap.size + 1) m e room [] nw od) ∧ Keeps (fun _ => False) w w' := by
  obtain ⟨W0, hW0⟩ : ∃ W0, W0 = w.alloc (.cells #[.int .i64 0, .int .i64 0, .int .i64 0, .int .i64 0, .pointer none, .pointer none] 168) := ⟨_, rfl⟩
  obtain ⟨W1, hW1⟩ : ∃ W1, W1 = W0.alloc (.cells #[.int .i64 room, .map none, ptr w.heap.size] 171) := ⟨_, rfl⟩
  have hz : W0.heap.size = w.heap.size + 1 := by rw [hW0]; simp
  have he1 : Blk W1 w.heap.size [.int .i64 0, .int .i64 0, .int .i64 0, .int .i64 0, .pointer none, .pointer none] 168 := by
    rw [hW1]; refine Blk.alloc ?_ _; rw [hW0]; exact Blk.new w _ 168
  have hs1 : Blk W1 (w.heap.size + 1) [.int .i64 room, .map none, ptr w.heap.size] 171 := by
    rw [hW1, ← hz]; exact Blk.new W0 _ 171
  have hK1 : Keeps (fun _ => False) w W1 := by rw [hW1, hW0]; exact ((Keeps.refl _ w).alloc _).alloc _
  have H1 : Hid (Calls _ _ _ _ _) := clear_any (w.heap.size + 1) ⟨w.heap.size, 0, Lf.none⟩ (.map none) _ _ room W1 hs1 he1 (by simp) lo hi
  have HK : Hid (Keeps (fun _ => False) w W1) := hK1
  have HZ : Hid (W0.heap.size = w.heap.size + 1) := hz
  have HW : Hid (W1 = (w.alloc (.cells #[.int .i64 0, .int .i64 0, .int .i64 0, .int .i64 0, .pointer none, .pointer none] 168)).alloc (.cells #[.int .i64 room, .map none, ptr w.heap.size] 171)) := by rw [← hW0]; exact hW1
  have h1 : ¬ ((room : Int) < 1) := by omega
  have h2 : ¬ ((room : Int) > 4096) := by omega
  clear hW0 hW1 hz he1 hs1 hK1 lo hi
  go_enter Tryz.func68, Tryz.ntmps68
  go_wp2_with fail
  rw [← HW.out]
  refine H1.out.mono ?_
  rintro r w2 ⟨rfl, ⟨nw, od, hS⟩, hK⟩
  have HS : Hid ((∃ m e nw od, w.heap.size ≤ m ∧ w.heap.size ≤ e.blk ∧ Sh Tryz.prog T w2 (w.heap.size + 1) m e room [] nw od) ∧ Keeps (fun _ => False) w w2) :=
    ⟨⟨_, _, nw, od, HK.out.size, Nat.le_refl _, hS⟩, HK.out.trans hK (by
      rintro b hb (h | h)
      · omega
      · first | omega | (simp at h; omega))⟩
  clear hS hK H1 HW
  go_wp2
  go_ret2
  exact ⟨rfl, HS.out⟩

theorem new_out (room : Int) (w : World) (h : room < 1 ∨ 4096 < room) :
    Calls Tryz.prog 68 #[.int .i64 room] w fun r w' => r = .returned (.tuple #[.pointer none, .int .i64 60]) ∧ w' = w := by
  by_cases h1 : room < 1
  · clear h
    go_enter Tryz.func68, Tryz.ntmps68
    go_wp2
    go_ret2
    exact ⟨rfl, rfl⟩
  · have h2 : 4096 < room := by omega
    clear h
    go_enter Tryz.func68, Tryz.ntmps68
    go_wp2
    go_ret2
    exact ⟨rfl, rfl⟩

end Go.Proofs.YtipejahmjdamjaaGreatDoor.Tl
