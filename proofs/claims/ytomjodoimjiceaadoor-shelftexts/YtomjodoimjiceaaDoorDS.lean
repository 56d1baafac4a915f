import Derived.Test.YtomjodoimjiceaaDoorCS
namespace Go.Proofs.YtomjodoimjiceaaDoor.S
open Go.RowKit Go.Shelf
set_option linter.unusedVariables false
set_option maxRecDepth 6000

abbrev Lf.none : Lf := ⟨0, 0⟩

/-- A leaf's block is written over, cell by cell. -/
theorem _root_.Go.Proofs.YtomjodoimjiceaaDoor.Blk.setLeaf {w : World} {b : Nat} {l0 : Lf} (h : Blk w b l0.vs 28) (l : Lf) : Blk ((w.setCell ⟨b, 0, .none⟩ (.int .i64 l.p)).setCell ⟨b, 1, .none⟩ (.int .i64 l.f)) b l.vs 28 :=
  (h.setCell 0 _).setCell 1 _

theorem _root_.Go.Proofs.YtomjodoimjiceaaDoor.Keeps.setLeaf {S : Nat → Prop} {w w' : World} (h : Keeps S w w') (b : Nat) (l : Lf) (hb : b < w.heap.size → S b) : Keeps S w ((w'.setCell ⟨b, 0, .none⟩ (.int .i64 l.p)).setCell ⟨b, 1, .none⟩ (.int .i64 l.f)) :=
  (h.setCell _ _ hb).setCell _ _ hb

theorem own_sub {s m : Nat} {e : N} {xs ys : List N} (h : ∀ x ∈ ys, x ∈ xs) {b : Nat} (hb : Own s m e ys b) : Own s m e xs b := by
  rcases hb with h1 | h1 | ⟨z, hz, h1⟩
  · exact .inl h1
  · exact .inr (.inl h1)
  · refine .inr (.inr ⟨z, ?_, h1⟩)
    rcases List.mem_cons.1 hz with h2 | h2
    · simp [h2]
    · exact List.mem_cons_of_mem _ (h z h2)

set_option maxHeartbeats 400000 in
theorem get_in (s m : Nat) (e x : N) (room : Nat) (A C : List N) (nw od : Nat → Nat) (w : World) (h : Sh Tryd.prog T w s m e room (A ++ x :: C) nw od) (hk : I64 x.key) :
    Calls Tryd.prog 22 #[ptr s, .string x.key] w fun r w' => r = .returned (.tuple #[x.thing.v, .bool true]) ∧ (∃ nw' od', Sh Tryd.prog T w' s m e room (A ++ C ++ [x]) nw' od') ∧ Keeps (Own s m e (A ++ x :: C)) w w' := by
  obtain ⟨W, hW⟩ : ∃ W, W = w.alloc (.cells #[.int .i64 0, .int .i64 0] 28) := ⟨_, rfl⟩
  have hKW : Keeps (fun _ => False) w W := by rw [hW]; exact (Keeps.refl _ w).alloc _
  have hB : Blk W w.heap.size Lf.none.vs 28 := by rw [hW]; exact Blk.new w _ 28
  have h0 := h.kept hKW fun _ _ h => h
  have hO : ¬ Own s m e (A ++ x :: C) w.heap.size := fun ho => by have := h.lt _ ho; omega
  have H1 : Hid (Calls _ _ _ _ _) := find_some s m e x room A C nw od W h0 hk
  have H2 : Hid (Calls _ _ _ _ _) := renew_any s m e x room A C nw od W h0
  obtain ⟨k, hkk⟩ : ∃ k, k = x.key := ⟨_, rfl⟩
  rw [← hkk] at H1 ⊢
  have HW : Hid (W = _ ∧ Keeps (fun _ => False) w W ∧ Blk W w.heap.size Lf.none.vs 28 ∧ ¬ Own s m e (A ++ x :: C) w.heap.size) := ⟨hW, hKW, hB, hO⟩
  clear h hk hkk h0 hKW hW hB hO
  go_enter Tryd.func22, Tryd.ntmps22
  go_wp2_with fail
  rw [← HW.out.1]
  refine H1.out.mono ?_
  rintro r w1 ⟨rfl, rfl⟩
  clear H1
  go_wp2_with fail
  refine H2.out.mono ?_
  rintro r w2 ⟨rfl, ⟨nw', od', hS⟩, hK⟩
  have hx := hS.ring.nodes x (by simp)
  have H3 : Hid (Calls _ _ _ _ _) := told_some x.blk x.thing w2 (hx.cell rfl) (hx.cell rfl)
  have HS : Hid (Sh Tryd.prog T w2 s m e room (A ++ C ++ [x]) nw' od' ∧ Keeps (Own s m e (A ++ x :: C)) w w2 ∧ Blk w2 w.heap.size Lf.none.vs 28) := ⟨hS, (HW.out.2.1.mono fun _ _ h => h.elim).trans hK fun _ _ h => h, HW.out.2.2.1.kept hK HW.out.2.2.2⟩
  clear hS hK H2 hx
  go_wp2_with fail
  refine H3.out.mono ?_
  rintro r w3 ⟨rfl, hK⟩
  have hB3 : Blk w3 w.heap.size Lf.none.vs 28 := HS.out.2.2.kept hK fun h => h
  have HB : Hid (Blk w3 w.heap.size Lf.none.vs 28) := hB3
  have c0 := hB3.cell (i := 0) rfl
  have c1 := hB3.cell (i := 1) rfl
  have f0 := hB3.frozen 0
  have f1 := hB3.frozen 1
  have HT : Hid (Sh Tryd.prog T w3 s m e room (A ++ C ++ [x]) nw' od' ∧ Keeps (Own s m e (A ++ x :: C)) w w3) := ⟨HS.out.1.kept hK fun _ _ h => h, HS.out.2.1.trans hK fun _ _ h => h.elim⟩
  clear H3 hK HS hB3
  go_wp2
  refine bodyPost_ret (results_cell_tmp rfl _ _ _ x.thing.v rfl (load_leaf (HB.out.setLeaf x.thing))) rfl ?_
  have hK4 := (Keeps.refl (fun b => b = w.heap.size) w3).setLeaf w.heap.size x.thing (fun _ => rfl)
  refine ⟨rfl, ⟨_, _, HT.out.1.kept hK4 fun b hb he => ?_⟩, HT.out.2.trans hK4 fun b hb he => by omega⟩
  subst he
  refine HW.out.2.2.2 (own_sub (fun z hz => ?_) hb)
  simp at hz ⊢; rcases hz with h | h | h <;> simp [h]

set_option maxHeartbeats 400000 in
theorem get_out (s m : Nat) (e : N) (room : Nat) (xs : List N) (nw od : Nat → Nat) (k : ByteArray) (w : World) (h : Sh Tryd.prog T w s m e room xs nw od) (hk : I64 k) (hn : ∀ x ∈ xs, x.key ≠ k) :
    Calls Tryd.prog 22 #[ptr s, .string k] w fun r w' => r = .returned (.tuple #[Lf.none.v, .bool false]) ∧ Keeps (fun _ => False) w w' := by
  obtain ⟨W, hW⟩ : ∃ W, W = w.alloc (.cells #[.int .i64 0, .int .i64 0] 28) := ⟨_, rfl⟩
  have hKW : Keeps (fun _ => False) w W := by rw [hW]; exact (Keeps.refl _ w).alloc _
  have hB : Blk W w.heap.size Lf.none.vs 28 := by rw [hW]; exact Blk.new w _ 28
  have h0 := h.kept hKW fun _ _ h => h
  have H1 : Hid (Calls _ _ _ _ _) := find_none s m e room xs nw od k W h0 hk hn
  have H3 : Hid (Calls _ _ _ _ _) := told_none W
  have HW : Hid (W = _ ∧ Keeps (fun _ => False) w W ∧ Blk W w.heap.size Lf.none.vs 28) := ⟨hW, hKW, hB⟩
  clear h hk hn h0 hKW hW hB
  go_enter Tryd.func22, Tryd.ntmps22
  go_wp2_with fail
  rw [← HW.out.1]
  refine H1.out.mono ?_
  rintro r w1 ⟨rfl, rfl⟩
  clear H1
  go_wp2_with fail
  refine H3.out.mono ?_
  rintro r w3 ⟨rfl, hK⟩
  have hB3 : Blk w3 w.heap.size Lf.none.vs 28 := HW.out.2.2.kept hK fun h => h
  have HB : Hid (Blk w3 w.heap.size Lf.none.vs 28) := hB3
  have c0 := hB3.cell (i := 0) rfl
  have c1 := hB3.cell (i := 1) rfl
  have f0 := hB3.frozen 0
  have f1 := hB3.frozen 1
  have HK : Hid (Keeps (fun _ => False) w w3) := HW.out.2.1.trans hK fun _ _ h => h
  clear H3 hK hB3
  go_wp2
  refine bodyPost_ret (results_cell_tmp rfl _ _ _ Lf.none.v rfl (load_leaf (HB.out.setLeaf Lf.none))) rfl ?_
  exact ⟨rfl, HK.out.setLeaf w.heap.size Lf.none (fun h => by omega)⟩

theorem len_in (s m : Nat) (L : Nat) (w : World) (c1 : w.cell? ⟨s, 1, none⟩ = some (.map (some m))) (HL : Hid (∀ ty, (Builtin.len_ #[47] ty #[.map (some m)]).run Tryd.prog w = .ok (.int .i64 L) w)) :
    Calls Tryd.prog 11 #[ptr s] w fun r w' => r = .returned (.int .i64 L) ∧ w' = w := by
  go_enter Tryd.func11, Tryd.ntmps11
  go_wp2_with (at_len; refine wpList_len_run rfl (.tmp 8) 47 rfl (.map (some m)) (.int .i64 L) rfl HL.out ?_)
  go_ret
  exact ⟨rfl, rfl⟩


set_option maxHeartbeats 400000 in
theorem peek_in (s m : Nat) (e x : N) (room : Nat) (A C : List N) (nw od : Nat → Nat) (w : World) (h : Sh Tryd.prog T w s m e room (A ++ x :: C) nw od) (hk : I64 x.key) :
    Calls Tryd.prog 24 #[ptr s, .string x.key] w fun r w' => r = .returned (.tuple #[x.thing.v, .bool true]) ∧ Keeps (fun _ => False) w w' := by
  obtain ⟨W, hW⟩ : ∃ W, W = w.alloc (.cells #[.int .i64 0, .int .i64 0] 28) := ⟨_, rfl⟩
  have hKW : Keeps (fun _ => False) w W := by rw [hW]; exact (Keeps.refl _ w).alloc _
  have hB : Blk W w.heap.size Lf.none.vs 28 := by rw [hW]; exact Blk.new w _ 28
  have h0 := h.kept hKW fun _ _ h => h
  have hx := h0.ring.nodes x (by simp)
  have H1 : Hid (Calls _ _ _ _ _) := find_some s m e x room A C nw od W h0 hk
  have H3 : Hid (Calls _ _ _ _ _) := told_some x.blk x.thing W (hx.cell rfl) (hx.cell rfl)
  obtain ⟨k, hkk⟩ : ∃ k, k = x.key := ⟨_, rfl⟩
  rw [← hkk] at H1 ⊢
  have HW : Hid (W = _ ∧ Keeps (fun _ => False) w W ∧ Blk W w.heap.size Lf.none.vs 28) := ⟨hW, hKW, hB⟩
  clear h hk h0 hKW hW hB hx hkk
  go_enter Tryd.func24, Tryd.ntmps24
  go_wp2_with fail
  rw [← HW.out.1]
  refine H1.out.mono ?_
  rintro r w1 ⟨rfl, rfl⟩
  clear H1
  go_wp2_with fail
  refine H3.out.mono ?_
  rintro r w3 ⟨rfl, hK⟩
  have hB3 : Blk w3 w.heap.size Lf.none.vs 28 := HW.out.2.2.kept hK fun h => h
  have HB : Hid (Blk w3 w.heap.size Lf.none.vs 28) := hB3
  have c0 := hB3.cell (i := 0) rfl
  have c1 := hB3.cell (i := 1) rfl
  have f0 := hB3.frozen 0
  have f1 := hB3.frozen 1
  have HK : Hid (Keeps (fun _ => False) w w3) := HW.out.2.1.trans hK fun _ _ h => h
  clear H3 hK hB3
  go_wp2
  refine bodyPost_ret (results_cell_tmp rfl _ _ _ x.thing.v rfl (load_leaf (HB.out.setLeaf x.thing))) rfl ?_
  exact ⟨rfl, HK.out.setLeaf w.heap.size x.thing (fun h => by omega)⟩

set_option maxHeartbeats 400000 in
theorem peek_out (s m : Nat) (e : N) (room : Nat) (xs : List N) (nw od : Nat → Nat) (k : ByteArray) (w : World) (h : Sh Tryd.prog T w s m e room xs nw od) (hk : I64 k) (hn : ∀ x ∈ xs, x.key ≠ k) :
    Calls Tryd.prog 24 #[ptr s, .string k] w fun r w' => r = .returned (.tuple #[Lf.none.v, .bool false]) ∧ Keeps (fun _ => False) w w' := by
  obtain ⟨W, hW⟩ : ∃ W, W = w.alloc (.cells #[.int .i64 0, .int .i64 0] 28) := ⟨_, rfl⟩
  have hKW : Keeps (fun _ => False) w W := by rw [hW]; exact (Keeps.refl _ w).alloc _
  have hB : Blk W w.heap.size Lf.none.vs 28 := by rw [hW]; exact Blk.new w _ 28
  have h0 := h.kept hKW fun _ _ h => h
  have H1 : Hid (Calls _ _ _ _ _) := find_none s m e room xs nw od k W h0 hk hn
  have H3 : Hid (Calls _ _ _ _ _) := told_none W
  have HW : Hid (W = _ ∧ Keeps (fun _ => False) w W ∧ Blk W w.heap.size Lf.none.vs 28) := ⟨hW, hKW, hB⟩
  clear h hk hn h0 hKW hW hB
  go_enter Tryd.func24, Tryd.ntmps24
  go_wp2_with fail
  rw [← HW.out.1]
  refine H1.out.mono ?_
  rintro r w1 ⟨rfl, rfl⟩
  clear H1
  go_wp2_with fail
  refine H3.out.mono ?_
  rintro r w3 ⟨rfl, hK⟩
  have hB3 : Blk w3 w.heap.size Lf.none.vs 28 := HW.out.2.2.kept hK fun h => h
  have HB : Hid (Blk w3 w.heap.size Lf.none.vs 28) := hB3
  have c0 := hB3.cell (i := 0) rfl
  have c1 := hB3.cell (i := 1) rfl
  have f0 := hB3.frozen 0
  have f1 := hB3.frozen 1
  have HK : Hid (Keeps (fun _ => False) w w3) := HW.out.2.1.trans hK fun _ _ h => h
  clear H3 hK hB3
  go_wp2
  refine bodyPost_ret (results_cell_tmp rfl _ _ _ Lf.none.v rfl (load_leaf (HB.out.setLeaf Lf.none))) rfl ?_
  exact ⟨rfl, HK.out.setLeaf w.heap.size Lf.none (fun h => by omega)⟩

set_option maxHeartbeats 400000 in
theorem drop_in (s m : Nat) (e x : N) (room : Nat) (A C : List N) (nw od : Nat → Nat) (w : World) (h : Sh Tryd.prog T w s m e room (A ++ x :: C) nw od) (hk : I64 x.key) :
    Calls Tryd.prog 26 #[ptr s, .string x.key] w fun r w' => r = .returned (.bool true) ∧ (∃ nw' od', Sh Tryd.prog T w' s m e room (A ++ C) nw' od') ∧ Keeps (Own s m e (A ++ x :: C)) w w' := by
  have H1 : Hid (Calls _ _ _ _ _) := find_some s m e x room A C nw od w h hk
  have H2 : Hid (Calls _ _ _ _ _) := remove_any s m e x room A C nw od w h hk
  obtain ⟨k, hkk⟩ : ∃ k, k = x.key := ⟨_, rfl⟩
  rw [← hkk] at H1 ⊢
  clear h hk hkk
  go_enter Tryd.func26, Tryd.ntmps26
  go_wp2_with fail
  refine H1.out.mono ?_
  rintro r w1 ⟨rfl, rfl⟩
  clear H1
  go_wp2_with fail
  refine H2.out.mono ?_
  rintro r w2 ⟨rfl, hS, hK, -⟩
  have HS : Hid ((∃ nw' od', Sh Tryd.prog T w2 s m e room (A ++ C) nw' od') ∧ Keeps (Own s m e (A ++ x :: C)) w1 w2) := ⟨hS, hK⟩
  clear hS hK H2
  go_wp2
  go_ret
  exact ⟨rfl, HS.out⟩

set_option maxHeartbeats 400000 in
theorem drop_out (s m : Nat) (e : N) (room : Nat) (xs : List N) (nw od : Nat → Nat) (k : ByteArray) (w : World) (h : Sh Tryd.prog T w s m e room xs nw od) (hk : I64 k) (hn : ∀ x ∈ xs, x.key ≠ k) :
    Calls Tryd.prog 26 #[ptr s, .string k] w fun r w' => r = .returned (.bool false) ∧ w' = w := by
  have H1 : Hid (Calls _ _ _ _ _) := find_none s m e room xs nw od k w h hk hn
  clear h hk hn
  go_enter Tryd.func26, Tryd.ntmps26
  go_wp2_with fail
  refine H1.out.mono ?_
  rintro r w1 ⟨rfl, rfl⟩
  clear H1
  go_wp2
  go_ret
  exact ⟨rfl, rfl⟩

end Go.Proofs.YtomjodoimjiceaaDoor.S
