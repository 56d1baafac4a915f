import Derived.Test.YtomjodoimjiceaaDoorCQ
namespace Go.Proofs.YtomjodoimjiceaaDoor.Q
open Go.RowKit Go.Shelf
set_option linter.unusedVariables false
set_option maxRecDepth 6000

theorem own_sub {s m : Nat} {e : N} {xs ys : List N} (h : ∀ x ∈ ys, x ∈ xs) {b : Nat} (hb : Own s m e ys b) : Own s m e xs b := by
  rcases hb with h1 | h1 | ⟨z, hz, h1⟩
  · exact .inl h1
  · exact .inr (.inl h1)
  · refine .inr (.inr ⟨z, ?_, h1⟩)
    rcases List.mem_cons.1 hz with h2 | h2
    · simp [h2]
    · exact List.mem_cons_of_mem _ (h z h2)

set_option maxHeartbeats 400000 in
theorem get_in (s m : Nat) (e x : N) (room : Nat) (A C : List N) (nw od : Nat → Nat) (w : World) (h : Sh Tryd.prog T w s m e room (A ++ x :: C) nw od) (hk : I64 x.key) :
    Calls Tryd.prog 30 #[ptr s, x.key.v] w fun r w' => r = .returned (.tuple #[x.thing, .bool true]) ∧ (∃ nw' od', Sh Tryd.prog T w' s m e room (A ++ C ++ [x]) nw' od') ∧ Keeps (Own s m e (A ++ x :: C)) w w' := by
  have h0 := h.kept (bx_keeps w x.key) fun _ _ h => h
  have H1 : Hid (Calls _ _ _ _ _) := find_some s m e x room A C nw od (bx w x.key) h0 hk
  have HS : Hid (Sh Tryd.prog T w s m e room (A ++ x :: C) nw od) := h
  have H2 : Hid (∀ w1, Keeps (fun _ => False) (bx w x.key) w1 → Calls _ _ _ w1 _) := fun w1 hK => renew_any s m e x room A C nw od w1 (h0.kept hK fun _ _ h => h)
  obtain ⟨k, hkk⟩ : ∃ k, k = x.key := ⟨_, rfl⟩
  rw [← hkk] at H1 H2 ⊢
  clear h hk hkk h0
  go_enter Tryd.func30, Tryd.ntmps30
  go_wp2_with fail
  refine H1.out.mono ?_
  rintro r w1 ⟨rfl, hK1⟩
  have HC : Hid (Calls _ _ _ _ _) := H2.out w1 hK1
  have HK1 : Hid (Keeps (fun _ => False) w w1) := (bx_keeps w k).trans hK1 fun _ _ h => h
  clear H1 H2 hK1
  go_wp2_with fail
  refine HC.out.mono ?_
  rintro r w2 ⟨rfl, ⟨nw', od', hS⟩, hK⟩
  have H3 : Hid (Calls _ _ _ _ _) := told_some x.blk x.thing w2 ((hS.ring.nodes x (by simp)).cell rfl)
  have HS2 : Hid ((∃ nw' od', Sh Tryd.prog T w2 s m e room (A ++ C ++ [x]) nw' od') ∧ Keeps (Own s m e (A ++ x :: C)) w w2) := ⟨⟨nw', od', hS⟩, (HK1.out.mono fun _ _ h => h.elim).trans hK fun _ _ h => h⟩
  clear hS hK HC
  go_wp2_with fail
  refine H3.out.mono ?_
  rintro r w3 ⟨rfl, rfl⟩
  clear H3
  go_wp2
  go_ret2
  exact ⟨rfl, HS2.out⟩

set_option maxHeartbeats 400000 in
theorem get_out (s m : Nat) (e : N) (room : Nat) (xs : List N) (nw od : Nat → Nat) (k : Pr) (w : World) (h : Sh Tryd.prog T w s m e room xs nw od) (hk : I64 k) (hn : ∀ x ∈ xs, x.key ≠ k) :
    Calls Tryd.prog 30 #[ptr s, k.v] w fun r w' => r = .returned (.tuple #[.string ⟨#[]⟩, .bool false]) ∧ Keeps (fun _ => False) w w' := by
  have h0 := h.kept (bx_keeps w k) fun _ _ h => h
  have H1 : Hid (Calls _ _ _ _ _) := find_none s m e room xs nw od k (bx w k) h0 hk hn
  clear h hk hn h0
  go_enter Tryd.func30, Tryd.ntmps30
  go_wp2_with fail
  refine H1.out.mono ?_
  rintro r w1 ⟨rfl, hK1⟩
  have H3 : Hid (Calls _ _ _ _ _) := told_none w1
  have HK1 : Hid (Keeps (fun _ => False) w w1) := (bx_keeps w k).trans hK1 fun _ _ h => h
  clear H1 hK1
  go_wp2_with fail
  refine H3.out.mono ?_
  rintro r w3 ⟨rfl, rfl⟩
  clear H3
  go_wp2
  go_ret2
  exact ⟨rfl, HK1.out⟩

set_option maxHeartbeats 400000 in
theorem peek_in (s m : Nat) (e x : N) (room : Nat) (A C : List N) (nw od : Nat → Nat) (w : World) (h : Sh Tryd.prog T w s m e room (A ++ x :: C) nw od) (hk : I64 x.key) :
    Calls Tryd.prog 31 #[ptr s, x.key.v] w fun r w' => r = .returned (.tuple #[x.thing, .bool true]) ∧ Keeps (fun _ => False) w w' := by
  have h0 := h.kept (bx_keeps w x.key) fun _ _ h => h
  have H1 : Hid (Calls _ _ _ _ _) := find_some s m e x room A C nw od (bx w x.key) h0 hk
  have HS : Hid (Sh Tryd.prog T (bx w x.key) s m e room (A ++ x :: C) nw od) := h0
  obtain ⟨k, hkk⟩ : ∃ k, k = x.key := ⟨_, rfl⟩
  rw [← hkk] at H1 HS ⊢
  clear h hk hkk h0
  go_enter Tryd.func31, Tryd.ntmps31
  go_wp2_with fail
  refine H1.out.mono ?_
  rintro r w1 ⟨rfl, hK1⟩
  have H3 : Hid (Calls _ _ _ _ _) := told_some x.blk x.thing w1 (((HS.out.kept hK1 fun _ _ h => h).ring.nodes x (by simp)).cell rfl)
  have HK1 : Hid (Keeps (fun _ => False) w w1) := (bx_keeps w k).trans hK1 fun _ _ h => h
  clear H1 hK1
  go_wp2_with fail
  refine H3.out.mono ?_
  rintro r w3 ⟨rfl, rfl⟩
  clear H3
  go_wp2
  go_ret2
  exact ⟨rfl, HK1.out⟩

set_option maxHeartbeats 400000 in
theorem peek_out (s m : Nat) (e : N) (room : Nat) (xs : List N) (nw od : Nat → Nat) (k : Pr) (w : World) (h : Sh Tryd.prog T w s m e room xs nw od) (hk : I64 k) (hn : ∀ x ∈ xs, x.key ≠ k) :
    Calls Tryd.prog 31 #[ptr s, k.v] w fun r w' => r = .returned (.tuple #[.string ⟨#[]⟩, .bool false]) ∧ Keeps (fun _ => False) w w' := by
  have h0 := h.kept (bx_keeps w k) fun _ _ h => h
  have H1 : Hid (Calls _ _ _ _ _) := find_none s m e room xs nw od k (bx w k) h0 hk hn
  clear h hk hn h0
  go_enter Tryd.func31, Tryd.ntmps31
  go_wp2_with fail
  refine H1.out.mono ?_
  rintro r w1 ⟨rfl, hK1⟩
  have H3 : Hid (Calls _ _ _ _ _) := told_none w1
  have HK1 : Hid (Keeps (fun _ => False) w w1) := (bx_keeps w k).trans hK1 fun _ _ h => h
  clear H1 hK1
  go_wp2_with fail
  refine H3.out.mono ?_
  rintro r w3 ⟨rfl, rfl⟩
  clear H3
  go_wp2
  go_ret2
  exact ⟨rfl, HK1.out⟩

set_option maxHeartbeats 400000 in
theorem drop_in (s m : Nat) (e x : N) (room : Nat) (A C : List N) (nw od : Nat → Nat) (w : World) (h : Sh Tryd.prog T w s m e room (A ++ x :: C) nw od) (hk : I64 x.key) :
    Calls Tryd.prog 32 #[ptr s, x.key.v] w fun r w' => r = .returned (.bool true) ∧ (∃ nw' od', Sh Tryd.prog T w' s m e room (A ++ C) nw' od') ∧ Keeps (Own s m e (A ++ x :: C)) w w' := by
  have h0 := h.kept (bx_keeps w x.key) fun _ _ h => h
  have H1 : Hid (Calls _ _ _ _ _) := find_some s m e x room A C nw od (bx w x.key) h0 hk
  have H2 : Hid (∀ w1, Keeps (fun _ => False) (bx w x.key) w1 → Calls _ _ _ w1 _) := fun w1 hK => remove_any s m e x room A C nw od w1 (h0.kept hK fun _ _ h => h) hk
  obtain ⟨k, hkk⟩ : ∃ k, k = x.key := ⟨_, rfl⟩
  rw [← hkk] at H1 H2 ⊢
  clear h hk hkk h0
  go_enter Tryd.func32, Tryd.ntmps32
  go_wp2_with fail
  refine H1.out.mono ?_
  rintro r w1 ⟨rfl, hK1⟩
  have HC : Hid (Calls _ _ _ _ _) := H2.out w1 hK1
  have HK1 : Hid (Keeps (fun _ => False) w w1) := (bx_keeps w k).trans hK1 fun _ _ h => h
  clear H1 H2 hK1
  go_wp2_with fail
  refine HC.out.mono ?_
  rintro r w2 ⟨rfl, hS, hK, -⟩
  have HS : Hid ((∃ nw' od', Sh Tryd.prog T w2 s m e room (A ++ C) nw' od') ∧ Keeps (Own s m e (A ++ x :: C)) w w2) := ⟨hS, (HK1.out.mono fun _ _ h => h.elim).trans hK fun _ _ h => h⟩
  clear hS hK HC
  go_wp2
  go_ret
  exact ⟨rfl, HS.out⟩

set_option maxHeartbeats 400000 in
theorem drop_out (s m : Nat) (e : N) (room : Nat) (xs : List N) (nw od : Nat → Nat) (k : Pr) (w : World) (h : Sh Tryd.prog T w s m e room xs nw od) (hk : I64 k) (hn : ∀ x ∈ xs, x.key ≠ k) :
    Calls Tryd.prog 32 #[ptr s, k.v] w fun r w' => r = .returned (.bool false) ∧ Keeps (fun _ => False) w w' := by
  have h0 := h.kept (bx_keeps w k) fun _ _ h => h
  have H1 : Hid (Calls _ _ _ _ _) := find_none s m e room xs nw od k (bx w k) h0 hk hn
  clear h hk hn h0
  go_enter Tryd.func32, Tryd.ntmps32
  go_wp2_with fail
  refine H1.out.mono ?_
  rintro r w1 ⟨rfl, hK1⟩
  have HK1 : Hid (Keeps (fun _ => False) w w1) := (bx_keeps w k).trans hK1 fun _ _ h => h
  clear H1 hK1
  go_wp2
  go_ret
  exact ⟨rfl, HK1.out⟩

theorem len_in (s m : Nat) (L : Nat) (w : World) (c1 : w.cell? ⟨s, 1, none⟩ = some (.map (some m))) (HL : Hid (∀ ty, (Builtin.len_ #[55] ty #[.map (some m)]).run Tryd.prog w = .ok (.int .i64 L) w)) :
    Calls Tryd.prog 10 #[ptr s] w fun r w' => r = .returned (.int .i64 L) ∧ w' = w := by
  go_enter Tryd.func10, Tryd.ntmps10
  go_wp2_with (at_len; refine wpList_len_run rfl (.tmp 8) 55 rfl (.map (some m)) (.int .i64 L) rfl HL.out ?_)
  go_ret
  exact ⟨rfl, rfl⟩

end Go.Proofs.YtomjodoimjiceaaDoor.Q
