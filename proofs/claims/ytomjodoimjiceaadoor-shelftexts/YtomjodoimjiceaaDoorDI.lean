import Derived.Test.YtomjodoimjiceaaDoorCI
namespace Go.Proofs.YtomjodoimjiceaaDoor.I
open Go.RowKit Go.Shelf
set_option linter.unusedVariables false
set_option maxRecDepth 6000

set_option maxHeartbeats 400000 in
theorem get_in (s m : Nat) (e x : N) (room : Nat) (A C : List N) (nw od : Nat → Nat) (w : World) (h : Sh Tryd.prog T w s m e room (A ++ x :: C) nw od) (hk : I64 x.key) :
    Calls Tryd.prog 17 #[ptr s, .int .i64 x.key] w fun r w' => r = .returned (.tuple #[x.thing, .bool true]) ∧ (∃ nw' od', Sh Tryd.prog T w' s m e room (A ++ C ++ [x]) nw' od') ∧ Keeps (Own s m e (A ++ x :: C)) w w' := by
  have H1 : Hid (Calls _ _ _ _ _) := find_some s m e x room A C nw od w h hk
  have H2 : Hid (Calls _ _ _ _ _) := renew_any s m e x room A C nw od w h
  obtain ⟨k, hkk⟩ : ∃ k, k = x.key := ⟨_, rfl⟩
  rw [← hkk] at H1 ⊢
  clear h hk hkk
  go_enter Tryd.func17, Tryd.ntmps17
  go_wp2_with fail
  refine H1.out.mono ?_
  rintro r w1 ⟨rfl, rfl⟩
  clear H1
  go_wp2_with fail
  refine H2.out.mono ?_
  rintro r w2 ⟨rfl, ⟨nw', od', hS⟩, hK⟩
  have H3 : Hid (Calls _ _ _ _ _) := told_some x.blk x.thing w2 ((hS.ring.nodes x (by simp)).cell rfl)
  have HS : Hid ((∃ nw' od', Sh Tryd.prog T w2 s m e room (A ++ C ++ [x]) nw' od') ∧ Keeps (Own s m e (A ++ x :: C)) w1 w2) := ⟨⟨nw', od', hS⟩, hK⟩
  clear hS hK H2
  go_wp2_with fail
  refine H3.out.mono ?_
  rintro r w3 ⟨rfl, rfl⟩
  clear H3
  go_wp2
  go_ret2
  exact ⟨rfl, HS.out⟩

set_option maxHeartbeats 400000 in
theorem get_out (s m : Nat) (e : N) (room : Nat) (xs : List N) (nw od : Nat → Nat) (k : Int) (w : World) (h : Sh Tryd.prog T w s m e room xs nw od) (hk : I64 k) (hn : ∀ x ∈ xs, x.key ≠ k) :
    Calls Tryd.prog 17 #[ptr s, .int .i64 k] w fun r w' => r = .returned (.tuple #[.int .i64 0, .bool false]) ∧ w' = w := by
  have H1 : Hid (Calls _ _ _ _ _) := find_none s m e room xs nw od k w h hk hn
  have H3 : Hid (Calls _ _ _ _ _) := told_none w
  clear h hk hn
  go_enter Tryd.func17, Tryd.ntmps17
  go_wp2_with fail
  refine H1.out.mono ?_
  rintro r w1 ⟨rfl, rfl⟩
  clear H1
  go_wp2_with fail
  refine H3.out.mono ?_
  rintro r w3 ⟨rfl, rfl⟩
  clear H3
  go_wp2
  go_ret2
  exact ⟨rfl, rfl⟩

theorem len_in (s m : Nat) (L : Nat) (w : World) (c1 : w.cell? ⟨s, 1, none⟩ = some (.map (some m))) (HL : Hid (∀ ty, (Builtin.len_ #[83] ty #[.map (some m)]).run Tryd.prog w = .ok (.int .i64 L) w)) :
    Calls Tryd.prog 18 #[ptr s] w fun r w' => r = .returned (.int .i64 L) ∧ w' = w := by
  go_enter Tryd.func18, Tryd.ntmps18
  go_wp2_with (at_len; refine wpList_len_run rfl (.tmp 8) 83 rfl (.map (some m)) (.int .i64 L) rfl HL.out ?_)
  go_ret
  exact ⟨rfl, rfl⟩

end Go.Proofs.YtomjodoimjiceaaDoor.I
