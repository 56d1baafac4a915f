import Derived.Test.YtajhkilclmicjaaC
namespace Go.Proofs.Ytajhkilclmicjaa
open Go.RowKit Go.Shelf
set_option linter.unusedVariables false

set_option maxHeartbeats 400000 in
theorem get_in (s m : Nat) (e x : N) (room : Nat) (A C : List N) (nw od : Nat → Nat) (w : World) (h : Sh Try.prog T w s m e room (A ++ x :: C) nw od) (hk : I64 x.key) :
    Calls Try.prog 35 #[ptr s, .int .i64 x.key] w fun r w' => r = .returned (.tuple #[.agg #[], .bool true]) ∧ (∃ nw' od', Sh Try.prog T w' s m e room (A ++ C ++ [x]) nw' od') ∧ Keeps (Own s m e (A ++ x :: C)) w w' := by
  obtain ⟨W, hW⟩ : ∃ W, W = w.alloc (.cells #[] 58) := ⟨_, rfl⟩
  have hKW : Keeps (fun _ => False) w W := by rw [hW]; exact (Keeps.refl _ w).alloc _
  have h0 := h.kept hKW fun _ _ h => h
  have H1 : Hid (Calls _ _ _ _ _) := find_some s m e x room A C nw od W h0 hk
  have H2 : Hid (Calls _ _ _ _ _) := renew_any s m e x room A C nw od W h0
  obtain ⟨k, hkk⟩ : ∃ k, k = x.key := ⟨_, rfl⟩
  rw [← hkk] at H1 ⊢
  have HW : Hid (W = _ ∧ Keeps (fun _ => False) w W) := ⟨hW, hKW⟩
  clear h hk hkk h0 hKW hW
  go_enter Try.func35, Try.ntmps35
  go_wp2_with fail
  rw [← HW.out.1]
  refine H1.out.mono ?_
  rintro r w1 ⟨rfl, rfl⟩
  clear H1
  go_wp2_with fail
  refine H2.out.mono ?_
  rintro r w2 ⟨rfl, ⟨nw', od', hS⟩, hK⟩
  have H3 : Hid (Calls _ _ _ _ _) := told_some x.blk _ w2 (hS.ring.nodes x (by simp))
  have HS : Hid (Sh Try.prog T w2 s m e room (A ++ C ++ [x]) nw' od' ∧ Keeps (Own s m e (A ++ x :: C)) w w2) := ⟨hS, (HW.out.2.mono fun _ _ h => h.elim).trans hK fun _ _ h => h⟩
  clear hS hK H2
  go_wp2_with fail
  refine H3.out.mono ?_
  rintro r w3 ⟨rfl, hK⟩
  have HT : Hid ((∃ nw' od', Sh Try.prog T w3 s m e room (A ++ C ++ [x]) nw' od') ∧ Keeps (Own s m e (A ++ x :: C)) w w3) := ⟨⟨_, _, HS.out.1.kept hK fun _ _ h => h⟩, HS.out.2.trans hK fun _ _ h => h.elim⟩
  clear H3 hK HS
  go_wp2
  (try simp only [Exit.inBlock, Exit.then])
  refine bodyPost_ret (results_cell_tmp rfl _ _ _ (.agg #[]) rfl (load0 _ _)) rfl ?_
  exact ⟨rfl, HT.out⟩

set_option maxHeartbeats 400000 in
theorem get_out (s m : Nat) (e : N) (room : Nat) (xs : List N) (nw od : Nat → Nat) (k : Int) (w : World) (h : Sh Try.prog T w s m e room xs nw od) (hk : I64 k) (hn : ∀ x ∈ xs, x.key ≠ k) :
    Calls Try.prog 35 #[ptr s, .int .i64 k] w fun r w' => r = .returned (.tuple #[.agg #[], .bool false]) ∧ Keeps (fun _ => False) w w' := by
  obtain ⟨W, hW⟩ : ∃ W, W = w.alloc (.cells #[] 58) := ⟨_, rfl⟩
  have hKW : Keeps (fun _ => False) w W := by rw [hW]; exact (Keeps.refl _ w).alloc _
  have h0 := h.kept hKW fun _ _ h => h
  have H1 : Hid (Calls _ _ _ _ _) := find_none s m e room xs nw od k W h0 hk hn
  have H3 : Hid (Calls _ _ _ _ _) := told_none W
  have HW : Hid (W = _ ∧ Keeps (fun _ => False) w W) := ⟨hW, hKW⟩
  clear h hk hn h0 hKW hW
  go_enter Try.func35, Try.ntmps35
  go_wp2_with fail
  rw [← HW.out.1]
  refine H1.out.mono ?_
  rintro r w1 ⟨rfl, rfl⟩
  clear H1
  go_wp2_with fail
  refine H3.out.mono ?_
  rintro r w3 ⟨rfl, hK⟩
  have HK : Hid (Keeps (fun _ => False) w w3) := HW.out.2.trans hK fun _ _ h => h
  clear H3 hK
  go_wp2
  (try simp only [Exit.inBlock, Exit.then])
  refine bodyPost_ret (results_cell_tmp rfl _ _ _ (.agg #[]) rfl (load0 _ _)) rfl ?_
  exact ⟨rfl, HK.out⟩

set_option maxHeartbeats 400000 in
theorem peek_in (s m : Nat) (e x : N) (room : Nat) (A C : List N) (nw od : Nat → Nat) (w : World) (h : Sh Try.prog T w s m e room (A ++ x :: C) nw od) (hk : I64 x.key) :
    Calls Try.prog 37 #[ptr s, .int .i64 x.key] w fun r w' => r = .returned (.tuple #[.agg #[], .bool true]) ∧ Keeps (fun _ => False) w w' := by
  obtain ⟨W, hW⟩ : ∃ W, W = w.alloc (.cells #[] 58) := ⟨_, rfl⟩
  have hKW : Keeps (fun _ => False) w W := by rw [hW]; exact (Keeps.refl _ w).alloc _
  have h0 := h.kept hKW fun _ _ h => h
  have H1 : Hid (Calls _ _ _ _ _) := find_some s m e x room A C nw od W h0 hk
  have H3 : Hid (Calls _ _ _ _ _) := told_some x.blk _ W (h0.ring.nodes x (by simp))
  obtain ⟨k, hkk⟩ : ∃ k, k = x.key := ⟨_, rfl⟩
  rw [← hkk] at H1 ⊢
  have HW : Hid (W = _ ∧ Keeps (fun _ => False) w W) := ⟨hW, hKW⟩
  clear h hk hkk h0 hKW hW
  go_enter Try.func37, Try.ntmps37
  go_wp2_with fail
  rw [← HW.out.1]
  refine H1.out.mono ?_
  rintro r w1 ⟨rfl, rfl⟩
  clear H1
  go_wp2_with fail
  refine H3.out.mono ?_
  rintro r w3 ⟨rfl, hK⟩
  have HK : Hid (Keeps (fun _ => False) w w3) := HW.out.2.trans hK fun _ _ h => h
  clear H3 hK
  go_wp2
  (try simp only [Exit.inBlock, Exit.then])
  refine bodyPost_ret (results_cell_tmp rfl _ _ _ (.agg #[]) rfl (load0 _ _)) rfl ?_
  exact ⟨rfl, HK.out⟩

set_option maxHeartbeats 400000 in
theorem peek_out (s m : Nat) (e : N) (room : Nat) (xs : List N) (nw od : Nat → Nat) (k : Int) (w : World) (h : Sh Try.prog T w s m e room xs nw od) (hk : I64 k) (hn : ∀ x ∈ xs, x.key ≠ k) :
    Calls Try.prog 37 #[ptr s, .int .i64 k] w fun r w' => r = .returned (.tuple #[.agg #[], .bool false]) ∧ Keeps (fun _ => False) w w' := by
  obtain ⟨W, hW⟩ : ∃ W, W = w.alloc (.cells #[] 58) := ⟨_, rfl⟩
  have hKW : Keeps (fun _ => False) w W := by rw [hW]; exact (Keeps.refl _ w).alloc _
  have h0 := h.kept hKW fun _ _ h => h
  have H1 : Hid (Calls _ _ _ _ _) := find_none s m e room xs nw od k W h0 hk hn
  have H3 : Hid (Calls _ _ _ _ _) := told_none W
  have HW : Hid (W = _ ∧ Keeps (fun _ => False) w W) := ⟨hW, hKW⟩
  clear h hk hn h0 hKW hW
  go_enter Try.func37, Try.ntmps37
  go_wp2_with fail
  rw [← HW.out.1]
  refine H1.out.mono ?_
  rintro r w1 ⟨rfl, rfl⟩
  clear H1
  go_wp2_with fail
  refine H3.out.mono ?_
  rintro r w3 ⟨rfl, hK⟩
  have HK : Hid (Keeps (fun _ => False) w w3) := HW.out.2.trans hK fun _ _ h => h
  clear H3 hK
  go_wp2
  (try simp only [Exit.inBlock, Exit.then])
  refine bodyPost_ret (results_cell_tmp rfl _ _ _ (.agg #[]) rfl (load0 _ _)) rfl ?_
  exact ⟨rfl, HK.out⟩

end Go.Proofs.Ytajhkilclmicjaa
