import Derived.Test.YtffhkapegmnklaaC
namespace Go.Proofs.Ytffhkapegmnklaa
open Go.RowKit Go.Shelf
set_option linter.unusedVariables false

theorem Sh.lt {w : World} {s m room : Nat} {e : N} {xs : List N} {nw od : Nat → Nat} (h : Sh Try.prog T w s m e room xs nw od) : ∀ b, Own s m e xs b → b < w.heap.size := by
  rintro b (rfl | rfl | ⟨z, hz, rfl⟩)
  · exact h.blk.lt
  · exact h.map.lt
  · exact (h.ring.nodes z hz).lt

/-- Another thing at a place. -/
theorem Sh.setThing {w : World} {s m room : Nat} {e x : N} {A C : List N} {nw od : Nat → Nat} (h : Sh Try.prog T w s m e room (A ++ x :: C) nw od) (v : Value) :
    Sh Try.prog T (w.setCell ⟨x.blk, 1, none⟩ v) s m e room (A ++ { x with thing := v } :: C) nw od := by
  have hx := h.ring.nodes x (by simp)
  have hnd := h.ring.nodup
  have hne : ∀ z ∈ e :: (A ++ C), z.blk ≠ x.blk := by
    have h1 : (x.blk :: e.blk :: (A ++ C).map N.blk).Nodup := by
      refine (List.Perm.nodup_iff ?_).1 hnd
      rw [List.map_append, List.map_cons, List.map_append]
      exact (List.Perm.cons _ List.perm_middle).trans (List.Perm.swap _ _ _)
    intro z hz he
    refine (List.nodup_cons.1 h1).1 ?_
    rw [← he]
    rcases List.mem_cons.1 hz with h | h
    · simp [h]
    · exact List.mem_cons_of_mem _ (List.mem_map.2 ⟨z, h, rfl⟩)
  have e1 : (A ++ { x with thing := v } :: C).map N.blk = (A ++ x :: C).map N.blk := by simp
  have e2 : mapOf (A ++ { x with thing := v } :: C) = mapOf (A ++ x :: C) := by simp [mapOf]
  have hcase : ∀ z ∈ e :: (A ++ { x with thing := v } :: C), z ∈ e :: (A ++ C) ∨ z = { x with thing := v } := by
    intro z hz; simp at hz ⊢; rcases hz with h | h | h | h <;> simp [h]
  refine ⟨h.blk.setCell_ne (fun he => h.sx x (by simp) he.symm) _, ?_, ⟨by rw [e1]; exact h.ring.chain, by rw [e1]; exact hnd, ?_⟩, h.sm, ?_, ?_, h.lo, h.hi, by have := h.fits; simp at this ⊢; omega⟩
  · rw [e2]
    exact h.map.setCell (fun he => h.mx x (by simp) he.symm) _
  · intro z hz
    rcases hcase z hz with hz | rfl
    · refine (h.ring.nodes z ?_).setCell_ne (hne z hz) _
      simp at hz ⊢; rcases hz with h | h | h <;> simp [h]
    · exact hx.setCell 1 v
  · intro z hz
    rcases hcase z hz with hz | rfl
    · exact h.sx z (by simp at hz ⊢; rcases hz with h | h | h <;> simp [h])
    · exact h.sx x (by simp)
  · intro z hz
    rcases hcase z hz with hz | rfl
    · exact h.mx z (by simp at hz ⊢; rcases hz with h | h | h <;> simp [h])
    · exact h.mx x (by simp)

set_option maxHeartbeats 400000 in
theorem get_in (s m : Nat) (e x : N) (room : Nat) (A C : List N) (nw od : Nat → Nat) (w : World) (h : Sh Try.prog T w s m e room (A ++ x :: C) nw od) (hk : I64 x.key) :
    Calls Try.prog 17 #[ptr s, .int .i64 x.key] w fun r w' => r = .returned (.tuple #[x.thing, .bool true]) ∧ (∃ nw' od', Sh Try.prog T w' s m e room (A ++ C ++ [x]) nw' od') ∧ Keeps (Own s m e (A ++ x :: C)) w w' := by
  have H1 : Hid (Calls _ _ _ _ _) := find_some s m e x room A C nw od w h hk
  have H2 : Hid (Calls _ _ _ _ _) := renew_any s m e x room A C nw od w h
  obtain ⟨k, hkk⟩ : ∃ k, k = x.key := ⟨_, rfl⟩
  rw [← hkk] at H1 ⊢
  clear h hk hkk
  go_enter Try.func17, Try.ntmps17
  go_wp2_with fail
  refine H1.out.mono ?_
  rintro r w1 ⟨rfl, rfl⟩
  clear H1
  go_wp2_with fail
  refine H2.out.mono ?_
  rintro r w2 ⟨rfl, ⟨nw', od', hS⟩, hK⟩
  have H3 : Hid (Calls _ _ _ _ _) := told_some x.blk x.thing w2 ((hS.ring.nodes x (by simp)).cell rfl)
  have HS : Hid ((∃ nw' od', Sh Try.prog T w2 s m e room (A ++ C ++ [x]) nw' od') ∧ Keeps (Own s m e (A ++ x :: C)) w1 w2) := ⟨⟨nw', od', hS⟩, hK⟩
  clear hS hK H2
  go_wp2_with fail
  refine H3.out.mono ?_
  rintro r w3 ⟨rfl, rfl⟩
  clear H3
  go_wp2
  go_ret2
  exact ⟨rfl, HS.out⟩

set_option maxHeartbeats 400000 in
theorem get_out (s m : Nat) (e : N) (room : Nat) (xs : List N) (nw od : Nat → Nat) (k : Int) (w : World) (h : Sh Try.prog T w s m e room xs nw od) (hk : I64 k) (hn : ∀ x ∈ xs, x.key ≠ k) :
    Calls Try.prog 17 #[ptr s, .int .i64 k] w fun r w' => r = .returned (.tuple #[.int .i64 0, .bool false]) ∧ w' = w := by
  have H1 : Hid (Calls _ _ _ _ _) := find_none s m e room xs nw od k w h hk hn
  have H3 : Hid (Calls _ _ _ _ _) := told_none w
  clear h hk hn
  go_enter Try.func17, Try.ntmps17
  go_wp2_with fail
  refine H1.out.mono ?_
  rintro r w1 ⟨rfl, rfl⟩
  clear H1
  go_wp2_with fail
  refine H3.out.mono ?_
  rintro r w3 ⟨rfl, rfl⟩
  clear H3
  go_wp2
  go_ret2
  exact ⟨rfl, rfl⟩

set_option maxHeartbeats 400000 in
theorem peek_in (s m : Nat) (e x : N) (room : Nat) (A C : List N) (nw od : Nat → Nat) (w : World) (h : Sh Try.prog T w s m e room (A ++ x :: C) nw od) (hk : I64 x.key) :
    Calls Try.prog 24 #[ptr s, .int .i64 x.key] w fun r w' => r = .returned (.tuple #[x.thing, .bool true]) ∧ w' = w := by
  have H1 : Hid (Calls _ _ _ _ _) := find_some s m e x room A C nw od w h hk
  have H3 : Hid (Calls _ _ _ _ _) := told_some x.blk x.thing w ((h.ring.nodes x (by simp)).cell rfl)
  obtain ⟨k, hkk⟩ : ∃ k, k = x.key := ⟨_, rfl⟩
  obtain ⟨v, hv⟩ : ∃ v, v = x.thing := ⟨_, rfl⟩
  rw [← hkk] at H1 ⊢
  rw [← hv] at H3 ⊢
  clear h hk hkk hv
  go_enter Try.func24, Try.ntmps24
  go_wp2_with fail
  refine H1.out.mono ?_
  rintro r w1 ⟨rfl, rfl⟩
  clear H1
  go_wp2_with fail
  refine H3.out.mono ?_
  rintro r w3 ⟨rfl, rfl⟩
  clear H3
  go_wp2
  go_ret2
  exact ⟨rfl, rfl⟩

set_option maxHeartbeats 400000 in
theorem peek_out (s m : Nat) (e : N) (room : Nat) (xs : List N) (nw od : Nat → Nat) (k : Int) (w : World) (h : Sh Try.prog T w s m e room xs nw od) (hk : I64 k) (hn : ∀ x ∈ xs, x.key ≠ k) :
    Calls Try.prog 24 #[ptr s, .int .i64 k] w fun r w' => r = .returned (.tuple #[.int .i64 0, .bool false]) ∧ w' = w := by
  have H1 : Hid (Calls _ _ _ _ _) := find_none s m e room xs nw od k w h hk hn
  have H3 : Hid (Calls _ _ _ _ _) := told_none w
  clear h hk hn
  go_enter Try.func24, Try.ntmps24
  go_wp2_with fail
  refine H1.out.mono ?_
  rintro r w1 ⟨rfl, rfl⟩
  clear H1
  go_wp2_with fail
  refine H3.out.mono ?_
  rintro r w3 ⟨rfl, rfl⟩
  clear H3
  go_wp2
  go_ret2
  exact ⟨rfl, rfl⟩

set_option maxHeartbeats 400000 in
theorem drop_in (s m : Nat) (e x : N) (room : Nat) (A C : List N) (nw od : Nat → Nat) (w : World) (h : Sh Try.prog T w s m e room (A ++ x :: C) nw od) (hk : I64 x.key) :
    Calls Try.prog 25 #[ptr s, .int .i64 x.key] w fun r w' => r = .returned (.bool true) ∧ (∃ nw' od', Sh Try.prog T w' s m e room (A ++ C) nw' od') ∧ Keeps (Own s m e (A ++ x :: C)) w w' := by
  have H1 : Hid (Calls _ _ _ _ _) := find_some s m e x room A C nw od w h hk
  have H2 : Hid (Calls _ _ _ _ _) := remove_any s m e x room A C nw od w h hk
  obtain ⟨k, hkk⟩ : ∃ k, k = x.key := ⟨_, rfl⟩
  rw [← hkk] at H1 ⊢
  clear h hk hkk
  go_enter Try.func25, Try.ntmps25
  go_wp2_with fail
  refine H1.out.mono ?_
  rintro r w1 ⟨rfl, rfl⟩
  clear H1
  go_wp2_with fail
  refine H2.out.mono ?_
  rintro r w2 ⟨rfl, hS, hK, -⟩
  have HS : Hid ((∃ nw' od', Sh Try.prog T w2 s m e room (A ++ C) nw' od') ∧ Keeps (Own s m e (A ++ x :: C)) w1 w2) := ⟨hS, hK⟩
  clear hS hK H2
  go_wp2
  go_ret
  exact ⟨rfl, HS.out⟩

set_option maxHeartbeats 400000 in
theorem drop_out (s m : Nat) (e : N) (room : Nat) (xs : List N) (nw od : Nat → Nat) (k : Int) (w : World) (h : Sh Try.prog T w s m e room xs nw od) (hk : I64 k) (hn : ∀ x ∈ xs, x.key ≠ k) :
    Calls Try.prog 25 #[ptr s, .int .i64 k] w fun r w' => r = .returned (.bool false) ∧ w' = w := by
  have H1 : Hid (Calls _ _ _ _ _) := find_none s m e room xs nw od k w h hk hn
  clear h hk hn
  go_enter Try.func25, Try.ntmps25
  go_wp2_with fail
  refine H1.out.mono ?_
  rintro r w1 ⟨rfl, rfl⟩
  clear H1
  go_wp2
  go_ret
  exact ⟨rfl, rfl⟩

theorem room_in (s : Nat) (room : Nat) (w : World) (c0 : w.cell? ⟨s, 0, none⟩ = some (.int .i64 room)) :
    Calls Try.prog 26 #[ptr s] w fun r w' => r = .returned (.int .i64 room) ∧ w' = w := by
  go_enter Try.func26, Try.ntmps26
  go_wp2
  go_ret
  exact ⟨rfl, rfl⟩

theorem len_in (s m : Nat) (L : Nat) (w : World) (c1 : w.cell? ⟨s, 1, none⟩ = some (.map (some m))) (HL : Hid (∀ ty, (Builtin.len_ #[73] ty #[.map (some m)]).run Try.prog w = .ok (.int .i64 L) w)) :
    Calls Try.prog 22 #[ptr s] w fun r w' => r = .returned (.int .i64 L) ∧ w' = w := by
  go_enter Try.func22, Try.ntmps22
  go_wp2_with (at_len; refine wpList_len_run rfl (.tmp 8) 73 rfl (.map (some m)) (.int .i64 L) rfl HL.out ?_)
  go_ret
  exact ⟨rfl, rfl⟩

end Go.Proofs.Ytffhkapegmnklaa
