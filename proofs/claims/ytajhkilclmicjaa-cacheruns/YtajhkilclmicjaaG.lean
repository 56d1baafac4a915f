import Derived.Test.YtajhkilclmicjaaF
namespace Go.Proofs.Ytajhkilclmicjaa
open Go.RowKit Go.Shelf
set_option linter.unusedVariables false

theorem sh_key_ok {w : World} {s m room : Nat} {e : N} {xs : List N} {nw od : Nat → Nat} (h : Sh Try.prog T w s m e room xs nw od) : ∀ x ∈ xs, I64 x.key := by
  intro x hx
  obtain ⟨es, c, _, _, _, h4⟩ := h.map
  obtain ⟨lit, hl⟩ := h4 (.int .i64 x.key, ptr x.blk) (List.mem_map.2 ⟨x, hx, rfl⟩)
  have h1 : IntKind.i64.min = -9223372036854775808 := rfl
  have h2 : IntKind.i64.max = 9223372036854775807 := rfl
  have hu : Try.prog.underlying T.k = some (.int .i64) := Try.underlying3
  simp [keyOf, hu, mapKey, Lit.wf, h1, h2] at hl
  obtain ⟨⟨h3, h4⟩, _⟩ := hl
  exact ⟨h3, h4⟩

abbrev Sf (w : World) (s : Nat) (room : Nat) (ks : List Int) (F : Nat → Prop) : Prop := Shelf Try.prog T w s room ks F

theorem sf_key_ok {w : World} {s room : Nat} {ks : List Int} {F : Nat → Prop} (h : Sf w s room ks F) : ∀ k ∈ ks, I64 k := by
  obtain ⟨m, e, xs, nw, od, h1, rfl, h3, h4⟩ := h
  intro p hp
  obtain ⟨x, hx, rfl⟩ := List.mem_map.1 hp
  exact sh_key_ok h1 x hx

/-- What is there behind a Get. -/
def touch (k : Int) (ks : List Int) : List Int := if k ∈ ks then ks.erase k ++ [k] else ks
/-- What is there behind a Put, and what it answers. -/
def putL (room : Nat) (k : Int) (ks : List Int) : List Int :=
  if k ∈ ks then ks.erase k ++ [k] else if ks.length < room then ks ++ [k] else ks.tail ++ [k]
def goneL (room : Nat) (k : Int) (ks : List Int) : Int × Bool :=
  if k ∈ ks then (0, false) else if ks.length < room then (0, false) else ((ks.head?).getD 0, true)

theorem key_in {A C : List N} {x : N} : x.key ∈ (A ++ x :: C).map N.key := by simp
theorem key_out {xs : List N} {k : Int} (h : ∀ x ∈ xs, x.key ≠ k) : k ∉ xs.map N.key := by
  intro hm
  obtain ⟨x, hx, he⟩ := List.mem_map.1 hm
  exact h x hx he
theorem key_erase {A C : List N} {x : N} (h : ((A ++ x :: C).map N.key).Nodup) : ((A ++ x :: C).map N.key).erase x.key = (A ++ C).map N.key := by
  rw [List.map_append, List.map_cons] at h ⊢
  rw [erase_split h, List.map_append]

/-- Where the shelf is now: its blocks are old ones of its own or new ones. -/
def Now (w w' : World) (s room : Nat) (ks : List Int) (F : Nat → Prop) : Prop :=
  (∃ F', Sf w' s room ks F' ∧ ∀ b, F' b → F b ∨ w.heap.size ≤ b) ∧ Keeps F w w'

theorem now_of {w w' : World} {s room m m' : Nat} {e e' : N} {xs ys : List N} {nw od : Nat → Nat} {ks : List Int} {F : Nat → Prop} (h3 : ∀ b, Own s m e xs b → F b) (h4 : ∀ b, F b → b < w.heap.size)
    (h : Sh Try.prog T w' s m' e' room ys nw od) (hk : ks = ys.map N.key) (hO : ∀ b, Own s m' e' ys b → Own s m e xs b ∨ w.heap.size ≤ b) (hK : Keeps (Own s m e xs) w w') : Now w w' s room ks F := by
  refine ⟨⟨fun b => (F b ∨ w.heap.size ≤ b) ∧ b < w'.heap.size, ⟨m', e', ys, nw, od, h, hk, fun b hb => ⟨?_, h.lt b hb⟩, fun b hb => hb.2⟩, fun b hb => hb.1⟩, hK.mono fun b _ hb => h3 b hb⟩
  rcases hO b hb with h | h
  · exact .inl (h3 b h)
  · exact .inr h

theorem now_same {w : World} {s room : Nat} {ks : List Int} {F : Nat → Prop} (h : Sf w s room ks F) : Now w w s room ks F :=
  ⟨⟨F, h, fun b hb => .inl hb⟩, Keeps.refl _ _⟩

theorem now_keep {w w' : World} {s room : Nat} {ks : List Int} {F : Nat → Prop} (h : Sf w s room ks F) (hK : Keeps (fun _ => False) w w') : Now w w' s room ks F :=
  ⟨⟨F, h.kept hK fun _ _ h => h, fun b hb => .inl hb⟩, hK.mono fun _ _ h => h.elim⟩

theorem own_sub {s m : Nat} {e : N} {xs ys : List N} (h : ∀ x ∈ ys, x ∈ xs) {b : Nat} (hb : Own s m e ys b) : Own s m e xs b := by
  rcases hb with h1 | h1 | ⟨z, hz, h1⟩
  · exact .inl h1
  · exact .inr (.inl h1)
  · refine .inr (.inr ⟨z, ?_, h1⟩)
    rcases List.mem_cons.1 hz with h2 | h2
    · simp [h2]
    · exact List.mem_cons_of_mem _ (h z h2)

theorem get_any (s room : Nat) (ks : List Int) (F : Nat → Prop) (k : Int) (w : World) (h : Sf w s room ks F) (hk : I64 k) :
    Calls Try.prog 35 #[ptr s, .int .i64 k] w fun r w' => r = .returned (.tuple #[.agg #[], .bool (decide (k ∈ ks))]) ∧ Now w w' s room (touch k ks) F := by
  have hs := h
  have hnd := h.keys
  obtain ⟨m, e, xs, nw, od, h1, rfl, h3, h4⟩ := h
  unfold touch
  rcases key_split k xs with ⟨A, x, C, rfl, rfl⟩ | hn
  · rw [if_pos key_in, decide_eq_true key_in, key_erase hnd]
    refine (get_in s m e x room A C nw od w h1 hk).mono ?_
    rintro r w' ⟨rfl, ⟨nw', od', hS⟩, hK⟩
    refine ⟨rfl, now_of h3 h4 hS (by simp) (fun b hb => .inl (own_sub (fun z hz => ?_) hb)) hK⟩
    simp at hz ⊢; rcases hz with h | h | h <;> simp [h]
  · have hl := key_out hn
    rw [if_neg hl, decide_eq_false hl]
    refine (get_out s m e room xs nw od k w h1 hk hn).mono ?_
    rintro r w' ⟨rfl, hK⟩
    exact ⟨rfl, now_keep hs hK⟩

theorem peek_any (s room : Nat) (ks : List Int) (F : Nat → Prop) (k : Int) (w : World) (h : Sf w s room ks F) (hk : I64 k) :
    Calls Try.prog 37 #[ptr s, .int .i64 k] w fun r w' => r = .returned (.tuple #[.agg #[], .bool (decide (k ∈ ks))]) ∧ Keeps (fun _ => False) w w' := by
  have hnd := h.keys
  obtain ⟨m, e, xs, nw, od, h1, rfl, h3, h4⟩ := h
  rcases key_split k xs with ⟨A, x, C, rfl, rfl⟩ | hn
  · rw [decide_eq_true key_in]
    exact peek_in s m e x room A C nw od w h1 hk
  · rw [decide_eq_false (key_out hn)]
    exact peek_out s m e room xs nw od k w h1 hk hn

theorem put_any (s room : Nat) (ks : List Int) (F : Nat → Prop) (k : Int) (w : World) (h : Sf w s room ks F) (hk : I64 k) :
    Calls Try.prog 36 #[ptr s, .int .i64 k, .agg #[]] w fun r w' => r = .returned (.tuple #[.int .i64 (goneL room k ks).1, .bool (goneL room k ks).2]) ∧ Now w w' s room (putL room k ks) F := by
  have hs := h
  have hnd := h.keys
  obtain ⟨m, e, xs, nw, od, h1, rfl, h3, h4⟩ := h
  unfold goneL putL
  rcases key_split k xs with ⟨A, x, C, rfl, rfl⟩ | hn
  · rw [if_pos key_in, if_pos key_in, key_erase hnd]
    refine (put_in s m e x room A C nw od w h1 hk).mono ?_
    rintro r w' ⟨rfl, ⟨nw', od', hS⟩, hK⟩
    refine ⟨rfl, now_of h3 h4 hS (by simp) (fun b hb => .inl (own_sub (fun z hz => ?_) hb)) hK⟩
    simp at hz ⊢; rcases hz with h | h | h <;> simp [h]
  · have hl := key_out hn
    rw [if_neg hl, if_neg hl]
    by_cases hf : xs.length < room
    · simp only [List.length_map, if_pos hf]
      refine (put_new s m e room xs nw od k w h1 hk hn hf).mono ?_
      rintro r w' ⟨rfl, ⟨b0, nw', od', hb0, hS⟩, hK⟩
      refine ⟨rfl, now_of h3 h4 hS (by simp) (fun b hb => ?_) hK⟩
      rcases hb with h | h | ⟨z, hz, h⟩
      · exact .inl (.inl h)
      · exact .inl (.inr (.inl h))
      · simp at hz
        rcases hz with h5 | h5 | h5
        · exact .inl (.inr (.inr ⟨e, by simp, by rw [h, h5]⟩))
        · exact .inl (.inr (.inr ⟨z, by simp [h5], h⟩))
        · exact .inr (by rw [h, h5]; exact hb0)
    · simp only [List.length_map, if_neg hf]
      cases xs with
      | nil => have := h1.lo; simp at hf; omega
      | cons x xs =>
        have hfit := h1.fits
        simp at hfit hf
        refine (put_full s m e x room xs nw od k w h1 hk (sh_key_ok h1 x (by simp)) hn (by omega)).mono ?_
        rintro r w' ⟨rfl, ⟨b0, nw', od', hb0, hS⟩, hK⟩
        refine ⟨rfl, now_of h3 h4 hS (by simp) (fun b hb => ?_) hK⟩
        rcases hb with h | h | ⟨z, hz, h⟩
        · exact .inl (.inl h)
        · exact .inl (.inr (.inl h))
        · simp at hz
          rcases hz with h5 | h5 | h5
          · exact .inl (.inr (.inr ⟨e, by simp, by rw [h, h5]⟩))
          · exact .inl (.inr (.inr ⟨z, by simp [h5], h⟩))
          · exact .inr (by rw [h, h5]; exact hb0)

theorem clear_all (s room : Nat) (ks : List Int) (F : Nat → Prop) (w : World) (h : Sf w s room ks F) :
    Calls Try.prog 42 #[ptr s] w fun r w' => r = .returned (.tuple #[]) ∧ Now w w' s room [] F := by
  obtain ⟨m, e, xs, nw, od, h1, rfl, h3, h4⟩ := h
  refine (clear_any s e _ _ _ room w h1.blk (h1.ring.nodes e (by simp)) (fun he => h1.sx e (by simp) he.symm) h1.lo h1.hi).mono ?_
  rintro r w' ⟨rfl, ⟨nw', od', hS⟩, hK⟩
  refine ⟨rfl, now_of h3 h4 hS rfl (fun b hb => ?_) (hK.mono fun b _ hb => ?_)⟩
  · rcases hb with h | h | ⟨z, hz, h⟩
    · exact .inl (.inl h)
    · exact .inr (by omega)
    · simp at hz; subst hz; exact .inl (.inr (.inr ⟨z, by simp, h⟩))
  · rcases hb with h | h
    · exact .inl h
    · exact .inr (.inr ⟨e, by simp, h⟩)

theorem new_any (room : Nat) (w : World) (lo : 1 ≤ room) (hi : room ≤ 4096) :
    Calls Try.prog 24 #[.int .i64 room] w fun r w' => r = .returned (.tuple #[ptr (w.heap.size + 1), .int .i64 0]) ∧ (∃ F, Sf w' (w.heap.size + 1) room [] F ∧ ∀ b, F b → w.heap.size ≤ b) ∧ Keeps (fun _ => False) w w' := by
  refine (new_in room w lo hi).mono ?_
  rintro r w' ⟨rfl, ⟨m, e, nw, od, hm, he, hS⟩, hK⟩
  refine ⟨rfl, ⟨fun b => w.heap.size ≤ b ∧ b < w'.heap.size, ⟨m, e, [], nw, od, hS, rfl, fun b hb => ⟨?_, hS.lt b hb⟩, fun b hb => hb.2⟩, fun b hb => hb.1⟩, hK⟩
  rcases hb with h | h | ⟨z, hz, h⟩
  · omega
  · omega
  · simp at hz; subst hz; omega

end Go.Proofs.Ytajhkilclmicjaa
