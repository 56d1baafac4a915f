import Derived.Test.YtomjodoimjiceaaDoorFQ
namespace Go.Proofs.YtomjodoimjiceaaDoor.Q
open Go.RowKit Go.Shelf
set_option linter.unusedVariables false
set_option maxRecDepth 6000

abbrev Sf (w : World) (s : Nat) (room : Nat) (kvs : List (Pr × Value)) (F : Nat → Prop) : Prop := Shelf Tryd.prog T w s room kvs F

/-- What is there behind a Get. -/
def touch (k : Pr) (kvs : List (Pr × Value)) : List (Pr × Value) := match look k kvs with | some v => del k kvs ++ [(k, v)] | none => kvs
/-- What is there behind a Put, and what it answers. -/
def putL (room : Nat) (k : Pr) (v : Value) (kvs : List (Pr × Value)) : List (Pr × Value) :=
  if (look k kvs).isSome then del k kvs ++ [(k, v)] else if kvs.length < room then kvs ++ [(k, v)] else kvs.tail ++ [(k, v)]
def goneL (room : Nat) (k : Pr) (kvs : List (Pr × Value)) : Pr × Bool :=
  if (look k kvs).isSome then (Pr.none, false) else if kvs.length < room then (Pr.none, false) else (((kvs.head?).map Prod.fst).getD Pr.none, true)

theorem kv_split {A C : List N} {x : N} : (A ++ x :: C).map (fun x => (x.key, x.thing)) = A.map (fun x => (x.key, x.thing)) ++ (x.key, x.thing) :: C.map (fun x => (x.key, x.thing)) := by simp

/-- Where the shelf is now: its blocks are old ones of its own or new ones. -/
def Now (w w' : World) (s room : Nat) (kvs : List (Pr × Value)) (F : Nat → Prop) : Prop :=
  (∃ F', Sf w' s room kvs F' ∧ ∀ b, F' b → F b ∨ w.heap.size ≤ b) ∧ Keeps F w w'

theorem now_of {w w' : World} {s room m m' : Nat} {e e' : N} {xs ys : List N} {nw od : Nat → Nat} {kvs : List (Pr × Value)} {F : Nat → Prop} (h3 : ∀ b, Own s m e xs b → F b) (h4 : ∀ b, F b → b < w.heap.size)
    (h : Sh Tryd.prog T w' s m' e' room ys nw od) (hk : kvs = ys.map fun x => (x.key, x.thing)) (hO : ∀ b, Own s m' e' ys b → Own s m e xs b ∨ w.heap.size ≤ b) (hK : Keeps (Own s m e xs) w w') : Now w w' s room kvs F := by
  refine ⟨⟨fun b => (F b ∨ w.heap.size ≤ b) ∧ b < w'.heap.size, ⟨m', e', ys, nw, od, h, hk, fun b hb => ⟨?_, h.lt b hb⟩, fun b hb => hb.2⟩, fun b hb => hb.1⟩, hK.mono fun b _ hb => h3 b hb⟩
  rcases hO b hb with h | h
  · exact .inl (h3 b h)
  · exact .inr h

theorem now_same {w : World} {s room : Nat} {kvs : List (Pr × Value)} {F : Nat → Prop} (h : Sf w s room kvs F) : Now w w s room kvs F :=
  ⟨⟨F, h, fun b hb => .inl hb⟩, Keeps.refl _ _⟩

theorem now_keep {w w' : World} {s room : Nat} {kvs : List (Pr × Value)} {F : Nat → Prop} (h : Sf w s room kvs F) (hK : Keeps (fun _ => False) w w') : Now w w' s room kvs F :=
  ⟨⟨F, h.kept hK fun _ _ h => h, fun b hb => .inl hb⟩, hK.mono fun _ _ h => h.elim⟩

theorem get_any (s room : Nat) (kvs : List (Pr × Value)) (F : Nat → Prop) (k : Pr) (w : World) (h : Sf w s room kvs F) (hk : I64 k) :
    Calls Tryd.prog 30 #[ptr s, k.v] w fun r w' => r = .returned (.tuple #[(look k kvs).getD (.string ⟨#[]⟩), .bool (look k kvs).isSome]) ∧ Now w w' s room (touch k kvs) F := by
  have hs := h
  have hnd := h.keys
  obtain ⟨m, e, xs, nw, od, h1, rfl, h3, h4⟩ := h
  rcases key_split k xs with ⟨A, x, C, rfl, rfl⟩ | hn
  · rw [kv_split] at hnd ⊢
    unfold touch
    rw [look_split _ hnd, del_split _ hnd]
    refine (get_in s m e x room A C nw od w h1 hk).mono ?_
    rintro r w' ⟨rfl, ⟨nw', od', hS⟩, hK⟩
    refine ⟨rfl, now_of h3 h4 hS (by simp) (fun b hb => .inl (own_sub (fun z hz => ?_) hb)) hK⟩
    simp at hz ⊢; rcases hz with h | h | h <;> simp [h]
  · have hl : look k (xs.map fun x => (x.key, x.thing)) = none := look_none k (by
      intro p hp
      obtain ⟨x, hx, rfl⟩ := List.mem_map.1 hp
      exact hn x hx)
    unfold touch
    rw [hl]
    refine (get_out s m e room xs nw od k w h1 hk hn).mono ?_
    rintro r w' ⟨rfl, hK⟩
    exact ⟨rfl, now_keep hs hK⟩

theorem peek_any (s room : Nat) (kvs : List (Pr × Value)) (F : Nat → Prop) (k : Pr) (w : World) (h : Sf w s room kvs F) (hk : I64 k) :
    Calls Tryd.prog 31 #[ptr s, k.v] w fun r w' => r = .returned (.tuple #[(look k kvs).getD (.string ⟨#[]⟩), .bool (look k kvs).isSome]) ∧ Keeps (fun _ => False) w w' := by
  have hnd := h.keys
  obtain ⟨m, e, xs, nw, od, h1, rfl, h3, h4⟩ := h
  rcases key_split k xs with ⟨A, x, C, rfl, rfl⟩ | hn
  · rw [kv_split] at hnd ⊢
    rw [look_split _ hnd]
    exact peek_in s m e x room A C nw od w h1 hk
  · have hl : look k (xs.map fun x => (x.key, x.thing)) = none := look_none k (by
      intro p hp
      obtain ⟨x, hx, rfl⟩ := List.mem_map.1 hp
      exact hn x hx)
    rw [hl]
    exact peek_out s m e room xs nw od k w h1 hk hn

theorem drop_any (s room : Nat) (kvs : List (Pr × Value)) (F : Nat → Prop) (k : Pr) (w : World) (h : Sf w s room kvs F) (hk : I64 k) :
    Calls Tryd.prog 32 #[ptr s, k.v] w fun r w' => r = .returned (.bool (look k kvs).isSome) ∧ Now w w' s room (del k kvs) F := by
  have hs := h
  have hnd := h.keys
  obtain ⟨m, e, xs, nw, od, h1, rfl, h3, h4⟩ := h
  rcases key_split k xs with ⟨A, x, C, rfl, rfl⟩ | hn
  · rw [kv_split] at hnd ⊢
    rw [look_split _ hnd, del_split _ hnd]
    refine (drop_in s m e x room A C nw od w h1 hk).mono ?_
    rintro r w' ⟨rfl, ⟨nw', od', hS⟩, hK⟩
    refine ⟨rfl, now_of h3 h4 hS (by simp) (fun b hb => .inl (own_sub (fun z hz => ?_) hb)) hK⟩
    simp at hz ⊢; rcases hz with h | h <;> simp [h]
  · have hkv : ∀ p ∈ xs.map (fun x => (x.key, x.thing)), p.1 ≠ k := by
      intro p hp
      obtain ⟨x, hx, rfl⟩ := List.mem_map.1 hp
      exact hn x hx
    rw [look_none k hkv, del_none k hkv]
    refine (drop_out s m e room xs nw od k w h1 hk hn).mono ?_
    rintro r w' ⟨rfl, hK⟩
    exact ⟨rfl, now_keep hs hK⟩

theorem put_any (s room : Nat) (kvs : List (Pr × Value)) (F : Nat → Prop) (k : Pr) (n : ByteArray) (w : World) (h : Sf w s room kvs F) (hk : I64 k) (hks : ∀ p ∈ kvs, I64 p.1) :
    Calls Tryd.prog 29 #[ptr s, k.v, (.string n)] w fun r w' => r = .returned (.tuple #[(goneL room k kvs).1.v, .bool (goneL room k kvs).2]) ∧ Now w w' s room (putL room k (.string n) kvs) F := by
  have hs := h
  have hnd := h.keys
  obtain ⟨m, e, xs, nw, od, h1, rfl, h3, h4⟩ := h
  rcases key_split k xs with ⟨A, x, C, rfl, rfl⟩ | hn
  · rw [kv_split] at hnd ⊢
    unfold goneL putL
    rw [look_split _ hnd, del_split _ hnd]
    refine (put_in s m e x room A C nw od n w h1 hk).mono ?_
    rintro r w' ⟨rfl, ⟨nw', od', hS⟩, hK⟩
    refine ⟨rfl, now_of h3 h4 hS (by simp) (fun b hb => .inl ?_) hK⟩
    rcases hb with h | h | ⟨z, hz, h⟩
    · exact .inl h
    · exact .inr (.inl h)
    · simp at hz
      rcases hz with h5 | h5 | h5 | h5
      · exact .inr (.inr ⟨e, by simp, by rw [h, h5]⟩)
      · exact .inr (.inr ⟨z, by simp [h5], h⟩)
      · exact .inr (.inr ⟨z, by simp [h5], h⟩)
      · exact .inr (.inr ⟨x, by simp, by rw [h, h5]⟩)
  · have hkv : ∀ p ∈ xs.map (fun x => (x.key, x.thing)), p.1 ≠ k := by
      intro p hp
      obtain ⟨x, hx, rfl⟩ := List.mem_map.1 hp
      exact hn x hx
    unfold goneL putL
    rw [look_none k hkv]
    by_cases hf : xs.length < room
    · simp only [Option.isSome_none, Bool.false_eq_true, if_false, List.length_map, if_pos hf]
      refine (put_new s m e room xs nw od k n w h1 hk hn hf).mono ?_
      rintro r w' ⟨rfl, ⟨b0, nw', od', hb0, hS⟩, hK⟩
      refine ⟨rfl, now_of h3 h4 hS (by simp) (fun b hb => ?_) hK⟩
      rcases hb with h | h | ⟨z, hz, h⟩
      · exact .inl (.inl h)
      · exact .inl (.inr (.inl h))
      · simp at hz
        rcases hz with h5 | h5 | h5
        · exact .inl (.inr (.inr ⟨e, by simp, by rw [h, h5]⟩))
        · exact .inl (.inr (.inr ⟨z, by simp [h5], h⟩))
        · exact .inr (by rw [h, h5]; exact hb0)
    · simp only [Option.isSome_none, Bool.false_eq_true, if_false, List.length_map, if_neg hf]
      cases xs with
      | nil => have := h1.lo; simp at hf; omega
      | cons x xs =>
        have hfit := h1.fits
        simp at hfit hf
        refine (put_full s m e x room xs nw od k n w h1 hk (hks (x.key, x.thing) (by simp)) hn (by omega)).mono ?_
        rintro r w' ⟨rfl, ⟨b0, nw', od', hb0, hS⟩, hK⟩
        refine ⟨rfl, now_of h3 h4 hS (by simp) (fun b hb => ?_) hK⟩
        rcases hb with h | h | ⟨z, hz, h⟩
        · exact .inl (.inl h)
        · exact .inl (.inr (.inl h))
        · simp at hz
          rcases hz with h5 | h5 | h5
          · exact .inl (.inr (.inr ⟨e, by simp, by rw [h, h5]⟩))
          · exact .inl (.inr (.inr ⟨z, by simp [h5], h⟩))
          · exact .inr (by rw [h, h5]; exact hb0)

theorem len_any (s room : Nat) (kvs : List (Pr × Value)) (F : Nat → Prop) (w : World) (h : Sf w s room kvs F) :
    Calls Tryd.prog 10 #[ptr s] w fun r w' => r = .returned (.int .i64 kvs.length) ∧ w' = w := by
  obtain ⟨m, e, xs, nw, od, h1, rfl, h3, h4⟩ := h
  refine len_in s m _ w h1.cells.2.1 fun ty => ?_
  have := h1.map.len (ty := ty) Tryd.underlying55
  simp only [mapOf, List.length_map] at this ⊢
  exact this

theorem clear_all (s room : Nat) (kvs : List (Pr × Value)) (F : Nat → Prop) (w : World) (h : Sf w s room kvs F) :
    Calls Tryd.prog 14 #[ptr s] w fun r w' => r = .returned (.tuple #[]) ∧ Now w w' s room [] F := by
  obtain ⟨m, e, xs, nw, od, h1, rfl, h3, h4⟩ := h
  refine (clear_any s e _ _ _ room w h1.blk (h1.ring.nodes e (by simp)) (fun he => h1.sx e (by simp) he.symm) h1.lo h1.hi).mono ?_
  rintro r w' ⟨rfl, ⟨nw', od', hS⟩, hK⟩
  refine ⟨rfl, now_of h3 h4 hS rfl (fun b hb => ?_) (hK.mono fun b _ hb => ?_)⟩
  · rcases hb with h | h | ⟨z, hz, h⟩
    · exact .inl (.inl h)
    · exact .inr (by omega)
    · simp at hz; subst hz; exact .inl (.inr (.inr ⟨z, by simp, h⟩))
  · rcases hb with h | h
    · exact .inl h
    · exact .inr (.inr ⟨e, by simp, h⟩)

theorem new_any (room : Nat) (w : World) (lo : 1 ≤ room) (hi : room ≤ 4096) :
    Calls Tryd.prog 5 #[.int .i64 room] w fun r w' => r = .returned (.tuple #[ptr (w.heap.size + 1), .int .i64 0]) ∧ (∃ F, Sf w' (w.heap.size + 1) room [] F ∧ ∀ b, F b → w.heap.size ≤ b) ∧ Keeps (fun _ => False) w w' := by
  refine (new_in room w lo hi).mono ?_
  rintro r w' ⟨rfl, ⟨m, e, nw, od, hm, he, hS⟩, hK⟩
  refine ⟨rfl, ⟨fun b => w.heap.size ≤ b ∧ b < w'.heap.size, ⟨m, e, [], nw, od, hS, rfl, fun b hb => ⟨?_, hS.lt b hb⟩, fun b hb => hb.2⟩, fun b hb => hb.1⟩, hK⟩
  rcases hb with h | h | ⟨z, hz, h⟩
  · omega
  · omega
  · simp at hz; subst hz; omega

end Go.Proofs.YtomjodoimjiceaaDoor.Q
