import Derived.Test.YtipejahmjdamjaaDoorTlF
namespace Go.Proofs.YtipejahmjdamjaaDoor.Tl
open Go.RowKit Go.Shelf
set_option linter.unusedVariables false

theorem sh_key_ok {w : World} {s m room : Nat} {e : N} {xs : List N} {nw od : Nat → Nat} (h : Sh Tryd.prog T w s m e room xs nw od) : ∀ x ∈ xs, I64 x.key := by
  intro x hx
  obtain ⟨es, c, _, _, _, h4⟩ := h.map
  obtain ⟨lit, hl⟩ := h4 (.int .i64 x.key, ptr x.blk) (List.mem_map.2 ⟨x, hx, rfl⟩)
  have h1 : IntKind.i64.min = -9223372036854775808 := rfl
  have h2 : IntKind.i64.max = 9223372036854775807 := rfl
  have hu : Tryd.prog.underlying T.k = some (.int .i64) := Tryd.underlying3
  simp [keyOf, hu, mapKey, Lit.wf, h1, h2] at hl
  obtain ⟨⟨h3, h4⟩, _⟩ := hl
  exact ⟨h3, h4⟩

abbrev Sf (w : World) (s : Nat) (room : Nat) (kvs : List (Int × Lf)) (F : Nat → Prop) : Prop := Shelf Tryd.prog T w s room kvs F

theorem sf_key_ok {w : World} {s room : Nat} {kvs : List (Int × Lf)} {F : Nat → Prop} (h : Sf w s room kvs F) : ∀ p ∈ kvs, I64 p.1 := by
  obtain ⟨m, e, xs, nw, od, h1, rfl, h3, h4⟩ := h
  intro p hp
  obtain ⟨x, hx, rfl⟩ := List.mem_map.1 hp
  exact sh_key_ok h1 x hx

/-- What is there behind a Get. -/
def touch (k : Int) (kvs : List (Int × Lf)) : List (Int × Lf) := match look k kvs with | some v => del k kvs ++ [(k, v)] | none => kvs
/-- What is there behind a Put, and what it answers. -/
def putL (room : Nat) (k : Int) (v : Lf) (kvs : List (Int × Lf)) : List (Int × Lf) :=
  if (look k kvs).isSome then del k kvs ++ [(k, v)] else if kvs.length < room then kvs ++ [(k, v)] else kvs.tail ++ [(k, v)]
def goneL (room : Nat) (k : Int) (kvs : List (Int × Lf)) : Int × Bool :=
  if (look k kvs).isSome then (0, false) else if kvs.length < room then (0, false) else (((kvs.head?).map Prod.fst).getD 0, true)

theorem kv_split {A C : List N} {x : N} : (A ++ x :: C).map (fun x => (x.key, x.thing)) = A.map (fun x => (x.key, x.thing)) ++ (x.key, x.thing) :: C.map (fun x => (x.key, x.thing)) := by simp

/-- Where the shelf is now: its blocks are old ones of its own or new ones. -/
def Now (w w' : World) (s room : Nat) (kvs : List (Int × Lf)) (F : Nat → Prop) : Prop :=
  (∃ F', Sf w' s room kvs F' ∧ ∀ b, F' b → F b ∨ w.heap.size ≤ b) ∧ Keeps F w w'

theorem now_of {w w' : World} {s room m m' : Nat} {e e' : N} {xs ys : List N} {nw od : Nat → Nat} {kvs : List (Int × Lf)} {F : Nat → Prop} (h3 : ∀ b, Own s m e xs b → F b) (h4 : ∀ b, F b → b < w.heap.size)
    (h : Sh Tryd.prog T w' s m' e' room ys nw od) (hk : kvs = ys.map fun x => (x.key, x.thing)) (hO : ∀ b, Own s m' e' ys b → Own s m e xs b ∨ w.heap.size ≤ b) (hK : Keeps (Own s m e xs) w w') : Now w w' s room kvs F := by
  refine ⟨⟨fun b => (F b ∨ w.heap.size ≤ b) ∧ b < w'.heap.size, ⟨m', e', ys, nw, od, h, hk, fun b hb => ⟨?_, h.lt b hb⟩, fun b hb => hb.2⟩, fun b hb => hb.1⟩, hK.mono fun b _ hb => h3 b hb⟩
  rcases hO b hb with h | h
  · exact .inl (h3 b h)
  · exact .inr h

theorem now_same {w : World} {s room : Nat} {kvs : List (Int × Lf)} {F : Nat → Prop} (h : Sf w s room kvs F) : Now w w s room kvs F :=
  ⟨⟨F, h, fun b hb => .inl hb⟩, Keeps.refl _ _⟩

theorem now_keep {w w' : World} {s room : Nat} {kvs : List (Int × Lf)} {F : Nat → Prop} (h : Sf w s room kvs F) (hK : Keeps (fun _ => False) w w') : Now w w' s room kvs F :=
  ⟨⟨F, h.kept hK fun _ _ h => h, fun b hb => .inl hb⟩, hK.mono fun _ _ h => h.elim⟩

theorem get_any (s room : Nat) (kvs : List (Int × Lf)) (F : Nat → Prop) (k : Int) (w : World) (h : Sf w s room kvs F) (hk : I64 k) :
    Calls Tryd.prog 66 #[ptr s, .int .i64 k] w fun r w' => r = .returned (.tuple #[((look k kvs).getD Lf.none).v, .bool (look k kvs).isSome]) ∧ Now w w' s room (touch k kvs) F := by
  have hs := h
  have hnd := h.keys
  obtain ⟨m, e, xs, nw, od, h1, rfl, h3, h4⟩ := h
  rcases key_split k xs with ⟨A, x, C, rfl, rfl⟩ | hn
  · rw [kv_split] at hnd ⊢
    unfold touch
    rw [look_split _ hnd, del_split _ hnd]
    refine (get_in s m e x room A C nw od w h1 hk).mono ?_
    rintro r w' ⟨rfl, ⟨nw', od', hS⟩, hK⟩
    refine ⟨rfl, now_of h3 h4 hS (by simp) (fun b hb => .inl (own_sub (fun z hz => ?_) hb)) hK⟩
    simp at hz ⊢; rcases hz with h | h | h <;> simp [h]
  · have hl : look k (xs.map fun x => (x.key, x.thing)) = none := look_none k (by
      intro p hp
      obtain ⟨x, hx, rfl⟩ := List.mem_map.1 hp
      exact hn x hx)
    unfold touch
    rw [hl]
    refine (get_out s m e room xs nw od k w h1 hk hn).mono ?_
    rintro r w' ⟨rfl, hK⟩
    exact ⟨rfl, now_keep hs hK⟩

theorem put_any (s room : Nat) (kvs : List (Int × Lf)) (F : Nat → Prop) (k : Int) (l : Lf) (w : World) (h : Sf w s room kvs F) (hk : I64 k) :
    Calls Tryd.prog 88 #[ptr s, .int .i64 k, l.v] w fun r w' => r = .returned (.tuple #[.int .i64 (goneL room k kvs).1, .bool (goneL room k kvs).2]) ∧ Now w w' s room (putL room k l kvs) F := by
  have hs := h
  have hnd := h.keys
  obtain ⟨m, e, xs, nw, od, h1, rfl, h3, h4⟩ := h
  rcases key_split k xs with ⟨A, x, C, rfl, rfl⟩ | hn
  · rw [kv_split] at hnd ⊢
    unfold goneL putL
    rw [look_split _ hnd, del_split _ hnd]
    refine (put_in s m e x room A C nw od l w h1 hk).mono ?_
    rintro r w' ⟨rfl, ⟨nw', od', hS⟩, hK⟩
    refine ⟨rfl, now_of h3 h4 hS (by simp) (fun b hb => .inl ?_) hK⟩
    rcases hb with h | h | ⟨z, hz, h⟩
    · exact .inl h
    · exact .inr (.inl h)
    · simp at hz
      rcases hz with h5 | h5 | h5 | h5
      · exact .inr (.inr ⟨e, by simp, by rw [h, h5]⟩)
      · exact .inr (.inr ⟨z, by simp [h5], h⟩)
      · exact .inr (.inr ⟨z, by simp [h5], h⟩)
      · exact .inr (.inr ⟨x, by simp, by rw [h, h5]⟩)
  · have hkv : ∀ p ∈ xs.map (fun x => (x.key, x.thing)), p.1 ≠ k := by
      intro p hp
      obtain ⟨x, hx, rfl⟩ := List.mem_map.1 hp
      exact hn x hx
    unfold goneL putL
    rw [look_none k hkv]
    by_cases hf : xs.length < room
    · simp only [Option.isSome_none, Bool.false_eq_true, if_false, List.length_map, if_pos hf]
      refine (put_new s m e room xs nw od k l w h1 hk hn hf).mono ?_
      rintro r w' ⟨rfl, ⟨b0, nw', od', hb0, hS⟩, hK⟩
      refine ⟨rfl, now_of h3 h4 hS (by simp) (fun b hb => ?_) hK⟩
      rcases hb with h | h | ⟨z, hz, h⟩
      · exact .inl (.inl h)
      · exact .inl (.inr (.inl h))
      · simp at hz
        rcases hz with h5 | h5 | h5
        · exact .inl (.inr (.inr ⟨e, by simp, by rw [h, h5]⟩))
        · exact .inl (.inr (.inr ⟨z, by simp [h5], h⟩))
        · exact .inr (by rw [h, h5]; exact hb0)
    · simp only [Option.isSome_none, Bool.false_eq_true, if_false, List.length_map, if_neg hf]
      cases xs with
      | nil => have := h1.lo; simp at hf; omega
      | cons x xs =>
        have hfit := h1.fits
        simp at hfit hf
        refine (put_full s m e x room xs nw od k l w h1 hk (sh_key_ok h1 x (by simp)) hn (by omega)).mono ?_
        rintro r w' ⟨rfl, ⟨b0, nw', od', hb0, hS⟩, hK⟩
        refine ⟨rfl, now_of h3 h4 hS (by simp) (fun b hb => ?_) hK⟩
        rcases hb with h | h | ⟨z, hz, h⟩
        · exact .inl (.inl h)
        · exact .inl (.inr (.inl h))
        · simp at hz
          rcases hz with h5 | h5 | h5
          · exact .inl (.inr (.inr ⟨e, by simp, by rw [h, h5]⟩))
          · exact .inl (.inr (.inr ⟨z, by simp [h5], h⟩))
          · exact .inr (by rw [h, h5]; exact hb0)

theorem clear_all (s room : Nat) (kvs : List (Int × Lf)) (F : Nat → Prop) (w : World) (h : Sf w s room kvs F) :
    Calls Tryd.prog 22 #[ptr s] w fun r w' => r = .returned (.tuple #[]) ∧ Now w w' s room [] F := by
  obtain ⟨m, e, xs, nw, od, h1, rfl, h3, h4⟩ := h
  refine (clear_any s e _ _ _ room w h1.blk (h1.ring.nodes e (by simp)) (fun he => h1.sx e (by simp) he.symm) h1.lo h1.hi).mono ?_
  rintro r w' ⟨rfl, ⟨nw', od', hS⟩, hK⟩
  refine ⟨rfl, now_of h3 h4 hS rfl (fun b hb => ?_) (hK.mono fun b _ hb => ?_)⟩
  · rcases hb with h | h | ⟨z, hz, h⟩
    · exact .inl (.inl h)
    · exact .inr (by omega)
    · simp at hz; subst hz; exact .inl (.inr (.inr ⟨z, by simp, h⟩))
  · rcases hb with h | h
    · exact .inl h
    · exact .inr (.inr ⟨e, by simp, h⟩)

theorem new_any (room : Nat) (w : World) (lo : 1 ≤ room) (hi : room ≤ 4096) :
    Calls Tryd.prog 15 #[.int .i64 room] w fun r w' => r = .returned (.tuple #[ptr (w.heap.size + 1), .int .i64 0]) ∧ (∃ F, Sf w' (w.heap.size + 1) room [] F ∧ ∀ b, F b → w.heap.size ≤ b) ∧ Keeps (fun _ => False) w w' := by
  refine (new_in room w lo hi).mono ?_
  rintro r w' ⟨rfl, ⟨m, e, nw, od, hm, he, hS⟩, hK⟩
  refine ⟨rfl, ⟨fun b => w.heap.size ≤ b ∧ b < w'.heap.size, ⟨m, e, [], nw, od, hS, rfl, fun b hb => ⟨?_, hS.lt b hb⟩, fun b hb => hb.2⟩, fun b hb => hb.1⟩, hK⟩
  rcases hb with h | h | ⟨z, hz, h⟩
  · omega
  · omega
  · simp at hz; subst hz; omega

end Go.Proofs.YtipejahmjdamjaaDoor.Tl
namespace Go.Proofs.YtipejahmjdamjaaDoor.Tl
open Go.RowKit Go.Shelf
set_option linter.unusedVariables false

def inB (n many : Int) : Bool := decide (0 ≤ n) && decide (n < many)
def mayB (l : Lf) : Bool := inB l.p 256 && inB l.f 1024 && inB l.r 8

theorem within_any (n many : Int) (w : World) : Calls Tryd.prog 87 #[.int .i64 n, .int .i64 many] w fun r w' => r = .returned (.bool (inB n many)) ∧ w' = w := by
  unfold inB
  by_cases h1 : 0 ≤ n
  · by_cases h2 : n < many
    · rw [decide_eq_true h1, decide_eq_true h2]
      go_enter Tryd.func87, Tryd.ntmps87
      go_wp2
      go_ret
      exact ⟨rfl, rfl⟩
    · rw [decide_eq_true h1, decide_eq_false h2]
      go_enter Tryd.func87, Tryd.ntmps87
      go_wp2
      go_ret
      exact ⟨rfl, rfl⟩
  · rw [decide_eq_false h1]
    go_enter Tryd.func87, Tryd.ntmps87
    go_wp2
    go_ret
    exact ⟨rfl, rfl⟩

theorem mayBe_any (l : Lf) (w : World) : Calls Tryd.prog 70 #[l.v] w fun r w' => r = .returned (.bool (mayB l)) ∧ Keeps (fun _ => False) w w' := by
  obtain ⟨W, hW⟩ : ∃ W, W = w.alloc (.cells #[.int .i64 l.p, .int .i64 l.f, .int .i64 l.r] 60) := ⟨_, rfl⟩
  have hB : Blk W w.heap.size l.vs 60 := by rw [hW]; exact Blk.new w _ 60
  have v0 := hB.cell (i := 0) rfl
  have v1 := hB.cell (i := 1) rfl
  have v2 := hB.cell (i := 2) rfl
  have hKW : Keeps (fun _ => False) w W := by rw [hW]; exact (Keeps.refl _ w).alloc _
  have HW : Hid (W = _ ∧ Keeps (fun _ => False) w W) := ⟨hW, hKW⟩
  have H1 : Hid (Calls _ _ _ _ _) := within_any l.p 256 W
  have H2 : Hid (Calls _ _ _ _ _) := within_any l.f 1024 W
  have H3 : Hid (Calls _ _ _ _ _) := within_any l.r 8 W
  clear hW hKW hB
  unfold mayB
  generalize inB l.p 256 = b1 at *
  generalize inB l.f 1024 = b2 at *
  generalize inB l.r 8 = b3 at *
  cases b1
  · go_enter Tryd.func70, Tryd.ntmps70
    go_wp2_with fail
    rw [← HW.out.1]
    refine H1.out.mono ?_
    rintro r w1 ⟨rfl, rfl⟩
    go_wp2
    go_ret
    exact ⟨rfl, HW.out.2⟩
  · cases b2
    · go_enter Tryd.func70, Tryd.ntmps70
      go_wp2_with fail
      rw [← HW.out.1]
      refine H1.out.mono ?_
      rintro r w1 ⟨rfl, rfl⟩
      go_wp2_with fail
      refine H2.out.mono ?_
      rintro r w1 ⟨rfl, rfl⟩
      go_wp2
      go_ret
      exact ⟨rfl, HW.out.2⟩
    · go_enter Tryd.func70, Tryd.ntmps70
      go_wp2_with fail
      rw [← HW.out.1]
      refine H1.out.mono ?_
      rintro r w1 ⟨rfl, rfl⟩
      go_wp2_with fail
      refine H2.out.mono ?_
      rintro r w1 ⟨rfl, rfl⟩
      go_wp2_with fail
      refine H3.out.mono ?_
      rintro r w1 ⟨rfl, rfl⟩
      go_wp2
      go_ret
      exact ⟨by simp, HW.out.2⟩

/-! ### A TLB -/
def kv (ls : List Lf) : List (Int × Lf) := ls.map fun l => (l.p, l)
def wo (p : Int) (ls : List Lf) : List Lf := ls.filter fun l => l.p != p
def findT (p : Int) (ls : List Lf) : Option Lf := ls.find? fun l => l.p == p
def touchT (p : Int) (ls : List Lf) : List Lf := match findT p ls with | some x => wo p ls ++ [x] | none => ls
def putT (l : Lf) (ls : List Lf) : List Lf := if 4 < (wo l.p ls ++ [l]).length then (wo l.p ls ++ [l]).tail else wo l.p ls ++ [l]

theorem look_kv (p : Int) (ls : List Lf) : look p (kv ls) = findT p ls := by
  unfold look kv findT
  rw [List.find?_map, Option.map_map]
  have : (Prod.snd ∘ fun l : Lf => (l.p, l)) = id := rfl
  rw [this, Option.map_id]
  rfl
theorem del_kv (p : Int) (ls : List Lf) : del p (kv ls) = kv (wo p ls) := by
  unfold del kv wo
  rw [List.filter_map]
  rfl
theorem touch_kv (p : Int) (ls : List Lf) : touch p (kv ls) = kv (touchT p ls) := by
  unfold touch touchT
  rw [look_kv, del_kv]
  cases h : findT p ls with
  | none => rfl
  | some x =>
    have hx : x.p = p := by
      have := List.find?_some h
      simpa using this
    simp [kv, hx]
theorem wo_absent {p : Int} {ls : List Lf} (h : findT p ls = none) : wo p ls = ls := by
  unfold findT at h
  rw [List.find?_eq_none] at h
  exact List.filter_eq_self.2 fun l hl => by simpa using h l hl
theorem wo_lt {p : Int} {ls : List Lf} {x : Lf} (h : findT p ls = some x) : (wo p ls).length < ls.length := by
  have hm := List.mem_of_find?_eq_some h
  have hx := List.find?_some h
  unfold wo
  refine Nat.lt_of_le_of_ne (List.length_filter_le _ _) fun he => ?_
  have := List.length_filter_eq_length_iff.1 he x hm
  simp at hx this
  exact this hx
theorem wo_le (p : Int) (ls : List Lf) : (wo p ls).length ≤ ls.length := List.length_filter_le _ _
theorem put_kv (l : Lf) {ls : List Lf} (h4 : ls.length ≤ 4) : putL 4 l.p l (kv ls) = kv (putT l ls) := by
  unfold putL putT
  rw [look_kv, del_kv]
  cases h : findT l.p ls with
  | none =>
    rw [wo_absent h]
    have e1 : (kv ls).length = ls.length := by simp [kv]
    rw [e1]
    by_cases h5 : ls.length < 4
    · rw [if_neg (by simp), if_pos h5, if_neg (by simp; omega)]
      simp [kv]
    · rw [if_neg (by simp), if_neg h5, if_pos (by simp; omega)]
      cases ls with
      | nil => simp at h5
      | cons a r => simp [kv]
  | some x =>
    have := wo_lt h
    rw [if_pos (by simp), if_neg (by simp; omega)]
    simp [kv]
theorem putT_le (l : Lf) {ls : List Lf} (h4 : ls.length ≤ 4) : (putT l ls).length ≤ 4 := by
  unfold putT
  have := wo_le l.p ls
  split
  · simp at *; omega
  · omega
theorem touchT_le (p : Int) {ls : List Lf} (h4 : ls.length ≤ 4) : (touchT p ls).length ≤ 4 := by
  unfold touchT
  cases h : findT p ls with
  | none => exact h4
  | some x => have := wo_lt h; simp; omega

/-- A TLB in the memory: what it holds, the least lately used first; all its blocks are among F. -/
def Tl (w : World) (t : Nat) (ls : List Lf) (F : Nat → Prop) : Prop :=
  ∃ s F0, Blk w t [ptr s] 62 ∧ Sf w s 4 (kv ls) F0 ∧ ¬ F0 t ∧ F t ∧ (∀ b, F0 b → F b) ∧ ∀ b, F b → b < w.heap.size

theorem Tl.kept {S : Nat → Prop} {w w' : World} {t : Nat} {ls : List Lf} {F : Nat → Prop} (h : Tl w t ls F) (hK : Keeps S w w') (hn : ∀ b, F b → ¬ S b) : Tl w' t ls F := by
  obtain ⟨s, F0, h1, h2, h3, h4, h5, h6⟩ := h
  exact ⟨s, F0, h1.kept hK (hn t h4), h2.kept hK fun b hb => hn b (h5 b hb), h3, h4, h5, fun b hb => Nat.lt_of_lt_of_le (h6 b hb) hK.size⟩
theorem Tl.lt {w : World} {t : Nat} {ls : List Lf} {F : Nat → Prop} (h : Tl w t ls F) : ∀ b, F b → b < w.heap.size := by
  obtain ⟨s, F0, h1, h2, h3, h4, h5, h6⟩ := h
  exact h6
theorem Tl.le {w : World} {t : Nat} {ls : List Lf} {F : Nat → Prop} (h : Tl w t ls F) : ls.length ≤ 4 := by
  obtain ⟨s, F0, h1, h2, h3, h4, h5, h6⟩ := h
  have := h2.fits
  simpa [kv] using this
theorem Tl.pages {w : World} {t : Nat} {ls : List Lf} {F : Nat → Prop} (h : Tl w t ls F) : (ls.map Lf.p).Nodup := by
  obtain ⟨s, F0, h1, h2, h3, h4, h5, h6⟩ := h
  have := h2.keys
  unfold kv at this
  rw [List.map_map] at this
  exact this

/-- Where the TLB is now: its blocks are old ones of its own or new ones. -/
def NowT (w w' : World) (t : Nat) (ls : List Lf) (F : Nat → Prop) : Prop :=
  (∃ F', Tl w' t ls F' ∧ ∀ b, F' b → F b ∨ w.heap.size ≤ b) ∧ Keeps F w w'

theorem nowT_of {w w1 w' : World} {t s : Nat} {ls : List Lf} {F F0 : Nat → Prop} (hK1 : Keeps (fun _ => False) w w1) (h1 : Blk w1 t [ptr s] 62) (h3 : ¬ F0 t) (h4 : F t) (h5 : ∀ b, F0 b → F b) (h6 : ∀ b, F b → b < w.heap.size)
    (h : Now w1 w' s 4 (kv ls) F0) : NowT w w' t ls F := by
  obtain ⟨⟨F', hS, hF⟩, hK⟩ := h
  have hz := hK1.size
  refine ⟨⟨fun b => (F b ∨ w.heap.size ≤ b) ∧ b < w'.heap.size, ⟨s, F', h1.kept hK h3, hS, ?_, ⟨.inl h4, Nat.lt_of_lt_of_le (h6 t h4) (Nat.le_trans hz hK.size)⟩, fun b hb => ⟨?_, hS.lt b hb⟩, fun b hb => hb.2⟩, fun b hb => hb.1⟩, ?_⟩
  · intro hb
    rcases hF t hb with h | h
    · exact h3 h
    · have := h6 t h4; omega
  · rcases hF b hb with h | h
    · exact .inl (h5 b h)
    · exact .inr (by omega)
  · exact (hK1.mono fun _ _ h => h.elim).trans hK fun b _ hb => h5 b hb

end Go.Proofs.YtipejahmjdamjaaDoor.Tl
