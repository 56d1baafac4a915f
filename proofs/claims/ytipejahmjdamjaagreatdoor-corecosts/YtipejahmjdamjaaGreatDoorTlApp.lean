import Derived.Test.YtipejahmjdamjaaGreatDoorTlF
import Derived.Test.YtipejahmjdamjaaGreatDoorChRing
import Derived.Test.YtipejahmjdamjaaGreatDoorProg
import Derived.Test.YtipejahmjdamjaaGreatDoorMem
import Derived.WalkKit
namespace Go.Proofs.YtipejahmjdamjaaGreatDoor.Tl
open Go.RowKit Go.Shelf
set_option linter.unusedVariables false

theorem sh_key_ok {w : World} {s m room : Nat} {e : N} {xs : List N} {nw od : Nat → Nat} (h : Sh Tryz.prog T w s m e room xs nw od) : ∀ x ∈ xs, I64 x.key := by
  intro x hx
  obtain ⟨es, c, _, _, _, h4⟩ := h.map
  obtain ⟨lit, hl⟩ := h4 (.int .i64 x.key, ptr x.blk) (List.mem_map.2 ⟨x, hx, rfl⟩)
  have h1 : IntKind.i64.min = -9223372036854775808 := rfl
  have h2 : IntKind.i64.max = 9223372036854775807 := rfl
  have hu : Tryz.prog.underlying T.k = some (.int .i64) := Tryz.underlying3
  simp [keyOf, hu, mapKey, Lit.wf, h1, h2] at hl
  obtain ⟨⟨h3, h4⟩, _⟩ := hl
  exact ⟨h3, h4⟩

abbrev Sf (w : World) (s : Nat) (room : Nat) (kvs : List (Int × Lf)) (F : Nat → Prop) : Prop := Shelf Tryz.prog T w s room kvs F

theorem sf_key_ok {w : World} {s room : Nat} {kvs : List (Int × Lf)} {F : Nat → Prop} (h : Sf w s room kvs F) : ∀ p ∈ kvs, I64 p.1 := by
  obtain ⟨m, e, xs, nw, od, h1, rfl, h3, h4⟩ := h
  intro p hp
  obtain ⟨x, hx, rfl⟩ := List.mem_map.1 hp
  exact sh_key_ok h1 x hx

/-- What is there behind a Get. -/
def touch (k : Int) (kvs : List (Int × Lf)) : List (Int × Lf) := match look k kvs with | some v => del k kvs ++ [(k, v)] | none => kvs
/-- What is there behind a Put, and what it answers. -/
def putL (room : Nat) (k : Int) (v : Lf) (kvs : List (Int × Lf)) : List (Int × Lf) :=
  if (look k kvs).isSome then del k kvs ++ [(k, v)] else if kvs.length < room then kvs ++ [(k, v)] else kvs.tail ++ [(k, v)]
def goneL (room : Nat) (k : Int) (kvs : List (Int × Lf)) : Int × Bool :=
  if (look k kvs).isSome then (0, false) else if kvs.length < room then (0, false) else (((kvs.head?).map Prod.fst).getD 0, true)

theorem kv_split {A C : List N} {x : N} : (A ++ x :: C).map (fun x => (x.key, x.thing)) = A.map (fun x => (x.key, x.thing)) ++ (x.key, x.thing) :: C.map (fun x => (x.key, x.thing)) := by simp

/-- Where the shelf is now: its blocks are old ones of its own or new ones. -/
def Now (w w' : World) (s room : Nat) (kvs : List (Int × Lf)) (F : Nat → Prop) : Prop :=
  (∃ F', Sf w' s room kvs F' ∧ ∀ b, F' b → F b ∨ w.heap.size ≤ b) ∧ Keeps F w w'

theorem now_of {w w' : World} {s room m m' : Nat} {e e' : N} {xs ys : List N} {nw od : Nat → Nat} {kvs : List (Int × Lf)} {F : Nat → Prop} (h3 : ∀ b, Own s m e xs b → F b) (h4 : ∀ b, F b → b < w.heap.size)
    (h : Sh Tryz.prog T w' s m' e' room ys nw od) (hk : kvs = ys.map fun x => (x.key, x.thing)) (hO : ∀ b, Own s m' e' ys b → Own s m e xs b ∨ w.heap.size ≤ b) (hK : Keeps (Own s m e xs) w w') : Now w w' s room kvs F := by
  refine ⟨⟨fun b => (F b ∨ w.heap.size ≤ b) ∧ b < w'.heap.size, ⟨m', e', ys, nw, od, h, hk, fun b hb => ⟨?_, h.lt b hb⟩, fun b hb => hb.2⟩, fun b hb => hb.1⟩, hK.mono fun b _ hb => h3 b hb⟩
  rcases hO b hb with h | h
  · exact .inl (h3 b h)
  · exact .inr h

theorem now_same {w : World} {s room : Nat} {kvs : List (Int × Lf)} {F : Nat → Prop} (h : Sf w s room kvs F) : Now w w s room kvs F :=
  ⟨⟨F, h, fun b hb => .inl hb⟩, Keeps.refl _ _⟩

theorem now_keep {w w' : World} {s room : Nat} {kvs : List (Int × Lf)} {F : Nat → Prop} (h : Sf w s room kvs F) (hK : Keeps (fun _ => False) w w') : Now w w' s room kvs F :=
  ⟨⟨F, h.kept hK fun _ _ h => h, fun b hb => .inl hb⟩, hK.mono fun _ _ h => h.elim⟩

theorem get_any (s room : Nat) (kvs : List (Int × Lf)) (F : Nat → Prop) (k : Int) (w : World) (h : Sf w s room kvs F) (hk : I64 k) :
    Calls Tryz.prog 200 #[ptr s, .int .i64 k] w fun r w' => r = .returned (.tuple #[((look k kvs).getD Lf.none).v, .bool (look k kvs).isSome]) ∧ Now w w' s room (touch k kvs) F := by
  have hs := h
  have hnd := h.keys
  obtain ⟨m, e, xs, nw, od, h1, rfl, h3, h4⟩ := h
  rcases key_split k xs with ⟨A, x, C, rfl, rfl⟩ | hn
  · rw [kv_split] at hnd ⊢
    unfold touch
    rw [look_split _ hnd, del_split _ hnd]
    refine (get_in s m e x room A C nw od w h1 hk).mono ?_
    rintro r w' ⟨rfl, ⟨nw', od', hS⟩, hK⟩
    refine ⟨rfl, now_of h3 h4 hS (by simp) (fun b hb => .inl (own_sub (fun z hz => ?_) hb)) hK⟩
    simp at hz ⊢; rcases hz with h | h | h <;> simp [h]
  · have hl : look k (xs.map fun x => (x.key, x.thing)) = none := look_none k (by
      intro p hp
      obtain ⟨x, hx, rfl⟩ := List.mem_map.1 hp
      exact hn x hx)
    unfold touch
    rw [hl]
    refine (get_out s m e room xs nw od k w h1 hk hn).mono ?_
    rintro r w' ⟨rfl, hK⟩
    exact ⟨rfl, now_keep hs hK⟩

theorem put_any (s room : Nat) (kvs : List (Int × Lf)) (F : Nat → Prop) (k : Int) (l : Lf) (w : World) (h : Sf w s room kvs F) (hk : I64 k) :
    Calls Tryz.prog 124 #[ptr s, .int .i64 k, l.v] w fun r w' => r = .returned (.tuple #[.int .i64 (goneL room k kvs).1, .bool (goneL room k kvs).2]) ∧ Now w w' s room (putL room k l kvs) F := by
  have hs := h
  have hnd := h.keys
  obtain ⟨m, e, xs, nw, od, h1, rfl, h3, h4⟩ := h
  rcases key_split k xs with ⟨A, x, C, rfl, rfl⟩ | hn
  · rw [kv_split] at hnd ⊢
    unfold goneL putL
    rw [look_split _ hnd, del_split _ hnd]
    refine (put_in s m e x room A C nw od l w h1 hk).mono ?_
    rintro r w' ⟨rfl, ⟨nw', od', hS⟩, hK⟩
    refine ⟨rfl, now_of h3 h4 hS (by simp) (fun b hb => .inl ?_) hK⟩
    rcases hb with h | h | ⟨z, hz, h⟩
    · exact .inl h
    · exact .inr (.inl h)
    · simp at hz
      rcases hz with h5 | h5 | h5 | h5
      · exact .inr (.inr ⟨e, by simp, by rw [h, h5]⟩)
      · exact .inr (.inr ⟨z, by simp [h5], h⟩)
      · exact .inr (.inr ⟨z, by simp [h5], h⟩)
      · exact .inr (.inr ⟨x, by simp, by rw [h, h5]⟩)
  · have hkv : ∀ p ∈ xs.map (fun x => (x.key, x.thing)), p.1 ≠ k := by
      intro p hp
      obtain ⟨x, hx, rfl⟩ := List.mem_map.1 hp
      exact hn x hx
    unfold goneL putL
    rw [look_none k hkv]
    by_cases hf : xs.length < room
    · simp only [Option.isSome_none, Bool.false_eq_true, if_false, List.length_map, if_pos hf]
      refine (put_new s m e room xs nw od k l w h1 hk hn hf).mono ?_
      rintro r w' ⟨rfl, ⟨b0, nw', od', hb0, hS⟩, hK⟩
      refine ⟨rfl, now_of h3 h4 hS (by simp) (fun b hb => ?_) hK⟩
      rcases hb with h | h | ⟨z, hz, h⟩
      · exact .inl (.inl h)
      · exact .inl (.inr (.inl h))
      · simp at hz
        rcases hz with h5 | h5 | h5
        · exact .inl (.inr (.inr ⟨e, by simp, by rw [h, h5]⟩))
        · exact .inl (.inr (.inr ⟨z, by simp [h5], h⟩))
        · exact .inr (by rw [h, h5]; exact hb0)
    · simp only [Option.isSome_none, Bool.false_eq_true, if_false, List.length_map, if_neg hf]
      cases xs with
      | nil => have := h1.lo; simp at hf; omega
      | cons x xs =>
        have hfit := h1.fits
        simp at hfit hf
        refine (put_full s m e x room xs nw od k l w h1 hk (sh_key_ok h1 x (by simp)) hn (by omega)).mono ?_
        rintro r w' ⟨rfl, ⟨b0, nw', od', hb0, hS⟩, hK⟩
        refine ⟨rfl, now_of h3 h4 hS (by simp) (fun b hb => ?_) hK⟩
        rcases hb with h | h | ⟨z, hz, h⟩
        · exact .inl (.inl h)
        · exact .inl (.inr (.inl h))
        · simp at hz
          rcases hz with h5 | h5 | h5
          · exact .inl (.inr (.inr ⟨e, by simp, by rw [h, h5]⟩))
          · exact .inl (.inr (.inr ⟨z, by simp [h5], h⟩))
          · exact .inr (by rw [h, h5]; exact hb0)

theorem len_any (s room : Nat) (kvs : List (Int × Lf)) (F : Nat → Prop) (w : World) (h : Sf w s room kvs F) :
    Calls Tryz.prog 98 #[ptr s] w fun r w' => r = .returned (.int .i64 kvs.length) ∧ w' = w := by
  obtain ⟨m, e, xs, nw, od, h1, rfl, h3, h4⟩ := h
  refine len_in s m _ w h1.cells.2.1 fun ty => ?_
  have := h1.map.len (ty := ty) Tryz.underlying169
  simp only [mapOf, List.length_map] at this ⊢
  exact this

theorem clear_all (s room : Nat) (kvs : List (Int × Lf)) (F : Nat → Prop) (w : World) (h : Sf w s room kvs F) :
    Calls Tryz.prog 95 #[ptr s] w fun r w' => r = .returned (.tuple #[]) ∧ Now w w' s room [] F := by
  obtain ⟨m, e, xs, nw, od, h1, rfl, h3, h4⟩ := h
  refine (clear_any s e _ _ _ room w h1.blk (h1.ring.nodes e (by simp)) (fun he => h1.sx e (by simp) he.symm) h1.lo h1.hi).mono ?_
  rintro r w' ⟨rfl, ⟨nw', od', hS⟩, hK⟩
  refine ⟨rfl, now_of h3 h4 hS rfl (fun b hb => ?_) (hK.mono fun b _ hb => ?_)⟩
  · rcases hb with h | h | ⟨z, hz, h⟩
    · exact .inl (.inl h)
    · exact .inr (by omega)
    · simp at hz; subst hz; exact .inl (.inr (.inr ⟨z, by simp, h⟩))
  · rcases hb with h | h
    · exact .inl h
    · exact .inr (.inr ⟨e, by simp, h⟩)

theorem new_any (room : Nat) (w : World) (lo : 1 ≤ room) (hi : room ≤ 4096) :
    Calls Tryz.prog 68 #[.int .i64 room] w fun r w' => r = .returned (.tuple #[ptr (w.heap.size + 1), .int .i64 0]) ∧ (∃ F, Sf w' (w.heap.size + 1) room [] F ∧ ∀ b, F b → w.heap.size ≤ b) ∧ Keeps (fun _ => False) w w' := by
  refine (new_in room w lo hi).mono ?_
  rintro r w' ⟨rfl, ⟨m, e, nw, od, hm, he, hS⟩, hK⟩
  refine ⟨rfl, ⟨fun b => w.heap.size ≤ b ∧ b < w'.heap.size, ⟨m, e, [], nw, od, hS, rfl, fun b hb => ⟨?_, hS.lt b hb⟩, fun b hb => hb.2⟩, fun b hb => hb.1⟩, hK⟩
  rcases hb with h | h | ⟨z, hz, h⟩
  · omega
  · omega
  · simp at hz; subst hz; omega

end Go.Proofs.YtipejahmjdamjaaGreatDoor.Tl
namespace Go.Proofs.YtipejahmjdamjaaGreatDoor.Tl
open Go.RowKit
set_option linter.unusedVariables false

theorem grown_of_keeps {S : Nat → Prop} {w w' : World} {row : Option Nat} (h : Keeps S w w') (hs : ∀ k, k < w.heap.size → S k → some k = row) : w.grownBy w' row :=
  ⟨h.os, h.tape, h.output, h.size, fun k hk hn => h.block k hk fun hS => hn (hs k hk hS)⟩

/-- An owned row is kept where its block is. -/
theorem owns_kept {S : Nat → Prop} {w w' : World} {e : TypeId} {size n : Nat} {v : Value} {vs : List Value} (h : w.ownsRow 0 e size v n vs) (hK : Keeps S w w') (hn : ∀ k, v.ownBlock = some k → ¬ S k) : w'.ownsRow 0 e size v n vs := by
  refine ⟨h.1, ?_⟩
  rcases h.2 with h2 | ⟨g, cap, cur, rfl, hb, hg, h3⟩
  · exact .inl h2
  · refine .inr ⟨g, cap, cur, rfl, hb, ?_, h3⟩
    rw [hK.block g (Array.getElem?_eq_some_iff.1 hg).1 (hn g rfl)]
    exact hg

/-! ### append to a row of one's own, and where the new row lies -/

theorem append_many {w : World} (t e : TypeId) (i : TypeInfo) (z : Value) (size bytes : Nat) (ht : Tryz.prog.underlying t = some (.slice e)) (hi : Tryz.prog.info? e = some i) (hz : i.zero = some z)
    (hs : i.size = size) (hb : i.bytes = bytes) (hzs : z.cells.size = size) (h0 : 0 < size) (v : Value) (n : Nat) (vs : List Value) (hown : w.ownsRow 0 e size v n vs)
    (a : Addr) (m c : Nat) (news : List Value) (hl : news.length = m * size) (hnews : ∀ j u, news[j]? = some u → w.cell? (a.add j) = some u) (h1 : ∀ u ∈ news, u.oneCell' = true)
    (hm : n + m ≤ maxLen) (hbytes : (n + m) * bytes ≤ 140737488355328) :
    ∃ v' W', (∀ ty, (Builtin.append_ #[t, t] ty #[v, .slice (some a) m c]).run Tryz.prog w = .ok v' W') ∧ W'.ownsRow 0 e size v' (n + m) (vs ++ news) ∧
      (v'.ownBlock = v.ownBlock ∨ ∃ k, v'.ownBlock = some k ∧ w.heap.size ≤ k) ∧ Keeps (fun k => some k = v.ownBlock) w W' := by
  obtain ⟨v', W', hr, ho, hg, hnil⟩ := run_append_own (P := Tryz.prog) w 0 t 0 e i z size bytes ht hi hz hs hb hzs h0 v n vs hown a m c news hl hnews h1 hm hbytes (Nat.zero_le _)
  refine ⟨v', W', fun ty => hr, ho, ?_, Keeps.of_grown hg⟩
  have hbig : n + m ≤ 9223372036854775807 := by unfold maxLen at hm; omega
  rcases hown.2 with ⟨rfl, rfl⟩ | ⟨g, cap, cur, rfl, _, hg1, hnc, hcm, hcs, htake⟩
  · by_cases hm0 : m = 0
    · left; rw [hnil.2 ⟨rfl, hm0⟩]
    · have h2 := run_append_nil (P := Tryz.prog) w t 0 e i z ht hi hz a m c news (by rw [hs]; exact hl) hnews (by omega) (by omega) (by
        rw [hb]
        rw [Nat.zero_add] at hbytes
        omega)
      rw [hr] at h2
      have e1 : v' = _ := (Result.ok.inj h2).1
      right
      rw [e1]
      exact ⟨_, rfl, by simp⟩
  · by_cases hroom : n + m ≤ cap
    · have h2 := run_append_room (P := Tryz.prog) w t 0 e i ht hi g n cap cur hg1 a m c news (by rw [hs]; exact hl) hnews h1 hroom (by
        rw [hs, hcs, hl, ← Nat.add_mul]; exact Nat.mul_le_mul_right _ hroom)
      rw [hr] at h2
      have e1 : v' = _ := (Result.ok.inj h2).1
      left
      rw [e1]
      rfl
    · have h2 := run_append_grow (P := Tryz.prog) w t 0 e i z ht hi hz ⟨g, 0, none⟩ n cap vs (by rw [hs]; exact hown.1) (hown.cells rfl) a m c news (by rw [hs]; exact hl) hnews (by omega) (by omega) (by
        rw [hb]; exact growslice_fits (by omega) hbytes)
      rw [hr] at h2
      have e1 : v' = _ := (Result.ok.inj h2).1
      right
      rw [e1]
      exact ⟨_, rfl, by simp⟩

/-- append of nothing, from nowhere. -/
theorem append_none {w : World} (t e : TypeId) (i : TypeInfo) (size : Nat) (ht : Tryz.prog.underlying t = some (.slice e)) (hi : Tryz.prog.info? e = some i)
    (hs : i.size = size) (h0 : 0 < size) (v : Value) (n c : Nat) (vs : List Value) (hown : w.ownsRow 0 e size v n vs) (ty : TypeId) :
    (Builtin.append_ #[t, t] ty #[v, .slice none 0 c]).run Tryz.prog w = .ok v w := by
  rcases hown.2 with ⟨rfl, rfl⟩ | ⟨g, cap, cur, rfl, _, hg1, hnc, hcm, hcs, htake⟩
  · simp [Builtin.append_, run_underlying ht, sizeOf, typeInfo, hi, Builtin.lenOf, run_firstCells_none]
  · simp [Builtin.append_, run_underlying ht, sizeOf, typeInfo, hi, Builtin.lenOf, hnc, run_firstCells_none, storeCells]

/-- append of a new block of one. -/
theorem append_new {w : World} (t e : TypeId) (i : TypeInfo) (z : Value) (size bytes : Nat) (ht : Tryz.prog.underlying t = some (.slice e)) (hi : Tryz.prog.info? e = some i) (hz : i.zero = some z)
    (hs : i.size = size) (hb : i.bytes = bytes) (hzs : z.cells.size = size) (h0 : 0 < size) (v : Value) (n : Nat) (vs : List Value) (hown : w.ownsRow 0 e size v n vs)
    (xs : Array Value) (hl : xs.size = size) (h1 : ∀ u ∈ xs.toList, u.oneCell' = true)
    (hm : n + 1 ≤ maxLen) (hbytes : (n + 1) * bytes ≤ 140737488355328) :
    ∃ v' W', (∀ ty, (Builtin.append_ #[t, t] ty #[v, .slice (some ⟨w.heap.size, 0, none⟩) 1 1]).run Tryz.prog (w.alloc (.cells xs e)) = .ok v' W') ∧ W'.ownsRow 0 e size v' (n + 1) (vs ++ xs.toList) ∧
      (v'.ownBlock = v.ownBlock ∨ ∃ k, v'.ownBlock = some k ∧ w.heap.size ≤ k) ∧ Keeps (fun k => some k = v.ownBlock) w W' := by
  have hW : Keeps (fun _ => False) w (w.alloc (.cells xs e)) := (Keeps.refl _ w).alloc _
  have hown1 : (w.alloc (.cells xs e)).ownsRow 0 e size v n vs := owns_kept hown hW (fun _ _ h => h)
  obtain ⟨v', W', hr, ho, hfr, hK⟩ := append_many t e i z size bytes ht hi hz hs hb hzs h0 v n vs hown1 ⟨w.heap.size, 0, none⟩ 1 1 xs.toList (by simpa using hl) (by
    intro j u hj
    have hB := Blk.new w xs e
    rw [addr_add]
    exact hB.cell (by rw [Nat.zero_add]; exact hj)) h1 hm hbytes
  refine ⟨v', W', hr, ho, ?_, (hW.mono fun _ _ h => h.elim).trans hK fun _ _ h => h⟩
  rcases hfr with h | ⟨k, h, h2⟩
  · exact .inl h
  · exact .inr ⟨k, h, by simp at h2; omega⟩

/-- A row that has grown: where it lies, and that nothing else was changed. -/
structure Grew (w : World) (v : Value) (w' : World) (v' : Value) : Prop where
  fresh : v'.ownBlock = v.ownBlock ∨ ∃ k, v'.ownBlock = some k ∧ w.heap.size ≤ k
  keeps : Keeps (fun k => some k = v.ownBlock) w w'

theorem Grew.refl (w : World) (v : Value) : Grew w v w v := ⟨.inl rfl, Keeps.refl _ _⟩
theorem Grew.trans {w w1 w2 : World} {v v1 v2 : Value} (h : Grew w v w1 v1) (k : Grew w1 v1 w2 v2) : Grew w v w2 v2 := by
  refine ⟨?_, h.keeps.trans k.keeps ?_⟩
  · rcases k.fresh with e | ⟨b, e, hb⟩
    · rw [e]; exact h.fresh
    · exact .inr ⟨b, e, Nat.le_trans h.keeps.size hb⟩
  · intro b hb e
    rcases h.fresh with f | ⟨c, f, hc⟩
    · rw [← f]; exact e
    · rw [f] at e; cases e; omega


theorem Grew.owns {w w' : World} {v v' : Value} (h : Grew w v w' v') (hv : v.ownBlock = none) : Keeps (fun _ => False) w w' :=
  h.keeps.mono fun b _ e => by rw [hv] at e; cases e

end Go.Proofs.YtipejahmjdamjaaGreatDoor.Tl
