import Derived.Test.YtipejahmjdamjaaGreatDoorTlF
import Derived.Test.YtipejahmjdamjaaGreatDoorChRing
import Derived.Test.YtipejahmjdamjaaGreatDoorProg
import Derived.WalkKit
import Derived.LaidEqlPtr
import Derived.RangeFuncIn
import Derived.RangeFuncRecord
import Derived.RangeFuncSeq
namespace Go.Proofs.YtipejahmjdamjaaGreatDoor.Tl
open Go.RowKit Go.Shelf
set_option linter.unusedVariables false

theorem sh_key_ok {w : World} {s m room : Nat} {e : N} {xs : List N} {nw od : Nat → Nat} (h : Sh Tryz.prog T w s m e room xs nw od) : ∀ x ∈ xs, I64 x.key := by
  intro x hx
  obtain ⟨es, c, _, _, _, h4⟩ := h.map
  obtain ⟨lit, hl⟩ := h4 (.int .i64 x.key, ptr x.blk) (List.mem_map.2 ⟨x, hx, rfl⟩)
  have h1 : IntKind.i64.min = -9223372036854775808 := rfl
  have h2 : IntKind.i64.max = 9223372036854775807 := rfl
  have hu : Tryz.prog.underlying T.k = some (.int .i64) := Tryz.underlying3
  simp [keyOf, hu, mapKey, Lit.wf, h1, h2] at hl
  obtain ⟨⟨h3, h4⟩, _⟩ := hl
  exact ⟨h3, h4⟩

abbrev Sf (w : World) (s : Nat) (room : Nat) (kvs : List (Int × Lf)) (F : Nat → Prop) : Prop := Shelf Tryz.prog T w s room kvs F

theorem sf_key_ok {w : World} {s room : Nat} {kvs : List (Int × Lf)} {F : Nat → Prop} (h : Sf w s room kvs F) : ∀ p ∈ kvs, I64 p.1 := by
  obtain ⟨m, e, xs, nw, od, h1, rfl, h3, h4⟩ := h
  intro p hp
  obtain ⟨x, hx, rfl⟩ := List.mem_map.1 hp
  exact sh_key_ok h1 x hx

/-- What is there behind a Get. -/
def touch (k : Int) (kvs : List (Int × Lf)) : List (Int × Lf) := match look k kvs with | some v => del k kvs ++ [(k, v)] | none => kvs
/-- What is there behind a Put, and what it answers. -/
def putL (room : Nat) (k : Int) (v : Lf) (kvs : List (Int × Lf)) : List (Int × Lf) :=
  if (look k kvs).isSome then del k kvs ++ [(k, v)] else if kvs.length < room then kvs ++ [(k, v)] else kvs.tail ++ [(k, v)]
def goneL (room : Nat) (k : Int) (kvs : List (Int × Lf)) : Int × Bool :=
  if (look k kvs).isSome then (0, false) else if kvs.length < room then (0, false) else (((kvs.head?).map Prod.fst).getD 0, true)

theorem kv_split {A C : List N} {x : N} : (A ++ x :: C).map (fun x => (x.key, x.thing)) = A.map (fun x => (x.key, x.thing)) ++ (x.key, x.thing) :: C.map (fun x => (x.key, x.thing)) := by simp

/-- Where the shelf is now: its blocks are old ones of its own or new ones. -/
def Now (w w' : World) (s room : Nat) (kvs : List (Int × Lf)) (F : Nat → Prop) : Prop :=
  (∃ F', Sf w' s room kvs F' ∧ ∀ b, F' b → F b ∨ w.heap.size ≤ b) ∧ Keeps F w w'

theorem now_of {w w' : World} {s room m m' : Nat} {e e' : N} {xs ys : List N} {nw od : Nat → Nat} {kvs : List (Int × Lf)} {F : Nat → Prop} (h3 : ∀ b, Own s m e xs b → F b) (h4 : ∀ b, F b → b < w.heap.size)
    (h : Sh Tryz.prog T w' s m' e' room ys nw od) (hk : kvs = ys.map fun x => (x.key, x.thing)) (hO : ∀ b, Own s m' e' ys b → Own s m e xs b ∨ w.heap.size ≤ b) (hK : Keeps (Own s m e xs) w w') : Now w w' s room kvs F := by
  refine ⟨⟨fun b => (F b ∨ w.heap.size ≤ b) ∧ b < w'.heap.size, ⟨m', e', ys, nw, od, h, hk, fun b hb => ⟨?_, h.lt b hb⟩, fun b hb => hb.2⟩, fun b hb => hb.1⟩, hK.mono fun b _ hb => h3 b hb⟩
  rcases hO b hb with h | h
  · exact .inl (h3 b h)
  · exact .inr h

theorem now_same {w : World} {s room : Nat} {kvs : List (Int × Lf)} {F : Nat → Prop} (h : Sf w s room kvs F) : Now w w s room kvs F :=
  ⟨⟨F, h, fun b hb => .inl hb⟩, Keeps.refl _ _⟩

theorem now_keep {w w' : World} {s room : Nat} {kvs : List (Int × Lf)} {F : Nat → Prop} (h : Sf w s room kvs F) (hK : Keeps (fun _ => False) w w') : Now w w' s room kvs F :=
  ⟨⟨F, h.kept hK fun _ _ h => h, fun b hb => .inl hb⟩, hK.mono fun _ _ h => h.elim⟩

theorem get_any (s room : Nat) (kvs : List (Int × Lf)) (F : Nat → Prop) (k : Int) (w : World) (h : Sf w s room kvs F) (hk : I64 k) :
    Calls Tryz.prog 200 #[ptr s, .int .i64 k] w fun r w' => r = .returned (.tuple #[((look k kvs).getD Lf.none).v, .bool (look k kvs).isSome]) ∧ Now w w' s room (touch k kvs) F := by
  have hs := h
  have hnd := h.keys
  obtain ⟨m, e, xs, nw, od, h1, rfl, h3, h4⟩ := h
  rcases key_split k xs with ⟨A, x, C, rfl, rfl⟩ | hn
  · rw [kv_split] at hnd ⊢
    unfold touch
    rw [look_split _ hnd, del_split _ hnd]
    refine (get_in s m e x room A C nw od w h1 hk).mono ?_
    rintro r w' ⟨rfl, ⟨nw', od', hS⟩, hK⟩
    refine ⟨rfl, now_of h3 h4 hS (by simp) (fun b hb => .inl (own_sub (fun z hz => ?_) hb)) hK⟩
    simp at hz ⊢; rcases hz with h | h | h <;> simp [h]
  · have hl : look k (xs.map fun x => (x.key, x.thing)) = none := look_none k (by
      intro p hp
      obtain ⟨x, hx, rfl⟩ := List.mem_map.1 hp
      exact hn x hx)
    unfold touch
    rw [hl]
    refine (get_out s m e room xs nw od k w h1 hk hn).mono ?_
    rintro r w' ⟨rfl, hK⟩
    exact ⟨rfl, now_keep hs hK⟩

theorem put_any (s room : Nat) (kvs : List (Int × Lf)) (F : Nat → Prop) (k : Int) (l : Lf) (w : World) (h : Sf w s room kvs F) (hk : I64 k) :
    Calls Tryz.prog 124 #[ptr s, .int .i64 k, l.v] w fun r w' => r = .returned (.tuple #[.int .i64 (goneL room k kvs).1, .bool (goneL room k kvs).2]) ∧ Now w w' s room (putL room k l kvs) F := by
  have hs := h
  have hnd := h.keys
  obtain ⟨m, e, xs, nw, od, h1, rfl, h3, h4⟩ := h
  rcases key_split k xs with ⟨A, x, C, rfl, rfl⟩ | hn
  · rw [kv_split] at hnd ⊢
    unfold goneL putL
    rw [look_split _ hnd, del_split _ hnd]
    refine (put_in s m e x room A C nw od l w h1 hk).mono ?_
    rintro r w' ⟨rfl, ⟨nw', od', hS⟩, hK⟩
    refine ⟨rfl, now_of h3 h4 hS (by simp) (fun b hb => .inl ?_) hK⟩
    rcases hb with h | h | ⟨z, hz, h⟩
    · exact .inl h
    · exact .inr (.inl h)
    · simp at hz
      rcases hz with h5 | h5 | h5 | h5
      · exact .inr (.inr ⟨e, by simp, by rw [h, h5]⟩)
      · exact .inr (.inr ⟨z, by simp [h5], h⟩)
      · exact .inr (.inr ⟨z, by simp [h5], h⟩)
      · exact .inr (.inr ⟨x, by simp, by rw [h, h5]⟩)
  · have hkv : ∀ p ∈ xs.map (fun x => (x.key, x.thing)), p.1 ≠ k := by
      intro p hp
      obtain ⟨x, hx, rfl⟩ := List.mem_map.1 hp
      exact hn x hx
    unfold goneL putL
    rw [look_none k hkv]
    by_cases hf : xs.length < room
    · simp only [Option.isSome_none, Bool.false_eq_true, if_false, List.length_map, if_pos hf]
      refine (put_new s m e room xs nw od k l w h1 hk hn hf).mono ?_
      rintro r w' ⟨rfl, ⟨b0, nw', od', hb0, hS⟩, hK⟩
      refine ⟨rfl, now_of h3 h4 hS (by simp) (fun b hb => ?_) hK⟩
      rcases hb with h | h | ⟨z, hz, h⟩
      · exact .inl (.inl h)
      · exact .inl (.inr (.inl h))
      · simp at hz
        rcases hz with h5 | h5 | h5
        · exact .inl (.inr (.inr ⟨e, by simp, by rw [h, h5]⟩))
        · exact .inl (.inr (.inr ⟨z, by simp [h5], h⟩))
        · exact .inr (by rw [h, h5]; exact hb0)
    · simp only [Option.isSome_none, Bool.false_eq_true, if_false, List.length_map, if_neg hf]
      cases xs with
      | nil => have := h1.lo; simp at hf; omega
      | cons x xs =>
        have hfit := h1.fits
        simp at hfit hf
        refine (put_full s m e x room xs nw od k l w h1 hk (sh_key_ok h1 x (by simp)) hn (by omega)).mono ?_
        rintro r w' ⟨rfl, ⟨b0, nw', od', hb0, hS⟩, hK⟩
        refine ⟨rfl, now_of h3 h4 hS (by simp) (fun b hb => ?_) hK⟩
        rcases hb with h | h | ⟨z, hz, h⟩
        · exact .inl (.inl h)
        · exact .inl (.inr (.inl h))
        · simp at hz
          rcases hz with h5 | h5 | h5
          · exact .inl (.inr (.inr ⟨e, by simp, by rw [h, h5]⟩))
          · exact .inl (.inr (.inr ⟨z, by simp [h5], h⟩))
          · exact .inr (by rw [h, h5]; exact hb0)

theorem len_any (s room : Nat) (kvs : List (Int × Lf)) (F : Nat → Prop) (w : World) (h : Sf w s room kvs F) :
    Calls Tryz.prog 98 #[ptr s] w fun r w' => r = .returned (.int .i64 kvs.length) ∧ w' = w := by
  obtain ⟨m, e, xs, nw, od, h1, rfl, h3, h4⟩ := h
  refine len_in s m _ w h1.cells.2.1 fun ty => ?_
  have := h1.map.len (ty := ty) Tryz.underlying169
  simp only [mapOf, List.length_map] at this ⊢
  exact this

theorem clear_all (s room : Nat) (kvs : List (Int × Lf)) (F : Nat → Prop) (w : World) (h : Sf w s room kvs F) :
    Calls Tryz.prog 95 #[ptr s] w fun r w' => r = .returned (.tuple #[]) ∧ Now w w' s room [] F := by
  obtain ⟨m, e, xs, nw, od, h1, rfl, h3, h4⟩ := h
  refine (clear_any s e _ _ _ room w h1.blk (h1.ring.nodes e (by simp)) (fun he => h1.sx e (by simp) he.symm) h1.lo h1.hi).mono ?_
  rintro r w' ⟨rfl, ⟨nw', od', hS⟩, hK⟩
  refine ⟨rfl, now_of h3 h4 hS rfl (fun b hb => ?_) (hK.mono fun b _ hb => ?_)⟩
  · rcases hb with h | h | ⟨z, hz, h⟩
    · exact .inl (.inl h)
    · exact .inr (by omega)
    · simp at hz; subst hz; exact .inl (.inr (.inr ⟨z, by simp, h⟩))
  · rcases hb with h | h
    · exact .inl h
    · exact .inr (.inr ⟨e, by simp, h⟩)

theorem new_any (room : Nat) (w : World) (lo : 1 ≤ room) (hi : room ≤ 4096) :
    Calls Tryz.prog 68 #[.int .i64 room] w fun r w' => r = .returned (.tuple #[ptr (w.heap.size + 1), .int .i64 0]) ∧ (∃ F, Sf w' (w.heap.size + 1) room [] F ∧ ∀ b, F b → w.heap.size ≤ b) ∧ Keeps (fun _ => False) w w' := by
  refine (new_in room w lo hi).mono ?_
  rintro r w' ⟨rfl, ⟨m, e, nw, od, hm, he, hS⟩, hK⟩
  refine ⟨rfl, ⟨fun b => w.heap.size ≤ b ∧ b < w'.heap.size, ⟨m, e, [], nw, od, hS, rfl, fun b hb => ⟨?_, hS.lt b hb⟩, fun b hb => hb.2⟩, fun b hb => hb.1⟩, hK⟩
  rcases hb with h | h | ⟨z, hz, h⟩
  · omega
  · omega
  · simp at hz; subst hz; omega

end Go.Proofs.YtipejahmjdamjaaGreatDoor.Tl
namespace Go.Proofs.YtipejahmjdamjaaGreatDoor.Tl
open Go.RowKit
set_option linter.unusedVariables false

theorem grown_of_keeps {S : Nat → Prop} {w w' : World} {row : Option Nat} (h : Keeps S w w') (hs : ∀ k, k < w.heap.size → S k → some k = row) : w.grownBy w' row :=
  ⟨h.os, h.tape, h.output, h.size, fun k hk hn => h.block k hk fun hS => hn (hs k hk hS)⟩

/-- An owned row is kept where its block is. -/
theorem owns_kept {S : Nat → Prop} {w w' : World} {e : TypeId} {size n : Nat} {v : Value} {vs : List Value} (h : w.ownsRow 0 e size v n vs) (hK : Keeps S w w') (hn : ∀ k, v.ownBlock = some k → ¬ S k) : w'.ownsRow 0 e size v n vs := by
  refine ⟨h.1, ?_⟩
  rcases h.2 with h2 | ⟨g, cap, cur, rfl, hb, hg, h3⟩
  · exact .inl h2
  · refine .inr ⟨g, cap, cur, rfl, hb, ?_, h3⟩
    rw [hK.block g (Array.getElem?_eq_some_iff.1 hg).1 (hn g rfl)]
    exact hg

/-! ### append to a row of one's own, and where the new row lies -/

theorem append_many {w : World} (t e : TypeId) (i : TypeInfo) (z : Value) (size bytes : Nat) (ht : Tryz.prog.underlying t = some (.slice e)) (hi : Tryz.prog.info? e = some i) (hz : i.zero = some z)
    (hs : i.size = size) (hb : i.bytes = bytes) (hzs : z.cells.size = size) (h0 : 0 < size) (v : Value) (n : Nat) (vs : List Value) (hown : w.ownsRow 0 e size v n vs)
    (a : Addr) (m c : Nat) (news : List Value) (hl : news.length = m * size) (hnews : ∀ j u, news[j]? = some u → w.cell? (a.add j) = some u) (h1 : ∀ u ∈ news, u.oneCell' = true)
    (hm : n + m ≤ maxLen) (hbytes : (n + m) * bytes ≤ 140737488355328) :
    ∃ v' W', (∀ ty, (Builtin.append_ #[t, t] ty #[v, .slice (some a) m c]).run Tryz.prog w = .ok v' W') ∧ W'.ownsRow 0 e size v' (n + m) (vs ++ news) ∧
      (v'.ownBlock = v.ownBlock ∨ ∃ k, v'.ownBlock = some k ∧ w.heap.size ≤ k) ∧ Keeps (fun k => some k = v.ownBlock) w W' := by
  obtain ⟨v', W', hr, ho, hg, hnil⟩ := run_append_own (P := Tryz.prog) w 0 t 0 e i z size bytes ht hi hz hs hb hzs h0 v n vs hown a m c news hl hnews h1 hm hbytes (Nat.zero_le _)
  refine ⟨v', W', fun ty => hr, ho, ?_, Keeps.of_grown hg⟩
  have hbig : n + m ≤ 9223372036854775807 := by unfold maxLen at hm; omega
  rcases hown.2 with ⟨rfl, rfl⟩ | ⟨g, cap, cur, rfl, _, hg1, hnc, hcm, hcs, htake⟩
  · by_cases hm0 : m = 0
    · left; rw [hnil.2 ⟨rfl, hm0⟩]
    · have h2 := run_append_nil (P := Tryz.prog) w t 0 e i z ht hi hz a m c news (by rw [hs]; exact hl) hnews (by omega) (by omega) (by
        rw [hb]
        rw [Nat.zero_add] at hbytes
        omega)
      rw [hr] at h2
      have e1 : v' = _ := (Result.ok.inj h2).1
      right
      rw [e1]
      exact ⟨_, rfl, by simp⟩
  · by_cases hroom : n + m ≤ cap
    · have h2 := run_append_room (P := Tryz.prog) w t 0 e i ht hi g n cap cur hg1 a m c news (by rw [hs]; exact hl) hnews h1 hroom (by
        rw [hs, hcs, hl, ← Nat.add_mul]; exact Nat.mul_le_mul_right _ hroom)
      rw [hr] at h2
      have e1 : v' = _ := (Result.ok.inj h2).1
      left
      rw [e1]
      rfl
    · have h2 := run_append_grow (P := Tryz.prog) w t 0 e i z ht hi hz ⟨g, 0, none⟩ n cap vs (by rw [hs]; exact hown.1) (hown.cells rfl) a m c news (by rw [hs]; exact hl) hnews (by omega) (by omega) (by
        rw [hb]; exact growslice_fits (by omega) hbytes)
      rw [hr] at h2
      have e1 : v' = _ := (Result.ok.inj h2).1
      right
      rw [e1]
      exact ⟨_, rfl, by simp⟩

/-- append of nothing, from nowhere. -/
theorem append_none {w : World} (t e : TypeId) (i : TypeInfo) (size : Nat) (ht : Tryz.prog.underlying t = some (.slice e)) (hi : Tryz.prog.info? e = some i)
    (hs : i.size = size) (h0 : 0 < size) (v : Value) (n c : Nat) (vs : List Value) (hown : w.ownsRow 0 e size v n vs) (ty : TypeId) :
    (Builtin.append_ #[t, t] ty #[v, .slice none 0 c]).run Tryz.prog w = .ok v w := by
  rcases hown.2 with ⟨rfl, rfl⟩ | ⟨g, cap, cur, rfl, _, hg1, hnc, hcm, hcs, htake⟩
  · simp [Builtin.append_, run_underlying ht, sizeOf, typeInfo, hi, Builtin.lenOf, run_firstCells_none]
  · simp [Builtin.append_, run_underlying ht, sizeOf, typeInfo, hi, Builtin.lenOf, hnc, run_firstCells_none, storeCells]

/-- append of a new block of one. -/
theorem append_new {w : World} (t e : TypeId) (i : TypeInfo) (z : Value) (size bytes : Nat) (ht : Tryz.prog.underlying t = some (.slice e)) (hi : Tryz.prog.info? e = some i) (hz : i.zero = some z)
    (hs : i.size = size) (hb : i.bytes = bytes) (hzs : z.cells.size = size) (h0 : 0 < size) (v : Value) (n : Nat) (vs : List Value) (hown : w.ownsRow 0 e size v n vs)
    (xs : Array Value) (hl : xs.size = size) (h1 : ∀ u ∈ xs.toList, u.oneCell' = true)
    (hm : n + 1 ≤ maxLen) (hbytes : (n + 1) * bytes ≤ 140737488355328) :
    ∃ v' W', (∀ ty, (Builtin.append_ #[t, t] ty #[v, .slice (some ⟨w.heap.size, 0, none⟩) 1 1]).run Tryz.prog (w.alloc (.cells xs e)) = .ok v' W') ∧ W'.ownsRow 0 e size v' (n + 1) (vs ++ xs.toList) ∧
      (v'.ownBlock = v.ownBlock ∨ ∃ k, v'.ownBlock = some k ∧ w.heap.size ≤ k) ∧ Keeps (fun k => some k = v.ownBlock) w W' := by
  have hW : Keeps (fun _ => False) w (w.alloc (.cells xs e)) := (Keeps.refl _ w).alloc _
  have hown1 : (w.alloc (.cells xs e)).ownsRow 0 e size v n vs := owns_kept hown hW (fun _ _ h => h)
  obtain ⟨v', W', hr, ho, hfr, hK⟩ := append_many t e i z size bytes ht hi hz hs hb hzs h0 v n vs hown1 ⟨w.heap.size, 0, none⟩ 1 1 xs.toList (by simpa using hl) (by
    intro j u hj
    have hB := Blk.new w xs e
    rw [addr_add]
    exact hB.cell (by rw [Nat.zero_add]; exact hj)) h1 hm hbytes
  refine ⟨v', W', hr, ho, ?_, (hW.mono fun _ _ h => h.elim).trans hK fun _ _ h => h⟩
  rcases hfr with h | ⟨k, h, h2⟩
  · exact .inl h
  · exact .inr ⟨k, h, by simp at h2; omega⟩

/-- A row that has grown: where it lies, and that nothing else was changed. -/
structure Grew (w : World) (v : Value) (w' : World) (v' : Value) : Prop where
  fresh : v'.ownBlock = v.ownBlock ∨ ∃ k, v'.ownBlock = some k ∧ w.heap.size ≤ k
  keeps : Keeps (fun k => some k = v.ownBlock) w w'

theorem Grew.refl (w : World) (v : Value) : Grew w v w v := ⟨.inl rfl, Keeps.refl _ _⟩
theorem Grew.trans {w w1 w2 : World} {v v1 v2 : Value} (h : Grew w v w1 v1) (k : Grew w1 v1 w2 v2) : Grew w v w2 v2 := by
  refine ⟨?_, h.keeps.trans k.keeps ?_⟩
  · rcases k.fresh with e | ⟨b, e, hb⟩
    · rw [e]; exact h.fresh
    · exact .inr ⟨b, e, Nat.le_trans h.keeps.size hb⟩
  · intro b hb e
    rcases h.fresh with f | ⟨c, f, hc⟩
    · rw [← f]; exact e
    · rw [f] at e; cases e; omega


theorem Grew.owns {w w' : World} {v v' : Value} (h : Grew w v w' v') (hv : v.ownBlock = none) : Keeps (fun _ => False) w w' :=
  h.keeps.mono fun b _ e => by rw [hv] at e; cases e

end Go.Proofs.YtipejahmjdamjaaGreatDoor.Tl
namespace Go.Proofs.YtipejahmjdamjaaGreatDoor.Tl
open Go.RowKit Go.Shelf
set_option linter.unusedVariables false

def flat (kvs : List (Int × Lf)) : List Value := kvs.flatMap fun p => [.int .i64 p.1, .int .i64 p.2.p, .int .i64 p.2.f, .int .i64 p.2.r]
theorem flat_append (a b : List (Int × Lf)) : flat (a ++ b) = flat a ++ flat b := by simp [flat]
theorem flat_get (kvs : List (Int × Lf)) (i : Nat) (p : Int × Lf) (h : kvs[i]? = some p) : (flat kvs)[4 * i]? = some (.int .i64 p.1) ∧ (flat kvs)[4 * i + 1]? = some (.int .i64 p.2.p) ∧ (flat kvs)[4 * i + 2]? = some (.int .i64 p.2.f) ∧ (flat kvs)[4 * i + 3]? = some (.int .i64 p.2.r) := by
  induction kvs generalizing i with
  | nil => simp at h
  | cons q r ih =>
    cases i with
    | zero => simp at h; subst h; simp [flat]
    | succ i =>
      have := ih i (by simpa using h)
      have e1 : 4 * (i + 1) = 4 * i + 1 + 1 + 1 + 1 := by omega
      rw [e1]
      simpa [flat] using this
theorem flat_length (kvs : List (Int × Lf)) : (flat kvs).length = kvs.length * 4 := by
  induction kvs with
  | nil => rfl
  | cons p r ih => simp [flat] at ih ⊢; omega

def slen : Value → Nat | .slice _ n _ => n | _ => 0
theorem slen_owns {w : World} {e : TypeId} {size n : Nat} {v : Value} {vs : List Value} (h : w.ownsRow 0 e size v n vs) : slen v = n := by
  rcases h.2 with ⟨rfl, rfl⟩ | ⟨g, cap, cur, rfl, _⟩ <;> rfl

theorem Tryz.infoI : (Tryz.prog.info? 166).map (fun i => (i.zero, i.size, i.bytes)) = some (some (.agg #[.int .i64 0, .int .i64 0, .int .i64 0, .int .i64 0]), 4, 32) := by kernel_rfl

theorem append_item {w : World} (k : Int) (l : Lf) (v : Value) (n : Nat) (vs : List Value) (hown : w.ownsRow 0 166 4 v n vs) (hn : n ≤ 1048576) :
    ∃ v' W', (∀ ty, (Builtin.append_ #[215, 215] ty #[v, .slice (some ⟨w.heap.size, 0, none⟩) 1 1]).run Tryz.prog (w.alloc (.cells #[.int .i64 k, .int .i64 l.p, .int .i64 l.f, .int .i64 l.r] 166)) = .ok v' W') ∧ W'.ownsRow 0 166 4 v' (n + 1) (vs ++ [.int .i64 k, .int .i64 l.p, .int .i64 l.f, .int .i64 l.r]) ∧ Grew w v W' v' := by
  obtain ⟨i0, hi, hz0, hz1, hz2⟩ := info_parts Tryz.infoI
  obtain ⟨v', W', h1, h2, h3, h4⟩ := append_new 215 166 i0 (.agg #[.int .i64 0, .int .i64 0, .int .i64 0, .int .i64 0]) 4 32 Tryz.underlying215 hi hz0 hz1 hz2 rfl (by omega) v n vs hown #[.int .i64 k, .int .i64 l.p, .int .i64 l.f, .int .i64 l.r] rfl (by
    intro x hx
    simp at hx
    rcases hx with rfl | rfl | rfl | rfl <;> rfl) (by unfold maxLen; omega) (by omega)
  exact ⟨v', W', h1, h2, h3, h4⟩

theorem run_neq_ptr_same {P : Program} (w : World) {tp te : TypeId} {j : TypeInfo} (a : Addr) (hp : P.underlying tp = some (.pointer te)) (hte : P.info? te = some j) :
    (binOp .neq tp (.pointer (some a)) (.pointer (some a))).run P w = .ok (.bool false) w := by
  have h : ∀ d : Nat, (Op.equalIn (d + 1) tp (.pointer (some a)) (.pointer (some a))).run P w = .ok true w := fun d => by
    simp [Op.equalIn, run_underlying hp, sizeOf, typeInfo, hte, run_sameAddr_same]
  simp only [binOp]
  simp [Op.equal, Op.maxDepth, h 9999]

theorem run_neq_ptr_other {P : Program} (w : World) {tp te : TypeId} {j : TypeInfo} {a b : Addr} {ca cb : Array Value} {ta tb : TypeId} (hp : P.underlying tp = some (.pointer te)) (hte : P.info? te = some j) (hsz : j.size ≠ 0)
    (hne : a ≠ b) (ha : w.heap[a.block]? = some (.cells ca ta (0, 0))) (hb : w.heap[b.block]? = some (.cells cb tb (0, 0))) :
    (binOp .neq tp (.pointer (some a)) (.pointer (some b))).run P w = .ok (.bool true) w := by
  have h : ∀ d : Nat, (Op.equalIn (d + 1) tp (.pointer (some a)) (.pointer (some b))).run P w = .ok false w := fun d => by
    simp [Op.equalIn, run_underlying hp, sizeOf, typeInfo, hte, hsz, run_sameAddr_other w hne ha hb]
  simp only [binOp]
  simp [Op.equal, Op.maxDepth, h 9999]

theorem Tryz.infoP : (Tryz.prog.info? 168).map (fun i => (i.size)) = some 6 := by kernel_rfl
theorem Tryz.undPP : Tryz.prog.underlying 164 = some (.pointer 168) := by kernel_rfl
theorem neq_other {w : World} {x e : N} {xs : List N} {nw od : Nat → Nat} (h : Rg w 168 e xs nw od) (hx : x ∈ xs) (hne : x.blk ≠ e.blk) : (binOp .neq 164 (ptr x.blk) (ptr e.blk)).run Tryz.prog w = .ok (.bool true) w := by
  have hi := Tryz.infoP
  cases hq : Tryz.prog.info? 168 with
  | none => rw [hq] at hi; simp at hi
  | some j =>
    rw [hq] at hi
    simp at hi
    exact run_neq_ptr_other w Tryz.undPP hq (by omega) (fun he => hne (congrArg Addr.block he)) (h.nodes x (by simp [hx])) (h.nodes e (by simp))
theorem neq_same (w : World) (b : Nat) : (binOp .neq 164 (ptr b) (ptr b)).run Tryz.prog w = .ok (.bool false) w := by
  have hi := Tryz.infoP
  cases hq : Tryz.prog.info? 168 with
  | none => rw [hq] at hi; simp at hi
  | some j => exact run_neq_ptr_same w _ Tryz.undPP hq

set_option maxHeartbeats 1000000 in
theorem items_any (s room : Nat) (kvs : List (Int × Lf)) (F : Nat → Prop) (w : World) (h : Sf w s room kvs F) :
    Calls Tryz.prog 148 #[ptr s] w fun r w' => ∃ v g, r = .returned v ∧ w'.ownsRow 0 166 4 v kvs.length (flat kvs) ∧ v.ownBlock = some g ∧ w.heap.size ≤ g ∧ Keeps (fun _ => False) w w' := by
  obtain ⟨m, e, xs, nw, od, h1, rfl, h3, h4⟩ := h
  obtain ⟨L, hL⟩ : ∃ L, L = xs.length := ⟨_, rfl⟩
  have hL1 : L ≤ 4096 := by have := h1.fits; have := h1.hi; omega
  obtain ⟨W1, hW1⟩ : ∃ W1, W1 = w.alloc (.cells (madeCells (Value.agg #[.int .i64 0, .int .i64 0, .int .i64 0, .int .i64 0]).cells (L * 4)) 166) := ⟨_, rfl⟩
  have HM : Hid ((Instr.makeSlice 215 (.int .i64 0) (.int .i64 L)).run Tryz.prog w = .ok (.slice (some ⟨w.heap.size, 0, none⟩) 0 L) W1) := by
    obtain ⟨i0, hi, hz0, hz1, hz2⟩ := info_parts Tryz.infoI
    have h := run_make (P := Tryz.prog) w 215 166 i0 _ Tryz.underlying215 hi hz0 .i64 .i64 0 L (by omega) (by omega) (by rw [hz2]; omega) (by omega)
    rw [hz1] at h
    simp only [Int.toNat_zero, Int.toNat_natCast] at h
    rw [hW1]; exact h
  have hown0 : W1.ownsRow 0 166 4 (.slice (some ⟨w.heap.size, 0, none⟩) 0 L) 0 [] := by
    rw [hW1]
    exact World.ownsRow_made w _ L (Nat.zero_le _) (by unfold maxLen; omega) (by simp [madeCells])
  have hK1 : Keeps (fun _ => False) w W1 := by rw [hW1]; exact (Keeps.refl _ w).alloc _
  have HL : Hid (∀ ty, (Builtin.len_ #[169] ty #[.map (some m)]).run Tryz.prog w = .ok (.int .i64 L) w) := fun ty => by
    have := h1.map.len (ty := ty) Tryz.underlying169
    rw [show (mapOf xs).length = L by rw [hL]; simp [mapOf]] at this
    exact this
  have hS1 := h1.kept hK1 fun _ _ h => h
  have c1 := h1.cells.2.1
  have c2 := hS1.cells.2.2
  have c3 := hS1.first
  obtain ⟨p0, hp0⟩ : ∃ p0, p0 = atN e xs 0 := ⟨_, rfl⟩
  rw [← hp0] at c3
  have HS : Hid (Sh Tryz.prog T w s m e room xs nw od ∧ Keeps (fun _ => False) w W1 ∧ W1.ownsRow 0 166 4 (.slice (some ⟨w.heap.size, 0, none⟩) 0 L) 0 [] ∧ p0 = atN e xs 0 ∧ L = xs.length ∧ L ≤ 4096) := ⟨h1, hK1, hown0, hp0, hL, hL1⟩
  clear h1 hS1 hK1 hown0 hp0 h3 h4 hW1 hL hL1
  go_enter Tryz.func148, Tryz.ntmps148
  go_wp2_with (first
    | (at_len; refine wpList_len_run rfl (.tmp 10) 169 rfl (.map (some m)) (.int .i64 L) rfl HL.out ?_)
    | (at_make; refine wpList_make_run rfl _ _ 215 rfl (.int .i64 0) (.int .i64 L) (.slice (some ⟨w.heap.size, 0, none⟩) 0 L) W1 rfl rfl HM.out ?_; refine Hid.out ?_))
  unfold Hid
  clear HL HM c1
  go_wp2
  clear c2 c3
  go_loopw [3, 4] (fun o p wr => ∃ j : Nat, j ≤ L ∧ p = ptr (atN e xs j) ∧ wr.ownsRow 0 166 4 o j (flat ((xs.map fun x => (x.key, x.thing)).take j)) ∧ Grew W1 (.slice (some ⟨w.heap.size, 0, none⟩) 0 L) wr o) (fun o _ _ => L - slen o)
  case atStart => exact ⟨0, by omega, by rw [HS.out.2.2.2.1], by simpa [flat] using HS.out.2.2.1, Grew.refl _ _⟩
  case round =>
    obtain ⟨j, hj, rfl, hB, hG⟩ := hrel
    obtain ⟨h1, hK1, hown0, hp0, hL, hL1⟩ := HS.out
    have hKr : Keeps (fun _ => False) w wr := hK1.trans hG.keeps fun b hb he => by simp [Value.ownBlock] at he; omega
    have hSr := h1.kept hKr fun _ _ h => h
    have c2 := hSr.cells.2.2
    by_cases hlt : j < L
    · obtain ⟨x, hx⟩ : ∃ x, xs[j]? = some x := ⟨_, List.getElem?_eq_getElem (by omega)⟩
      obtain ⟨a1, a2, a3, a4, a5⟩ := hSr.next j x hx
      obtain ⟨a4, a6, a7⟩ := a4
      obtain ⟨v', W', happ, hown', hfr'⟩ := append_item x.key x.thing u3 j _ hB (by omega)
      have hKw : Keeps (fun _ => False) w W' := hKr.trans hfr'.keeps fun b hb he => by
        rcases hG.fresh with f | ⟨c, f, hc⟩
        · rw [f] at he; simp [Value.ownBlock] at he; omega
        · rw [f] at he; cases he; have := hK1.size; omega
      have hSw := h1.kept hKw fun _ _ h => h
      obtain ⟨_, b2, _, _, _⟩ := hSw.next j x hx
      have hs2 := slen_owns hown'
      have hs1 := slen_owns hB
      have HAP : Hid (∀ ty, _) := happ
      have HR : Hid (W'.ownsRow 0 166 4 v' (j + 1) (flat ((xs.map fun x => (x.key, x.thing)).take (j + 1)))) := by
        have e1 : (xs.map fun x => (x.key, x.thing)).take (j + 1) = (xs.map fun x => (x.key, x.thing)).take j ++ [(x.key, x.thing)] := by
          rw [List.take_add_one]; simp [hx]
        rw [e1, flat_append, show flat [(x.key, x.thing)] = [.int .i64 x.key, .int .i64 x.thing.p, .int .i64 x.thing.f, .int .i64 x.thing.r] by simp [flat]]
        exact hown'
      have HG : Hid (Grew W1 (.slice (some ⟨w.heap.size, 0, none⟩) 0 L) W' v') := hG.trans hfr'
      have hq := neq_other hSr.ring (List.mem_of_getElem? hx) a5
      have HL2 : Hid (slen v' = j + 1 ∧ slen u3 = j ∧ j < L) := ⟨hs2, hs1, hlt⟩
      rw [a1]
      obtain ⟨b, hb⟩ : ∃ b, b = x.blk := ⟨_, rfl⟩
      obtain ⟨k, hk⟩ : ∃ k, k = x.key := ⟨_, rfl⟩
      obtain ⟨eb, heb⟩ : ∃ eb, eb = e.blk := ⟨_, rfl⟩
      obtain ⟨nb, hnb⟩ : ∃ nb, nb = atN e xs (j + 1) := ⟨_, rfl⟩
      rw [← hb] at a2 a3 a4 a5 a6 a7 b2 hq ⊢
      rw [← heb] at c2 a5 hq
      rw [← hk] at a3
      rw [← hk] at HAP
      rw [← hnb] at b2
      have HN : Hid (nb = atN e xs (j + 1)) := hnb
      clear happ hown' hfr' hB hG h1 hK1 hown0 hp0 hL hL1 hKr hSr hKw hSw hs1 hs2 hx a1 a2 hb hk heb hnb hlt
      go_wp2_with (at_builtin; go_must (refine wpList_append_run rfl (.tmp 30) (.tmp 35) 215 215 rfl u3 (.slice (some ⟨wr.heap.size, 0, none⟩) 1 1) v' W' rfl rfl HAP.out ?_; refine Hid.out ?_))
      unfold Hid
      clear c2 a3 a4 a6 a7 hq
      go_wp2
      go_roundw
      case rel => exact ⟨j + 1, by have := HL2.out.2.2; omega, by rw [HN.out], HR.out, HG.out⟩
      case measure => have := HL2.out; omega
    · obtain rfl : j = L := by omega
      rw [show atN e xs j = e.blk by rw [hL]; exact atN_end e xs]
      have HB : Hid (wr.ownsRow 0 166 4 u3 (xs.map fun x => (x.key, x.thing)).length (flat (xs.map fun x => (x.key, x.thing)))) := by
        have e1 : (xs.map fun x => (x.key, x.thing)).take j = xs.map fun x => (x.key, x.thing) := List.take_of_length_le (by simp; omega)
        rw [e1] at hB
        rw [List.length_map, ← hL]
        exact hB
      have HG : Hid ((∃ g, u3.ownBlock = some g ∧ w.heap.size ≤ g) ∧ Keeps (fun _ => False) w wr) := by
        refine ⟨?_, hKr⟩
        rcases hG.fresh with f | ⟨c, f, hc⟩
        · exact ⟨w.heap.size, f, Nat.le_refl _⟩
        · exact ⟨c, f, by have := hK1.size; omega⟩
      obtain ⟨eb, heb⟩ : ∃ eb, eb = e.blk := ⟨_, rfl⟩
      rw [← heb] at c2 ⊢
      have hq := neq_same wr eb
      clear hB hG h1 hK1 hown0 hp0 hL hL1 hKr hSr heb
      go_wp2
      go_ret
      obtain ⟨⟨g, hg1, hg2⟩, hK⟩ := HG.out
      exact ⟨u3, g, rfl, HB.out, hg1, hg2, hK⟩

end Go.Proofs.YtipejahmjdamjaaGreatDoor.Tl
namespace Go.Proofs.YtipejahmjdamjaaGreatDoor.Tl
open Go.RowKit

/-- An iterator that tells a list, which it holds in a block g of its own from the beginning on: whoever ranges over it keeps that block. -/
def Lists {α : Type} (F : Fence) (n : Nat) (P : Program) (gf : Nat) (lb : Array Value) (encs : α → Array Value) (Good : World → Prop) (xs : List α) : Prop :=
  ∀ (l : Nat) (J : Nat → Nat → World → Prop) (Jx : World → Prop) (W : World), Good W → (∀ g W', Keeps (fun _ => False) W W' → W.heap.size ≤ g → g < W'.heap.size → J g 0 W') → (∀ g i W W', Keeps (fun _ => False) W W' → J g i W → J g i W') →
    (∀ g i x W, xs[i]? = some x → J g i W → YieldAt F (n - 1) P l (encs x) W fun e W' => W'.heap[g]? = W.heap[g]? ∧ ((e = .returned (.bool true) ∧ J g (i + 1) W') ∨ (e = .returned (.bool false) ∧ Jx W'))) →
    CallsIn F n P gf (#[.func (.yield l) #[] #[]] ++ lb) W fun e W' => (∃ v, e = .returned v) ∧ ((∃ g, J g xs.length W') ∨ Jx W')

/-- How a round may be left: the two blocks of the loop and the iterator's own are as they were. -/
def KeptAt (B g : Nat) (W W' : World) : Prop := W'.heap[B]? = W.heap[B]? ∧ W'.heap[B + 1]? = W.heap[B + 1]? ∧ W'.heap[g]? = W.heap[g]?
def ListPost (B g : Nat) (W : World) (I : World → Prop) (Ix : Code → World → Prop) : Exit → Act → World → Prop
  | .normal, _, W' => KeptAt B g W W' ∧ I W'
  | .ret, _, W' => KeptAt B g W W' ∧ Ix .ret W'
  | .exit id, _, W' => KeptAt B g W W' ∧ Ix (.exit id) W'
  | .goto t, _, W' => KeptAt B g W W' ∧ Ix (.goto t) W'
  | .panic _, _, _ => False
  | .outgrown, _, _ => False

theorem keeps_put (W : World) (B l : Nat) (o : Obj) (hl : l = B ∨ l = B + 1) : Keeps (fun k => k = B ∨ k = B + 1) W (W.putObj l o) :=
  ⟨rfl, rfl, rfl, by simp, fun k _ hn => World.putObj_heap_other fun e => hn (e ▸ hl)⟩

/-- A range over such an iterator. -/
theorem range_list {F : Fence} {n : Nat} {P : Program} {α : Type} {g : Operand} {ps : Array Tmp} {assign body : Code} {Q : Exit → Act → World → Prop} {a : Act} {w : World}
    (hro : F.round = none) (h1 : 1 ≤ n) {gf : Nat} {lb : Array Value} (hg : a.eval g = .func (.func gf) #[] lb) (hFg : F.fn gf) (eg : ∀ args w, (callFunc gf args).run P w = .ok (.enter gf args) w)
    {encs : α → Array Value} {Good : World → Prop} {xs : List α}
    (hseq : Lists F (n - 1) P gf lb encs Good xs) (hgood : ∀ W, Keeps (fun _ => False) w W → Good W) (hps : ∀ x, (encs x).size = ps.size)
    (I : Nat → Nat → World → Prop) (Ix : Code → World → Prop)
    (hI : ∀ g i W W', Keeps (fun k => k = w.heap.size ∨ k = w.heap.size + 1) W W' → I g i W → I g i W')
    (hIx : ∀ c W W', Keeps (fun k => k = w.heap.size ∨ k = w.heap.size + 1) W W' → Ix c W → Ix c W')
    (h0 : ∀ g W, Keeps (fun _ => False) w W → w.heap.size + 2 ≤ g → g < W.heap.size → I g 0 W)
    (hround : ∀ (l g i : Nat) (x : α) (W : World), xs[i]? = some x → I g i W → w.heap.size + 2 ≤ g →
      assign.wpIn (F.inRound l) (n - 1 - 1) P (Exit.then (fun a' W' => W' = W ∧ ∀ W2, w.heap.size + 1 < W2.heap.size → I g i W2 → body.wpIn (F.inRound l) (n - 1 - 1) P (ListPost w.heap.size g W2 (I g (i + 1)) Ix) a' W2) (fun _ _ _ => False))
        { tmps := (ps.zip (encs x)).foldl (fun t (p, v) => t.setIfInBounds p v) a.tmps, defers := [] } W)
    (hdone : ∀ (g : Nat) (W : World), I g xs.length W → W.heap[w.heap.size]? = some (.deferred (some [])) → Q .normal { a with defers := { target := .collected w.heap.size, args := #[] } :: a.defers } W)
    (hstop : ∀ (c : Code) (W : World), Ix c W → W.heap[w.heap.size]? = some (.deferred (some [])) → c.wpIn F n P Q { a with defers := { target := .collected w.heap.size, args := #[] } :: a.defers } W) :
    (Code.rangeFunc g ps assign body).wpIn F n P Q a w := by
  refine wpIn_rangeFunc fun fn hfn => ?_
  rw [hro]
  obtain ⟨B, hB⟩ : ∃ B, B = w.heap.size := ⟨_, rfl⟩
  rw [← hB] at hI hIx hround hdone hstop h0
  obtain ⟨rec, hrec⟩ : ∃ rec : LoopState → Option Code → Loop, rec = fun st pe => { state := st, pending := pe, fn, tmps := a.tmps, params := ps, assign, body, defers := B } := ⟨_, rfl⟩
  obtain ⟨W1, hW1⟩ : ∃ W1, (w.alloc (.deferred (some []))).alloc (.loop (rec .ready none)) = W1 := ⟨_, rfl⟩
  have hK0 : Keeps (fun _ => False) w W1 := by rw [← hW1]; exact ((Keeps.refl _ w).alloc _).alloc _
  have hS1 : W1.heap.size = B + 2 := by rw [← hW1, hB]; simp
  have hL1 : W1.heap[B + 1]? = some (.loop (rec .ready none)) := by
    have := World.alloc_heap_new (w.alloc (.deferred (some []))) (.loop (rec .ready none))
    rw [World.size_alloc, ← hB, hW1] at this
    exact this
  have hD1 : W1.heap[B]? = some (.deferred (some [])) := by
    rw [← hW1, hB]; exact (Below.heap_alloc _ _ _ (by simp)).trans (World.alloc_heap_new w _)
  refine ⟨B + 1, [{ target := .collected B, args := #[] }], W1, { target := .fn (.func gf) lb, args := #[.func (.yield (B + 1)) #[] #[]] }, W1, gf,
    #[.func (.yield (B + 1)) #[] #[]] ++ lb, W1, ?_, ?_, ?_, ?_, fun _ => h1, ?_⟩
  · rw [← hW1, hrec, hB]; exact run_enterLoop_outer _ _ _ _ _
  · simp only [resolve, hg]
    simp [go_sem]
  · intro f' hf'; simp [Target.leads] at hf'; subst hf'; exact hFg
  · simp [invoke, go_sem, eg]
  refine (hseq (B + 1) (fun g i W => I g i W ∧ B + 2 ≤ g ∧ W.heap[B]? = some (.deferred (some [])) ∧ W.heap[B + 1]? = some (.loop (rec .ready none)))
    (fun W => ∃ c, Ix c W ∧ W.heap[B]? = some (.deferred (some [])) ∧ W.heap[B + 1]? = some (.loop (rec .done (some c)))) W1 (hgood W1 hK0)
    (fun g W hK hg1 hg2 => ⟨h0 g W (hK0.trans hK (fun _ _ h => h)) (by omega) hg2, by omega, (hK.block B (by omega) (fun h => h)).trans hD1, (hK.block (B + 1) (by omega) (fun h => h)).trans hL1⟩)
    (fun g i W W' hK h => ⟨hI g i W _ (hK.mono fun _ _ h => h.elim) h.1, h.2.1, (hK.block B (Array.getElem?_eq_some_iff.1 h.2.2.1).1 (fun h => h)).trans h.2.2.1, (hK.block (B + 1) (Array.getElem?_eq_some_iff.1 h.2.2.2).1 (fun h => h)).trans h.2.2.2⟩) ?_).mono ?_
  · rintro g i x W hx ⟨hi, hgB, hd, hl⟩
    have hlt : B + 1 < W.heap.size := (Array.getElem?_eq_some_iff.1 hl).1
    have hy := run_yield (P := P) (args := encs x) hl (by rw [hrec]; exact hps x)
    rw [hrec] at hy
    refine ⟨fn, _, assign, body, hy, roundIn_of_wpIn hfn (wpIn_mono (hround _ g i x W hx hi hgB) ?_)⟩
    rintro e0 a' W' hp0
    cases e0 with
    | ret => exact hp0.elim
    | exit id => exact hp0.elim
    | goto t => exact hp0.elim
    | panic ch => exact hp0.elim
    | outgrown => exact hp0.elim
    | normal => ?_
    obtain ⟨rfl, hbody⟩ := hp0
    refine ⟨_, run_beginRound hl (by rw [hrec]), ?_⟩
    obtain ⟨W2, hW2⟩ : ∃ W2, W'.putObj (B + 1) (.loop { rec .ready none with state := .busy }) = W2 := ⟨_, rfl⟩
    have hk2 : Keeps (fun k => k = B ∨ k = B + 1) W' W2 := by rw [← hW2]; exact keeps_put W' B (B + 1) _ (.inr rfl)
    have hl2 : W2.heap[B + 1]? = some (.loop { rec .ready none with state := .busy }) := by rw [← hW2]; exact World.putObj_heap_same hlt
    have hd2 : W2.heap[B]? = some (.deferred (some [])) := by rw [← hW2]; exact (World.putObj_heap_other (by omega)).trans hd
    have hg2 : W2.heap[g]? = W'.heap[g]? := by rw [← hW2]; exact World.putObj_heap_other (by omega)
    rw [hW2]
    have back : ∀ (jump : Option Code) (W3 : World), KeptAt B g W2 W3 →
        ∃ W4, (Instr.endRound (B + 1) jump).run P W3 = .ok (.bool jump.isNone) W4 ∧ Keeps (fun k => k = B ∨ k = B + 1) W3 W4 ∧ W4.heap[B]? = some (.deferred (some [])) ∧
          W4.heap[B + 1]? = some (.loop (rec (if jump.isNone then .ready else .done) jump)) ∧ W4.heap[g]? = W'.heap[g]? := fun jump W3 h3 => by
      have hl3 := h3.2.1.trans hl2
      have hd3 := h3.1.trans hd2
      have h4 := run_endRound (P := P) jump hl3
      refine ⟨_, h4, keeps_put W3 B (B + 1) _ (.inr rfl), (World.putObj_heap_other (by omega)).trans hd3, ?_, (World.putObj_heap_other (by omega)).trans (h3.2.2.trans hg2)⟩
      rw [World.putObj_heap_same (Array.getElem?_eq_some_iff.1 hl3).1, hrec]
    refine wpIn_mono (hbody W2 (Array.getElem?_eq_some_iff.1 hl2).1 (hI g i _ W2 hk2 hi)) ?_
    rintro e a3 W3 hp
    cases e with
    | normal =>
      obtain ⟨h3, hi3⟩ := hp
      obtain ⟨W4, hr, hk4, hd4, hl4, hg4⟩ := back none W3 h3
      exact ⟨_, _, hr, hg4, .inl ⟨rfl, hI _ _ _ _ hk4 hi3, hgB, hd4, hl4⟩⟩
    | ret =>
      obtain ⟨h3, hi3⟩ := hp
      obtain ⟨W4, hr, hk4, hd4, hl4, hg4⟩ := back (some .ret) W3 h3
      exact ⟨_, _, hr, hg4, .inr ⟨rfl, .ret, hIx _ _ _ hk4 hi3, hd4, hl4⟩⟩
    | exit id =>
      obtain ⟨h3, hi3⟩ := hp
      obtain ⟨W4, hr, hk4, hd4, hl4, hg4⟩ := back (some (.exit id)) W3 h3
      exact ⟨_, _, hr, hg4, .inr ⟨rfl, .exit id, hIx _ _ _ hk4 hi3, hd4, hl4⟩⟩
    | goto t =>
      obtain ⟨h3, hi3⟩ := hp
      obtain ⟨W4, hr, hk4, hd4, hl4, hg4⟩ := back (some (.goto t)) W3 h3
      exact ⟨_, _, hr, hg4, .inr ⟨rfl, .goto t, hIx _ _ _ hk4 hi3, hd4, hl4⟩⟩
    | panic ch => exact hp.elim
    | outgrown => exact hp.elim
  · rintro e W2 ⟨⟨v, rfl⟩, (⟨g, hi, hgB, hd, hl⟩ | ⟨c, hi, hd, hl⟩)⟩
    · exact ⟨none, _, by have := run_endLoop (P := P) hl (by rw [hrec]; simp); rw [hrec] at this; exact this,
        hdone g _ (hI _ _ _ _ (keeps_put W2 B (B + 1) _ (.inr rfl)) hi) ((World.putObj_heap_other (by omega)).trans hd)⟩
    · exact ⟨some c, _, by have := run_endLoop (P := P) hl (by rw [hrec]; simp); rw [hrec] at this; exact this,
        hstop c _ (hIx _ _ _ (keeps_put W2 B (B + 1) _ (.inr rfl)) hi) ((World.putObj_heap_other (by omega)).trans hd)⟩

end Go.Proofs.YtipejahmjdamjaaGreatDoor.Tl
