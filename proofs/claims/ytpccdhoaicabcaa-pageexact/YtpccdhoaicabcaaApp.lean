import Derived.Test.YtpccdhoaicabcaaProg
import Derived.Test.YtpccdhoaicabcaaMem
import Derived.WalkKit
namespace Go.Proofs.Ytpccdhoaicabcaa
open Go.RowKit
set_option linter.unusedVariables false

theorem Keeps.of_grown {w w' : World} {row : Option Nat} (h : w.grownBy w' row) : Keeps (fun k => some k = row) w w' :=
  ⟨h.os, h.tape, h.output, h.size, fun k hk hn => h.block k hk hn⟩
theorem grown_of_keeps {S : Nat → Prop} {w w' : World} {row : Option Nat} (h : Keeps S w w') (hs : ∀ k, k < w.heap.size → S k → some k = row) : w.grownBy w' row :=
  ⟨h.os, h.tape, h.output, h.size, fun k hk hn => h.block k hk fun hS => hn (hs k hk hS)⟩

/-- An owned row is kept where its block is. -/
theorem owns_kept {S : Nat → Prop} {w w' : World} {e : TypeId} {size n : Nat} {v : Value} {vs : List Value} (h : w.ownsRow 0 e size v n vs) (hK : Keeps S w w') (hn : ∀ k, v.ownBlock = some k → ¬ S k) : w'.ownsRow 0 e size v n vs := by
  refine ⟨h.1, ?_⟩
  rcases h.2 with h2 | ⟨g, cap, cur, rfl, hb, hg, h3⟩
  · exact .inl h2
  · refine .inr ⟨g, cap, cur, rfl, hb, ?_, h3⟩
    rw [hK.block g (Array.getElem?_eq_some_iff.1 hg).1 (hn g rfl)]
    exact hg

/-! ### append to a row of one's own, and where the new row lies -/

theorem append_many {w : World} (t e : TypeId) (i : TypeInfo) (z : Value) (size bytes : Nat) (ht : Try.prog.underlying t = some (.slice e)) (hi : Try.prog.info? e = some i) (hz : i.zero = some z)
    (hs : i.size = size) (hb : i.bytes = bytes) (hzs : z.cells.size = size) (h0 : 0 < size) (v : Value) (n : Nat) (vs : List Value) (hown : w.ownsRow 0 e size v n vs)
    (a : Addr) (m c : Nat) (news : List Value) (hl : news.length = m * size) (hnews : ∀ j u, news[j]? = some u → w.cell? (a.add j) = some u) (h1 : ∀ u ∈ news, u.oneCell' = true)
    (hm : n + m ≤ maxLen) (hbytes : (n + m) * bytes ≤ 140737488355328) :
    ∃ v' W', (∀ ty, (Builtin.append_ #[t, t] ty #[v, .slice (some a) m c]).run Try.prog w = .ok v' W') ∧ W'.ownsRow 0 e size v' (n + m) (vs ++ news) ∧
      (v'.ownBlock = v.ownBlock ∨ ∃ k, v'.ownBlock = some k ∧ w.heap.size ≤ k) ∧ Keeps (fun k => some k = v.ownBlock) w W' := by
  obtain ⟨v', W', hr, ho, hg, hnil⟩ := run_append_own (P := Try.prog) w 0 t 0 e i z size bytes ht hi hz hs hb hzs h0 v n vs hown a m c news hl hnews h1 hm hbytes (Nat.zero_le _)
  refine ⟨v', W', fun ty => hr, ho, ?_, Keeps.of_grown hg⟩
  have hbig : n + m ≤ 9223372036854775807 := by unfold maxLen at hm; omega
  rcases hown.2 with ⟨rfl, rfl⟩ | ⟨g, cap, cur, rfl, _, hg1, hnc, hcm, hcs, htake⟩
  · by_cases hm0 : m = 0
    · left; rw [hnil.2 ⟨rfl, hm0⟩]
    · have h2 := run_append_nil (P := Try.prog) w t 0 e i z ht hi hz a m c news (by rw [hs]; exact hl) hnews (by omega) (by omega) (by
        rw [hb]
        rw [Nat.zero_add] at hbytes
        omega)
      rw [hr] at h2
      have e1 : v' = _ := (Result.ok.inj h2).1
      right
      rw [e1]
      exact ⟨_, rfl, by simp⟩
  · by_cases hroom : n + m ≤ cap
    · have h2 := run_append_room (P := Try.prog) w t 0 e i ht hi g n cap cur hg1 a m c news (by rw [hs]; exact hl) hnews h1 hroom (by
        rw [hs, hcs, hl, ← Nat.add_mul]; exact Nat.mul_le_mul_right _ hroom)
      rw [hr] at h2
      have e1 : v' = _ := (Result.ok.inj h2).1
      left
      rw [e1]
      rfl
    · have h2 := run_append_grow (P := Try.prog) w t 0 e i z ht hi hz ⟨g, 0, none⟩ n cap vs (by rw [hs]; exact hown.1) (hown.cells rfl) a m c news (by rw [hs]; exact hl) hnews (by omega) (by omega) (by
        rw [hb]; exact growslice_fits (by omega) hbytes)
      rw [hr] at h2
      have e1 : v' = _ := (Result.ok.inj h2).1
      right
      rw [e1]
      exact ⟨_, rfl, by simp⟩

/-- append of nothing, from nowhere. -/
theorem append_none {w : World} (t e : TypeId) (i : TypeInfo) (size : Nat) (ht : Try.prog.underlying t = some (.slice e)) (hi : Try.prog.info? e = some i)
    (hs : i.size = size) (h0 : 0 < size) (v : Value) (n c : Nat) (vs : List Value) (hown : w.ownsRow 0 e size v n vs) (ty : TypeId) :
    (Builtin.append_ #[t, t] ty #[v, .slice none 0 c]).run Try.prog w = .ok v w := by
  rcases hown.2 with ⟨rfl, rfl⟩ | ⟨g, cap, cur, rfl, _, hg1, hnc, hcm, hcs, htake⟩
  · simp [Builtin.append_, run_underlying ht, sizeOf, typeInfo, hi, Builtin.lenOf, run_firstCells_none]
  · simp [Builtin.append_, run_underlying ht, sizeOf, typeInfo, hi, Builtin.lenOf, hnc, run_firstCells_none, storeCells]

/-- append of a new block of one. -/
theorem append_new {w : World} (t e : TypeId) (i : TypeInfo) (z : Value) (size bytes : Nat) (ht : Try.prog.underlying t = some (.slice e)) (hi : Try.prog.info? e = some i) (hz : i.zero = some z)
    (hs : i.size = size) (hb : i.bytes = bytes) (hzs : z.cells.size = size) (h0 : 0 < size) (v : Value) (n : Nat) (vs : List Value) (hown : w.ownsRow 0 e size v n vs)
    (xs : Array Value) (hl : xs.size = size) (h1 : ∀ u ∈ xs.toList, u.oneCell' = true)
    (hm : n + 1 ≤ maxLen) (hbytes : (n + 1) * bytes ≤ 140737488355328) :
    ∃ v' W', (∀ ty, (Builtin.append_ #[t, t] ty #[v, .slice (some ⟨w.heap.size, 0, none⟩) 1 1]).run Try.prog (w.alloc (.cells xs e)) = .ok v' W') ∧ W'.ownsRow 0 e size v' (n + 1) (vs ++ xs.toList) ∧
      (v'.ownBlock = v.ownBlock ∨ ∃ k, v'.ownBlock = some k ∧ w.heap.size ≤ k) ∧ Keeps (fun k => some k = v.ownBlock) w W' := by
  have hW : Keeps (fun _ => False) w (w.alloc (.cells xs e)) := (Keeps.refl _ w).alloc _
  have hown1 : (w.alloc (.cells xs e)).ownsRow 0 e size v n vs := owns_kept hown hW (fun _ _ h => h)
  obtain ⟨v', W', hr, ho, hfr, hK⟩ := append_many t e i z size bytes ht hi hz hs hb hzs h0 v n vs hown1 ⟨w.heap.size, 0, none⟩ 1 1 xs.toList (by simpa using hl) (by
    intro j u hj
    have hB := Blk.new w xs e
    rw [addr_add]
    exact hB.cell (by rw [Nat.zero_add]; exact hj)) h1 hm hbytes
  refine ⟨v', W', hr, ho, ?_, (hW.mono fun _ _ h => h.elim).trans hK fun _ _ h => h⟩
  rcases hfr with h | ⟨k, h, h2⟩
  · exact .inl h
  · exact .inr ⟨k, h, by simp at h2; omega⟩

/-- A row that has grown: where it lies, and that nothing else was changed. -/
structure Grew (w : World) (v : Value) (w' : World) (v' : Value) : Prop where
  fresh : v'.ownBlock = v.ownBlock ∨ ∃ k, v'.ownBlock = some k ∧ w.heap.size ≤ k
  keeps : Keeps (fun k => some k = v.ownBlock) w w'

theorem Grew.refl (w : World) (v : Value) : Grew w v w v := ⟨.inl rfl, Keeps.refl _ _⟩
theorem Grew.trans {w w1 w2 : World} {v v1 v2 : Value} (h : Grew w v w1 v1) (k : Grew w1 v1 w2 v2) : Grew w v w2 v2 := by
  refine ⟨?_, h.keeps.trans k.keeps ?_⟩
  · rcases k.fresh with e | ⟨b, e, hb⟩
    · rw [e]; exact h.fresh
    · exact .inr ⟨b, e, Nat.le_trans h.keeps.size hb⟩
  · intro b hb e
    rcases h.fresh with f | ⟨c, f, hc⟩
    · rw [← f]; exact e
    · rw [f] at e; cases e; omega


theorem Grew.owns {w w' : World} {v v' : Value} (h : Grew w v w' v') (hv : v.ownBlock = none) : Keeps (fun _ => False) w w' :=
  h.keeps.mono fun b _ e => by rw [hv] at e; cases e

end Go.Proofs.Ytpccdhoaicabcaa
