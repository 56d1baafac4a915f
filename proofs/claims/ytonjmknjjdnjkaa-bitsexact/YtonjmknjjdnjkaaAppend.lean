import Derived.Test.YtonjmknjjdnjkaaWords
namespace Go.Proofs.Ytonjmknjjdnjkaa
open Go.RowKit
set_option linter.unusedVariables false

theorem Keeps.of_grown {w w' : World} {row : Option Nat} (h : w.grownBy w' row) : Keeps (fun k => some k = row) w w' :=
  ⟨h.os, h.tape, h.output, h.size, fun k hk hn => h.block k hk hn⟩
theorem grown_of_keeps {S : Nat → Prop} {w w' : World} {row : Option Nat} (h : Keeps S w w') (hs : ∀ k, k < w.heap.size → S k → some k = row) : w.grownBy w' row :=
  ⟨h.os, h.tape, h.output, h.size, fun k hk hn => h.block k hk fun hS => hn (hs k hk hS)⟩

/-- An owned row is kept where its block is. -/
theorem owns_kept {S : Nat → Prop} {w w' : World} {e : TypeId} {size n : Nat} {v : Value} {vs : List Value} (h : w.ownsRow 0 e size v n vs) (hK : Keeps S w w') (hn : ∀ k, v.ownBlock = some k → ¬ S k) : w'.ownsRow 0 e size v n vs := by
  refine ⟨h.1, ?_⟩
  rcases h.2 with h2 | ⟨g, cap, cur, rfl, hb, hg, h3⟩
  · exact .inl h2
  · refine .inr ⟨g, cap, cur, rfl, hb, ?_, h3⟩
    rw [hK.block g (Array.getElem?_eq_some_iff.1 hg).1 (hn g rfl)]
    exact hg

/-- append of what lies in a new block of one: the new row, and where it lies. -/
theorem append_one {w : World} (t e : TypeId) (i : TypeInfo) (z x : Value) (bytes : Nat) (ht : Try.prog.underlying t = some (.slice e)) (hi : Try.prog.info? e = some i) (hz : i.zero = some z)
    (hs : i.size = 1) (hb : i.bytes = bytes) (hzs : z.cells.size = 1) (hx : x.oneCell' = true) (v : Value) (n : Nat) (vs : List Value) (hown : w.ownsRow 0 e 1 v n vs)
    (hm : n + 1 ≤ maxLen) (hbytes : (n + 1) * bytes ≤ 140737488355328) :
    ∃ v' W', (∀ ty, (Builtin.append_ #[t, t] ty #[v, .slice (some ⟨w.heap.size, 0, none⟩) 1 1]).run Try.prog (w.alloc (.cells #[x] e)) = .ok v' W') ∧ W'.ownsRow 0 e 1 v' (n + 1) (vs ++ [x]) ∧
      (v'.ownBlock = v.ownBlock ∨ ∃ k, v'.ownBlock = some k ∧ w.heap.size ≤ k) ∧ Keeps (fun k => some k = v.ownBlock) w W' := by
  have hW : Keeps (fun _ => False) w (w.alloc (.cells #[x] e)) := (Keeps.refl _ w).alloc _
  have hown1 : (w.alloc (.cells #[x] e)).ownsRow 0 e 1 v n vs := owns_kept hown hW (fun _ _ h => h)
  have hnews : ∀ (j : Nat) (u : Value), [x][j]? = some u → (w.alloc (.cells #[x] e)).cell? ((⟨w.heap.size, 0, none⟩ : Addr).add j) = some u := by
    intro j u hj
    have hB := Blk.new w #[x] e
    rw [addr_add]
    exact hB.cell (by rw [Nat.zero_add]; exact hj)
  have h1 : ∀ u ∈ [x], u.oneCell' = true := by
    intro u hu
    have : u = x := by simpa using hu
    rw [this]; exact hx
  obtain ⟨v', W', hr, ho, hg, _⟩ := run_append_own (P := Try.prog) (w.alloc (.cells #[x] e)) 0 t 0 e i z 1 bytes ht hi hz hs hb hzs (by omega) v n vs hown1 ⟨w.heap.size, 0, none⟩ 1 1 [x] rfl hnews h1 hm hbytes (Nat.zero_le _)
  refine ⟨v', W', fun ty => hr, ho, ?_, ?_⟩
  · have hbig : n + 1 ≤ 9223372036854775807 := by unfold maxLen at hm; omega
    have hfit : n + 1 ≤ 140737488355328 ∨ bytes = 0 := by
      by_cases h0 : bytes = 0
      · exact .inr h0
      · left
        have : (n + 1) * 1 ≤ (n + 1) * bytes := Nat.mul_le_mul_left _ (by omega)
        omega
    rcases hown1.2 with ⟨rfl, rfl⟩ | ⟨g, cap, cur, rfl, _, hg1, hnc, hcm, hcs, htake⟩
    · have h2 := run_append_nil (P := Try.prog) (w.alloc (.cells #[x] e)) t 0 e i z ht hi hz ⟨w.heap.size, 0, none⟩ 1 1 [x] (by rw [hs]; rfl) hnews (by omega) (by omega) (by rw [hb]; omega)
      rw [hr] at h2
      have e1 : v' = _ := (Result.ok.inj h2).1
      right
      rw [e1]
      exact ⟨_, rfl, by simp⟩
    · by_cases hroom : n + 1 ≤ cap
      · have h2 := run_append_room (P := Try.prog) (w.alloc (.cells #[x] e)) t 0 e i ht hi g n cap cur hg1 ⟨w.heap.size, 0, none⟩ 1 1 [x] (by rw [hs]; rfl) hnews h1 hroom (by rw [hs, hcs]; simp; omega)
        rw [hr] at h2
        have e1 : v' = _ := (Result.ok.inj h2).1
        left
        rw [e1]
        rfl
      · have h2 := run_append_grow (P := Try.prog) (w.alloc (.cells #[x] e)) t 0 e i z ht hi hz ⟨g, 0, none⟩ n cap vs (by rw [hs]; exact hown.1) (hown1.cells rfl) ⟨w.heap.size, 0, none⟩ 1 1 [x] (by rw [hs]; rfl) hnews (by omega) (by omega) (by
          rw [hb]; exact growslice_fits (by omega) hbytes)
        rw [hr] at h2
        have e1 : v' = _ := (Result.ok.inj h2).1
        right
        rw [e1]
        exact ⟨_, rfl, by simp⟩
  · exact (hW.mono fun _ _ h => h.elim).trans (Keeps.of_grown hg) fun _ _ h => h

theorem Try.info3 : (Try.prog.info? 3).map (fun i => (i.zero, i.size, i.bytes)) = some (some (.int .i64 0), 1, 8) := by kernel_rfl

theorem append_int {w : World} (x : Int) (v : Value) (n : Nat) (vs : List Value) (hown : w.ownsRow 0 3 1 v n vs) (hn : n ≤ 2147483648) :
    ∃ v' W', (∀ ty, (Builtin.append_ #[60, 60] ty #[v, .slice (some ⟨w.heap.size, 0, none⟩) 1 1]).run Try.prog (w.alloc (.cells #[.int .i64 x] 3)) = .ok v' W') ∧ W'.ownsRow 0 3 1 v' (n + 1) (vs ++ [.int .i64 x]) ∧
      (v'.ownBlock = v.ownBlock ∨ ∃ k, v'.ownBlock = some k ∧ w.heap.size ≤ k) ∧ Keeps (fun k => some k = v.ownBlock) w W' := by
  obtain ⟨i0, hi, hz0, hz1, hz2⟩ := info_parts Try.info3
  exact append_one 60 3 i0 (.int .i64 0) (.int .i64 x) 8 Try.underlying60 hi hz0 hz1 hz2 rfl rfl v n vs hown (by unfold maxLen; omega) (by omega)
end Go.Proofs.Ytonjmknjjdnjkaa
