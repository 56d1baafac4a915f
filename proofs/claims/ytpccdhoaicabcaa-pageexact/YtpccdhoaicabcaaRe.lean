import Derived.Test.YtpccdhoaicabcaaRd
import Derived.Deep.RegionHeld3
namespace Go.Proofs.Ytpccdhoaicabcaa
open Go.RowKit Go.Shelf
set_option linter.unusedVariables false
set_option linter.unusedSimpArgs false

def RbdD (w w' : World) (b g n : Nat) (xs : List UInt32) (root : Int) (ts : List Int) (rs : List Rgn) (e : Ending) : Prop :=
  ∃ z : Nat, e = .returned (.int .i64 z) ∧ BldP n root ts rs z ∧ Rn w' b g n (BldX root ts rs xs z) ∧ Keeps (· = g) w w'
theorem rbd_no {w w' : World} {b g n : Nat} {xs : List UInt32} {root : Int} {ts : List Int} {rs : List Rgn} (z : Nat) (hz : z ≠ 0) (hp : BldP n root ts rs z) (hM : Rn w b g n xs) (hK : Keeps (fun _ => False) w w') :
    RbdD w w' b g n xs root ts rs (.returned (.int .i64 z)) := by
  refine ⟨z, rfl, hp, ?_, hK.mono fun _ _ h => h.elim⟩
  unfold BldX; rw [if_neg hz]; exact hM.grown hK

theorem owns_nil (w : World) : w.ownsRow 0 3 1 (.slice none 0 0) 0 [] := ⟨rfl, .inl ⟨rfl, rfl⟩⟩
def ivs (ts : List Int) : List Value := ts.map fun t => .int .i64 t
theorem ivs_length (ts : List Int) : (ivs ts).length = ts.length := by simp [ivs]
theorem ivs_get (ts : List Int) (j : Nat) (u : Value) (h : (ivs ts)[j]? = some u) : ∃ t, ts[j]? = some t ∧ u = .int .i64 t := by
  unfold ivs at h
  rw [List.getElem?_map] at h
  cases hj : ts[j]? with
  | none => rw [hj] at h; simp at h
  | some t => rw [hj] at h; simp at h; exact ⟨t, rfl, h.symm⟩
theorem ivs_one (ts : List Int) : ∀ v ∈ ivs ts, v.oneCell' = true := by
  intro v hv
  obtain ⟨x, _, rfl⟩ := List.mem_map.1 hv
  rfl

/-- append(append(nil, root), tables...). -/
theorem append_all (w : World) (root : Int) (a2 : Option Addr) (ts : List Int) (c2 : Nat) (hs : SegI w a2 ts) (hl : ts.length ≤ 16) :
    ∃ v1 W1 v2 W2, (∀ ty, (Builtin.append_ #[28, 28] ty #[.slice none 0 0, .slice (some ⟨w.heap.size, 0, none⟩) 1 1]).run Try.prog (w.alloc (.cells #[.int .i64 root] 3)) = .ok v1 W1) ∧
      (∀ ty, (Builtin.append_ #[28, 28] ty #[v1, .slice a2 ts.length c2]).run Try.prog W1 = .ok v2 W2) ∧ Keeps (fun _ => False) w W2 ∧
      ∃ g c, v2 = .slice (some ⟨g, 0, none⟩) (ts.length + 1) c ∧ ts.length + 1 ≤ c ∧ c ≤ maxLen ∧ SegI W2 (some ⟨g, 0, none⟩) (root :: ts) := by
  obtain ⟨i0, hi, hz0, hz1, hz2⟩ := info_parts Try.info3
  obtain ⟨v1, W1, h1, h2, h3, h4⟩ := append_new 28 3 i0 (.int .i64 0) 1 8 Try.underlying28 hi hz0 hz1 hz2 rfl (by omega) (.slice none 0 0) 0 [] (owns_nil w) #[.int .i64 root] rfl (by
    intro y hy
    simp at hy
    subst hy; rfl) (by unfold maxLen; omega) (by omega)
  have hK1 : Keeps (fun _ => False) w W1 := h4.mono fun b _ e => by simp [Value.ownBlock] at e
  have hs1 := hs.grown hK1
  have fin : ∀ (v : Value) (W : World), W.ownsRow 0 3 1 v (0 + 1 + ts.length) (([] ++ [Value.int .i64 root]) ++ ivs ts) → ∃ g c, v = .slice (some ⟨g, 0, none⟩) (ts.length + 1) c ∧ ts.length + 1 ≤ c ∧ c ≤ maxLen ∧ SegI W (some ⟨g, 0, none⟩) (root :: ts) := by
    intro v W ho
    rcases ho.2 with ⟨_, h0⟩ | ⟨g, cap, cur, rfl, _, hg, hc1, hc2, hc3, htake⟩
    · omega
    · refine ⟨g, cap, by rw [Nat.zero_add, Nat.add_comm], by omega, hc2, .inr ⟨g, 0, rfl, fun j t hj => ?_⟩⟩
      have := ho.cells rfl j (.int .i64 t) (by
        show ([Value.int .i64 root] ++ ivs ts)[j]? = _
        cases j with
        | zero => simp at hj; simp [hj]
        | succ j => simp at hj; simp [ivs, hj])
      rw [addr_add] at this
      exact this
  by_cases h0 : ts.length = 0
  · have ht0 : ts = [] := List.eq_nil_of_length_eq_zero h0
    subst ht0
    cases a2 with
    | none =>
      refine ⟨v1, W1, v1, W1, h1, fun ty => append_none 28 3 i0 1 Try.underlying28 hi hz1 (by omega) v1 1 c2 _ h2 ty, hK1, fin v1 W1 (by simpa [ivs] using h2)⟩
    | some x =>
      obtain ⟨v2, W2, k1, k2, k3, k4⟩ := append_many 28 3 i0 (.int .i64 0) 1 8 Try.underlying28 hi hz0 hz1 hz2 rfl (by omega) v1 1 _ h2 x 0 c2 [] rfl (by intro j u hj; simp at hj) (by intro u hu; simp at hu) (by unfold maxLen; omega) (by omega)
      refine ⟨v1, W1, v2, W2, h1, k1, hK1.trans k4 (fun b hb e => ?_), fin v2 W2 (by simpa [ivs] using k2)⟩
      rcases h3 with e3 | ⟨k, e3, hk⟩
      · rw [e3] at e; simp [Value.ownBlock] at e
      · rw [e3] at e; cases e; omega
  · rcases hs1 with hnil | ⟨g, o, rfl, hc⟩
    · rw [hnil] at h0; simp at h0
    · obtain ⟨v2, W2, k1, k2, k3, k4⟩ := append_many 28 3 i0 (.int .i64 0) 1 8 Try.underlying28 hi hz0 hz1 hz2 rfl (by omega) v1 1 _ h2 ⟨g, o, none⟩ ts.length c2 (ivs ts) (by rw [ivs_length]; omega) (by
        intro j u hj
        obtain ⟨t, ht, rfl⟩ := ivs_get ts j u hj
        rw [addr_add]; exact hc j t ht) (ivs_one ts) (by unfold maxLen; omega) (by omega)
      refine ⟨v1, W1, v2, W2, h1, k1, hK1.trans k4 (fun b hb e => ?_), fin v2 W2 (by simpa using k2)⟩
      rcases h3 with e3 | ⟨k, e3, hk⟩
      · rw [e3] at e; simp [Value.ownBlock] at e
      · rw [e3] at e; cases e; omega

end Go.Proofs.Ytpccdhoaicabcaa
