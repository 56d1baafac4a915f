import Derived.Test.YtlddioedednojaaD
import Derived.Deep.AppendSrc
namespace Go.Proofs.Ytlddioedednojaa
open Go.RowKit Go.Shelf
set_option linter.unusedVariables false
set_option linter.unusedSimpArgs false
set_option maxRecDepth 6000

theorem info_parts {t : TypeId} {z : Value} {n b : Nat} (h : (Try.prog.info? t).map (fun i => (i.zero, i.size, i.bytes)) = some (some z, n, b)) : ∃ i, Try.prog.info? t = some i ∧ i.zero = some z ∧ i.size = n ∧ i.bytes = b := by
  obtain ⟨i, hi, he⟩ := Option.map_eq_some_iff.1 h
  simp only [Prod.mk.injEq] at he
  exact ⟨i, hi, he.1, he.2.1, he.2.2⟩
theorem seg_cells {w : World} {g o : Nat} {A : List Sn} (hA : ∀ s ∈ A, s.Fine) (h : ∀ j s, A[j]? = some s → w.rangeAt g (o + j * 26) s.vs) : ∀ j v, (flatS A)[j]? = some v → w.cell? ⟨g, o + j, none⟩ = some v := by
  intro j v hv
  have hj := (List.getElem?_eq_some_iff.1 hv).1
  rw [flatS_length hA] at hj
  obtain ⟨s, hs⟩ : ∃ s, A[j / 26]? = some s := ⟨_, List.getElem?_eq_getElem (by omega)⟩
  have hF := hA s (List.mem_of_getElem? hs)
  obtain ⟨u, hu⟩ : ∃ u, s.vs[j % 26]? = some u := ⟨_, List.getElem?_eq_getElem (by rw [s.vs_length hF]; omega)⟩
  have h1 := flatS_get hA hs hu
  rw [show j / 26 * 26 + j % 26 = j by omega, hv] at h1
  have h2 := h _ _ hs _ _ hu
  rw [show o + j / 26 * 26 + j % 26 = o + j by omega] at h2
  rw [h2, ← h1]
theorem flatS_one (A : List Sn) : ∀ v ∈ flatS A, v.oneCell' = true := by
  intro v hv
  obtain ⟨s, _, h⟩ := List.mem_flatMap.1 hv
  exact s.one v h
theorem blk_seg {w : World} {g : Nat} {A : List Sn} {t : List Value} {ty : TypeId} (hA : ∀ s ∈ A, s.Fine) (h : Blk w g (flatS A ++ t) ty) : SegS w (some ⟨g, 0, none⟩) A :=
  .inr ⟨g, 0, rfl, fun j s hj i v hv => by
    refine h.cell ?_
    have h1 := flatS_get hA hj hv
    rw [Nat.zero_add, List.getElem?_append_left (List.getElem?_eq_some_iff.1 h1).1]
    exact h1⟩

/-- A copy: its list, and where it lies. -/
structure Cpy (w : World) (A : List Sn) (a' : Option Addr) (c : Nat) (w' : World) : Prop where
  le : A.length ≤ c ∧ c ≤ maxLen
  emp : A = [] → a' = none
  lies : A ≠ [] → ∃ g t, a' = some ⟨g, 0, none⟩ ∧ Blk w' g (flatS A ++ t) 33 ∧ w.heap.size ≤ g
  keeps : Keeps (fun _ => False) w w'
theorem Cpy.seg {w : World} {A : List Sn} {a' : Option Addr} {c : Nat} {w' : World} (h : Cpy w A a' c w') (hA : ∀ s ∈ A, s.Fine) : SegS w' a' A := by
  by_cases e : A = []
  · exact .inl e
  · obtain ⟨g, t, rfl, hB, _⟩ := h.lies e
    exact blk_seg hA hB

set_option maxHeartbeats 1000000 in
theorem copied_any (a : Option Addr) (A : List Sn) (ca : Nat) (w : World) (hA : ∀ s ∈ A, s.Fine) (hla : A.length ≤ ca ∧ ca ≤ maxLen) (ha : SegS w a A) (hb : A.length ≤ 2147483647) :
    Calls Try.prog 5 #[.slice a A.length ca] w fun r w' => ∃ a' c, r = .returned (.slice a' A.length c) ∧ Cpy w A a' c w' := by
  have hal : ∃ a' c W, (∀ ty, (Builtin.append_ #[22, 22] ty #[.slice none 0 0, .slice a A.length ca]).run Try.prog w = .ok (.slice a' A.length c) W) ∧ Cpy w A a' c W := by
    obtain ⟨i0, hi, hz0, hz1, hz2⟩ := info_parts (show (Try.prog.info? 33).map (fun i => (i.zero, i.size, i.bytes)) = some (some (.agg (#[.int .i64 0, .int .i64 0, .int .i64 0, .int .u32 0, .int .u32 0, .int .i64 0, .bool false, .int .u32 0, .int .u32 0, .int .u32 0, .int .u32 0, .int .u32 0, .int .u32 0, .int .u32 0, .int .u32 0, .int .u32 0, .int .u32 0, .int .u32 0, .int .u32 0, .int .u32 0, .int .u32 0, .int .u32 0, .int .u32 0, .int .u32 0, .int .u32 0, .int .u32 0])), 26, 120) by kernel_rfl)
    obtain ⟨z, hzz⟩ : ∃ z : Value, z = .agg (#[.int .i64 0, .int .i64 0, .int .i64 0, .int .u32 0, .int .u32 0, .int .i64 0, .bool false, .int .u32 0, .int .u32 0, .int .u32 0, .int .u32 0, .int .u32 0, .int .u32 0, .int .u32 0, .int .u32 0, .int .u32 0, .int .u32 0, .int .u32 0, .int .u32 0, .int .u32 0, .int .u32 0, .int .u32 0, .int .u32 0, .int .u32 0, .int .u32 0, .int .u32 0]) := ⟨_, rfl⟩
    rw [← hzz] at hz0
    by_cases e : A = []
    · subst e
      refine ⟨none, 0, w, fun ty => ?_, ⟨by simp [maxLen], fun _ => rfl, fun h => absurd rfl h, Keeps.refl _ _⟩⟩
      cases a with
      | none => simp [Builtin.append_, run_underlying Try.underlying22, sizeOf, typeInfo, hi, Builtin.lenOf, run_firstCells_none, storeCells]
      | some ad => simp [Builtin.append_, run_underlying Try.underlying22, sizeOf, typeInfo, hi, Builtin.lenOf, storeCells, run_firstCells_some (P := Try.prog) w i0.size 0 ad 0 ca [] (by simp) (by intro j v h; cases h)]
    · rcases ha with h | ⟨g, o, rfl, hc⟩
      · exact absurd h e
      · have h0 : 0 < A.length := by
          cases A with
          | nil => exact absurd rfl e
          | cons x r => simp
        have h1 := fun ty => run_append_nil (P := Try.prog) w 22 ty 33 i0 _ Try.underlying22 hi hz0 ⟨g, o, none⟩ A.length ca (flatS A) (by rw [flatS_length hA, hz1]) (fun j v hv => by rw [addr_add]; exact seg_cells hA hc j v hv) h0 (by omega) (by rw [hz2]; omega)
        refine ⟨_, _, _, h1, ⟨⟨grownCap_ge _ _ _ _, grownCap_le_maxLen _ _ _ _ (by unfold maxLen; omega)⟩, fun h => absurd h e, fun _ => ⟨w.heap.size, (Builtin.zeroCells z.cells (grownCap w A.length 0 33 - A.length)).toList, rfl, ?_, Nat.le_refl _⟩, ((Keeps.refl _ w).drew).alloc _⟩⟩
        have := Blk.new w.drew ((flatS A).toArray ++ Builtin.zeroCells z.cells (grownCap w A.length 0 33 - A.length)) 33
        rw [Array.toList_append] at this
        exact this
  obtain ⟨a', c, W, h1, h2⟩ := hal
  obtain ⟨n, hn⟩ : ∃ n, n = A.length := ⟨_, rfl⟩
  rw [← hn] at h1 ⊢
  have H2 : Hid (Cpy w A a' c W) := h2
  have H1 : Hid (∀ ty, (Builtin.append_ #[22, 22] ty #[.slice none 0 0, .slice a n ca]).run Try.prog w = .ok (.slice a' n c) W) := h1
  clear h1 h2 ha hla hb hn
  go_enter Try.func5, Try.ntmps5
  go_wp2_with (at_builtin; go_must (refine wpList_append_run rfl (.tmp 4) (.tmp 5) 22 22 rfl (.slice none 0 0) (.slice a n ca) (.slice a' n c) W rfl rfl H1.out ?_; refine Hid.out ?_))
  unfold Hid
  go_wp2
  go_ret
  exact ⟨_, _, rfl, H2.out⟩
end Go.Proofs.Ytlddioedednojaa
