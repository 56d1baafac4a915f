import Derived.Test.YtadhldpeklkcmaaM
namespace Go.Proofs.Ytadhldpeklkcmaa
open Go.RowKit
set_option linter.unusedVariables false

/-- Objects by keys: each block belongs to one alone; all lie from N on. -/
structure Sep (w : World) (N : Nat) (F : Nat → Nat → Prop) : Prop where
  one : ∀ i j k, F i k → F j k → i = j
  lt : ∀ i k, F i k → k < w.heap.size
  ge : ∀ i k, F i k → N ≤ k

/-- One of them is another now. -/
theorem Sep.upd {w w' : World} {N : Nat} {F F' : Nat → Nat → Prop} (h : Sep w N F) (i : Nat) (hi : ∀ k, F' i k → F i k ∨ w.heap.size ≤ k) (hl : ∀ k, F' i k → k < w'.heap.size)
    (ho : ∀ j, j ≠ i → ∀ k, F' j k → F j k) (hs : w.heap.size ≤ w'.heap.size) (hN : N ≤ w.heap.size) : Sep w' N F' := by
  refine ⟨?_, ?_, ?_⟩
  · intro a b k ha hb
    by_cases ea : a = i
    · by_cases eb : b = i
      · rw [ea, eb]
      · have h2 := ho b eb k hb
        rw [ea] at ha
        rcases hi k ha with h1 | h1
        · rw [ea]; exact h.one _ _ k h1 h2
        · have := h.lt _ _ h2; omega
    · have h1 := ho a ea k ha
      by_cases eb : b = i
      · rw [eb] at hb
        rcases hi k hb with h2 | h2
        · rw [eb]; exact h.one _ _ k h1 h2
        · have := h.lt _ _ h1; omega
      · exact h.one _ _ k h1 (ho b eb k hb)
  · intro a k ha
    by_cases ea : a = i
    · rw [ea] at ha; exact hl k ha
    · have := h.lt _ _ (ho a ea k ha); omega
  · intro a k ha
    by_cases ea : a = i
    · rw [ea] at ha
      rcases hi k ha with h1 | h1
      · exact h.ge _ _ h1
      · omega
    · exact h.ge _ _ (ho a ea k ha)

theorem Sep.grown {w w' : World} {N : Nat} {F : Nat → Nat → Prop} (h : Sep w N F) (hs : w.heap.size ≤ w'.heap.size) : Sep w' N F :=
  ⟨h.one, fun i k hk => Nat.lt_of_lt_of_le (h.lt i k hk) hs, h.ge⟩

def F5 (a b c d e : Nat → Prop) (i k : Nat) : Prop :=
  (i = 0 ∧ a k) ∨ (i = 1 ∧ b k) ∨ (i = 2 ∧ c k) ∨ (i = 3 ∧ d k) ∨ (i = 4 ∧ e k)

/-- A memory's blocks. -/
def MF (mb g k : Nat) : Prop := k = mb ∨ k = g
/-- A row's block. -/
def RF (v : Value) (k : Nat) : Prop := v.ownBlock = some k
def nF (_ : Nat) : Prop := False

theorem Mm.ltF {w : World} {b g : Nat} {xs : List UInt32} (h : Mm w b g xs) {k : Nat} (hk : MF b g k) : k < w.heap.size := by
  rcases hk with rfl | rfl
  · exact h.blk.lt
  · exact h.row.lt

theorem owns_segI {w : World} {a : Option Addr} {c : Nat} {zs : List Int} (h : w.ownsRow 0 3 1 (.slice a zs.length c) zs.length (ivs zs)) : SegI w a zs := by
  by_cases h0 : zs.length = 0
  · exact .inl (List.eq_nil_of_length_eq_zero h0)
  · obtain ⟨g, h1, h2⟩ := owns_cell h (ivs_get zs 0 (by omega))
    refine .inr ⟨g, 0, h1, fun j hj => ?_⟩
    obtain ⟨g', h1', h2'⟩ := owns_cell h (ivs_get zs j hj)
    rw [h1] at h1'
    cases h1'
    rw [Nat.zero_add]; exact h2'
theorem owns_segW {w : World} {a : Option Addr} {c : Nat} {zs : List UInt32} (h : w.ownsRow 0 26 1 (.slice a zs.length c) zs.length (wvs zs)) : SegW w a zs := by
  by_cases h0 : zs.length = 0
  · exact .inl (List.eq_nil_of_length_eq_zero h0)
  · obtain ⟨g, h1, h2⟩ := owns_cell h (wvs_get zs 0 (by omega))
    refine .inr ⟨g, 0, h1, fun j hj => ?_⟩
    obtain ⟨g', h1', h2'⟩ := owns_cell h (wvs_get zs j hj)
    rw [h1] at h1'
    cases h1'
    rw [Nat.zero_add]; exact h2'

theorem append_int {w : World} (x : Int) (v : Value) (n : Nat) (vs : List Value) (hown : w.ownsRow 0 3 1 v n vs) (hn : n ≤ 4294967296) :
    ∃ v' W', (∀ ty, (Builtin.append_ #[27, 27] ty #[v, .slice (some ⟨w.heap.size, 0, none⟩) 1 1]).run Try.prog (w.alloc (.cells #[.int .i64 x] 3)) = .ok v' W') ∧ W'.ownsRow 0 3 1 v' (n + 1) (vs ++ [.int .i64 x]) ∧ Grew w v W' v' := by
  obtain ⟨i0, hi, hz0, hz1, hz2⟩ := info_parts Try.info3
  obtain ⟨v', W', h1, h2, h3, h4⟩ := append_new 27 3 i0 (.int .i64 0) 1 8 Try.underlying27 hi hz0 hz1 hz2 rfl (by omega) v n vs hown #[.int .i64 x] rfl (by
    intro y hy
    simp at hy
    subst hy; rfl) (by unfold maxLen; omega) (by omega)
  exact ⟨v', W', h1, h2, h3, h4⟩

theorem SegI.at {w : World} {a : Option Addr} {zs : List Int} (h : SegI w a zs) {j : Nat} (hj : j < zs.length) : ∃ g o, a = some ⟨g, o, none⟩ ∧ w.cell? ⟨g, o + j, none⟩ = some (.int .i64 (zs.getD j 0)) := by
  rcases h with rfl | ⟨g, o, h1, h2⟩
  · simp at hj
  · refine ⟨g, o, h1, ?_⟩
    rw [h2 j hj]
    simp [List.getD, List.getElem?_eq_getElem hj]

theorem getD_mem {zs : List Int} {j : Nat} (hj : j < zs.length) : zs.getD j 0 ∈ zs := by
  have e : zs.getD j 0 = zs[j] := by simp [List.getD, List.getElem?_eq_getElem hj]
  rw [e]; exact List.getElem_mem hj

theorem segI_lt {w : World} {N : Nat} {a : Option Addr} {zs : List Int} (h : SegI w a zs) (hN : w.heap.size ≤ N) (j : Nat) (hj : j < zs.length) : ∀ x, a = some x → x.block < N := by
  intro x hx
  rcases h with rfl | ⟨g, o, h1, h2⟩
  · simp at hj
  · rw [h1] at hx
    cases hx
    exact Nat.lt_of_lt_of_le (World.block_lt_of_cell? w ⟨g, o + j, none⟩ (h2 j hj)) hN

/-- A list that lies below stays readable. -/
theorem SegI.low {w w' : World} {a : Option Addr} {zs : List Int} (h : SegI w a zs) (k : Keeps (fun k => w.heap.size ≤ k) w w') : SegI w' a zs := by
  rcases h with rfl | ⟨g, o, h1, h2⟩
  · exact .inl rfl
  · refine .inr ⟨g, o, h1, fun j hj => cell_kept (h2 j hj) k ?_⟩
    have := World.block_lt_of_cell? w ⟨g, o + j, none⟩ (h2 j hj)
    simp only at this ⊢
    omega

end Go.Proofs.Ytadhldpeklkcmaa
