import Derived.Test.YtadhldpeklkcmaaE
import Derived.Test.YtadhldpeklkcmaaApp
import Derived.Lib.SliceRun
namespace Go.Proofs.Ytadhldpeklkcmaa
open Go.RowKit
set_option linter.unusedVariables false

def ivs (zs : List Int) : List Value := zs.map fun z => .int .i64 z
theorem ivs_length (zs : List Int) : (ivs zs).length = zs.length := by simp [ivs]
theorem ivs_get (zs : List Int) (i : Nat) (h : i < zs.length) : (ivs zs)[i]? = some (.int .i64 zs[i]) := by simp [ivs, h]
theorem ivs_one (xs : List Int) : ∀ v ∈ ivs xs, v.oneCell' = true := by
  intro v hv
  obtain ⟨x, _, rfl⟩ := List.mem_map.1 hv
  rfl
/-- These ints can be read at this address. -/
def SegI (w : World) (a : Option Addr) (zs : List Int) : Prop :=
  zs = [] ∨ ∃ g o, a = some ⟨g, o, none⟩ ∧ ∀ j, (h : j < zs.length) → w.cell? ⟨g, o + j, none⟩ = some (.int .i64 zs[j])
theorem SegI.kept {S : Nat → Prop} {w w' : World} {a : Option Addr} {ws : List Int} (h : SegI w a ws) (hK : Keeps S w w') (hn : ∀ x, a = some x → ¬ S x.block) : SegI w' a ws := by
  rcases h with h | ⟨g, o, ha, hc⟩
  · exact .inl h
  · exact .inr ⟨g, o, ha, fun j hj => cell_kept (hc j hj) hK (hn ⟨g, o, none⟩ ha)⟩
theorem segI_cells {w : World} {a : Option Addr} {xs : List Int} (h : SegI w a xs) : ivs xs = [] ∨ ∃ b p, a = some ⟨b, p, none⟩ ∧ ∀ j u, (ivs xs)[j]? = some u → w.cell? ⟨b, p + j, none⟩ = some u := by
  rcases h with h | ⟨g, o, h, k⟩
  · left; rw [h]; rfl
  · right
    refine ⟨g, o, h, fun j u hj => ?_⟩
    have hlt : j < xs.length := by
      have := (List.getElem?_eq_some_iff.1 hj).1
      rw [ivs_length] at this
      exact this
    rw [ivs_get xs j hlt] at hj
    rw [k j hlt]; exact hj

theorem Try.info3 : (Try.prog.info? 3).map (fun i => (i.zero, i.size, i.bytes)) = some (some (.int .i64 0), 1, 8) := by kernel_rfl

/-- A new row of its own, with these things, and nothing else was changed. -/
def CloneP (w : World) (t : TypeId) (vs : List Value) (n : Nat) (e : Ending) (w' : World) : Prop :=
  ∃ v', e = .returned v' ∧ w'.ownsRow 0 t 1 v' n vs ∧ (v'.ownBlock = none ∨ ∃ k, v'.ownBlock = some k ∧ w.heap.size ≤ k) ∧ Keeps (fun _ => False) w w'

set_option maxRecDepth 20000 in
set_option maxHeartbeats 400000 in
theorem clone_ints (a : Option Addr) (c : Nat) (xs : List Int) (w : World) (hx : SegI w a xs) (hl : xs.length ≤ 4294967296) :
    Calls Try.prog 56 #[.slice a xs.length c] w (CloneP w 3 (ivs xs) xs.length) := by
  have hnil : ∀ w : World, (binOp .eql 27 (.slice a xs.length c) (.slice none 0 0)).run Try.prog w = .ok (.bool a.isNone) w := fun w => Lib.run_eql_slice_nil w 27 3 a _ _ 0 0 Try.underlying27
  cases a with
  | none =>
    have h0 : xs = [] := by
      rcases hx with h | ⟨g, o, h, _⟩
      · exact h
      · cases h
    subst h0
    have hnil : ∀ w : World, (binOp .eql 27 (.slice none 0 c) (.slice none 0 0)).run Try.prog w = .ok (.bool true) w := hnil
    clear hx hl
    go_enter Try.func56, Try.ntmps56
    go_wp2
    go_ret
    exact ⟨_, rfl, ⟨rfl, .inl ⟨rfl, rfl⟩⟩, .inl rfl, Keeps.refl _ _⟩
  | some ad =>
    have hnil : ∀ w : World, (binOp .eql 27 (.slice (some ad) xs.length c) (.slice none 0 0)).run Try.prog w = .ok (.bool false) w := hnil
    obtain ⟨i0, hi, hz0, hz1, hz2⟩ := info_parts Try.info3
    have hB := Blk.new w #[] 3
    have hown : (w.alloc (.cells #[] 3)).ownsRow 0 3 1 (.slice (some ⟨w.heap.size, 0, none⟩) 0 0) 0 [] := ⟨rfl, .inr ⟨w.heap.size, 0, #[], rfl, Nat.zero_le _, heap_alloc_new w _, Nat.le_refl _, Nat.zero_le _, rfl, rfl⟩⟩
    have hal : ∀ n, n = xs.length → ∃ v' W', (∀ ty, (Builtin.append_ #[27, 27] ty #[.slice (some ⟨w.heap.size, 0, none⟩) 0 0, .slice (some ad) n c]).run Try.prog (w.alloc (.cells #[] 3)) = .ok v' W') ∧ CloneP w 3 (ivs xs) xs.length (.returned v') W' := by
      rintro n rfl
      have hk1 : Keeps (fun _ => False) w (w.alloc (.cells #[] 3)) := (Keeps.refl _ w).alloc _
      have hx0 := hx
      rcases hx with rfl | ⟨g, o, e, hc⟩
      · refine ⟨_, _, fun ty => ?_, _, rfl, hown, .inr ⟨_, rfl, Nat.le_refl _⟩, hk1⟩
        simp [Builtin.append_, run_underlying Try.underlying27, sizeOf, typeInfo, hi, hz1, Builtin.lenOf, storeCells, run_firstCells_some (P := Try.prog) (w.alloc (.cells #[] 3)) 1 0 ad 0 c [] rfl (by intro j v h; cases h)]
      · cases e
        have hs := hx0.kept hk1 (fun _ _ e => e)
        obtain ⟨v', W', h1, h2, h3, h4⟩ := append_many 27 3 i0 (.int .i64 0) 1 8 Try.underlying27 hi hz0 hz1 hz2 rfl (by omega) (.slice (some ⟨w.heap.size, 0, none⟩) 0 0) 0 [] hown ⟨g, o, none⟩ xs.length c (ivs xs) (by rw [ivs_length]; omega) (by
          intro j u hj
          rcases segI_cells hs with h | ⟨b, p, e, hb⟩
          · rw [h] at hj; cases hj
          · cases e
            rw [addr_add]
            exact hb j u hj) (ivs_one xs) (by unfold maxLen; omega) (by omega)
        rw [Nat.zero_add, List.nil_append] at h2
        refine ⟨v', W', h1, v', rfl, h2, ?_, hk1.trans h4 fun b hb e => ?_⟩
        · rcases h3 with h | ⟨k, h, hk⟩
          · right; exact ⟨w.heap.size, h, Nat.le_refl _⟩
          · right; refine ⟨k, h, ?_⟩; simp at hk; omega
        · simp [Value.ownBlock] at e
          omega
    obtain ⟨v', W', h1, h2⟩ := hal _ rfl
    obtain ⟨n, hn⟩ : ∃ n, n = xs.length := ⟨_, rfl⟩
    rw [← hn] at h1 hnil
    have H2 : Hid (CloneP _ _ _ _ _ _) := h2
    have H1 : Hid (∀ ty, _) := h1
    rw [← hn]
    rw [← hn] at H2
    clear h1 h2 hal hown hB hx hl hn hi hz0 hz1 hz2
    go_enter Try.func56, Try.ntmps56
    go_wp2_with (at_builtin; go_must (refine wpList_append_run rfl (.tmp 5) (.tmp 6) 27 27 rfl (.slice (some ⟨w.heap.size, 0, none⟩) 0 0) (.slice (some ad) n c) v' W' rfl rfl H1.out ?_; refine Hid.out ?_))
    unfold Hid
    go_wp2
    go_ret
    exact H2.out

set_option maxRecDepth 20000 in
set_option maxHeartbeats 400000 in
theorem clone_words (a : Option Addr) (c : Nat) (xs : List UInt32) (w : World) (hx : SegW w a xs) (hl : xs.length ≤ 4294967296) :
    Calls Try.prog 58 #[.slice a xs.length c] w (CloneP w 26 (wvs xs) xs.length) := by
  have hnil : ∀ w : World, (binOp .eql 28 (.slice a xs.length c) (.slice none 0 0)).run Try.prog w = .ok (.bool a.isNone) w := fun w => Lib.run_eql_slice_nil w 28 26 a _ _ 0 0 Try.underlying28
  cases a with
  | none =>
    have h0 : xs = [] := by
      rcases hx with h | ⟨g, o, h, _⟩
      · exact h
      · cases h
    subst h0
    have hnil : ∀ w : World, (binOp .eql 28 (.slice none 0 c) (.slice none 0 0)).run Try.prog w = .ok (.bool true) w := hnil
    clear hx hl
    go_enter Try.func58, Try.ntmps58
    go_wp2
    go_ret
    exact ⟨_, rfl, ⟨rfl, .inl ⟨rfl, rfl⟩⟩, .inl rfl, Keeps.refl _ _⟩
  | some ad =>
    have hnil : ∀ w : World, (binOp .eql 28 (.slice (some ad) xs.length c) (.slice none 0 0)).run Try.prog w = .ok (.bool false) w := hnil
    obtain ⟨i0, hi, hz0, hz1, hz2⟩ := info_parts Try.info26
    have hB := Blk.new w #[] 26
    have hown : (w.alloc (.cells #[] 26)).ownsRow 0 26 1 (.slice (some ⟨w.heap.size, 0, none⟩) 0 0) 0 [] := ⟨rfl, .inr ⟨w.heap.size, 0, #[], rfl, Nat.zero_le _, heap_alloc_new w _, Nat.le_refl _, Nat.zero_le _, rfl, rfl⟩⟩
    have hal : ∀ n, n = xs.length → ∃ v' W', (∀ ty, (Builtin.append_ #[28, 28] ty #[.slice (some ⟨w.heap.size, 0, none⟩) 0 0, .slice (some ad) n c]).run Try.prog (w.alloc (.cells #[] 26)) = .ok v' W') ∧ CloneP w 26 (wvs xs) xs.length (.returned v') W' := by
      rintro n rfl
      have hk1 : Keeps (fun _ => False) w (w.alloc (.cells #[] 26)) := (Keeps.refl _ w).alloc _
      have hx0 := hx
      rcases hx with rfl | ⟨g, o, e, hc⟩
      · refine ⟨_, _, fun ty => ?_, _, rfl, hown, .inr ⟨_, rfl, Nat.le_refl _⟩, hk1⟩
        simp [Builtin.append_, run_underlying Try.underlying28, sizeOf, typeInfo, hi, hz1, Builtin.lenOf, storeCells, run_firstCells_some (P := Try.prog) (w.alloc (.cells #[] 26)) 1 0 ad 0 c [] rfl (by intro j v h; cases h)]
      · cases e
        have hs := hx0.kept hk1 (fun _ _ e => e)
        obtain ⟨v', W', h1, h2, h3, h4⟩ := append_many 28 26 i0 (.int .u32 0) 1 4 Try.underlying28 hi hz0 hz1 hz2 rfl (by omega) (.slice (some ⟨w.heap.size, 0, none⟩) 0 0) 0 [] hown ⟨g, o, none⟩ xs.length c (wvs xs) (by rw [wvs_length]; omega) (by
          intro j u hj
          rcases segW_cells hs with h | ⟨b, p, e, hb⟩
          · rw [h] at hj; cases hj
          · cases e
            rw [addr_add]
            exact hb j u hj) (wvs_one xs) (by unfold maxLen; omega) (by omega)
        rw [Nat.zero_add, List.nil_append] at h2
        refine ⟨v', W', h1, v', rfl, h2, ?_, hk1.trans h4 fun b hb e => ?_⟩
        · rcases h3 with h | ⟨k, h, hk⟩
          · right; exact ⟨w.heap.size, h, Nat.le_refl _⟩
          · right; refine ⟨k, h, ?_⟩; simp at hk; omega
        · simp [Value.ownBlock] at e
          omega
    obtain ⟨v', W', h1, h2⟩ := hal _ rfl
    obtain ⟨n, hn⟩ : ∃ n, n = xs.length := ⟨_, rfl⟩
    rw [← hn] at h1 hnil
    have H2 : Hid (CloneP _ _ _ _ _ _) := h2
    have H1 : Hid (∀ ty, _) := h1
    rw [← hn]
    rw [← hn] at H2
    clear h1 h2 hal hown hB hx hl hn hi hz0 hz1 hz2
    go_enter Try.func58, Try.ntmps58
    go_wp2_with (at_builtin; go_must (refine wpList_append_run rfl (.tmp 5) (.tmp 6) 28 28 rfl (.slice (some ⟨w.heap.size, 0, none⟩) 0 0) (.slice (some ad) n c) v' W' rfl rfl H1.out ?_; refine Hid.out ?_))
    unfold Hid
    go_wp2
    go_ret
    exact H2.out

end Go.Proofs.Ytadhldpeklkcmaa
