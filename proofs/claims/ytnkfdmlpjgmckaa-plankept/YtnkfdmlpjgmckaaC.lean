import Derived.Test.YtnkfdmlpjgmckaaB
namespace Go.Proofs.Ytnkfdmlpjgmckaa
open Go.RowKit
set_option linter.unusedVariables false
set_option maxRecDepth 6000

structure Spn where
  core : Int
  win : Int
  fr : Int
  til : Int
deriving DecidableEq
instance : Inhabited Spn := ⟨⟨0, 0, 0, 0⟩⟩
abbrev Spn.vs (x : Spn) : List Value := [.int .i64 x.core, .int .i64 x.win, .int .i64 x.fr, .int .i64 x.til]
abbrev Spn.v (x : Spn) : Value := .agg #[.int .i64 x.core, .int .i64 x.win, .int .i64 x.fr, .int .i64 x.til]
/-- The windows of a core: when each begins and ends. -/
def laid (core : Int) (l : List Win) : List Spn := (List.range l.length).map fun (i : Nat) => (⟨core, (i : Int), beg l i, beg l (i + 1)⟩ : Spn)
theorem laid_length (core : Int) (l : List Win) : (laid core l).length = l.length := by simp [laid]
theorem laid_get {core : Int} {l : List Win} {j : Nat} (hj : j < l.length) : (laid core l)[j]? = some ⟨core, j, beg l j, beg l (j + 1)⟩ := by
  simp [laid, hj]

theorem info_parts {t : TypeId} {z : Value} {n b : Nat} (h : (Try.prog.info? t).map (fun i => (i.zero, i.size, i.bytes)) = some (some z, n, b)) : ∃ i, Try.prog.info? t = some i ∧ i.zero = some z ∧ i.size = n ∧ i.bytes = b := by
  obtain ⟨i, hi, he⟩ := Option.map_eq_some_iff.1 h
  simp only [Prod.mk.injEq] at he
  exact ⟨i, hi, he.1, he.2.1, he.2.2⟩
theorem Try.info69 : (Try.prog.info? 69).map (fun i => (i.zero, i.size, i.bytes)) = some (some (.agg #[.int .i64 0, .int .i64 0, .int .i64 0, .int .i64 0]), 4, 32) := by kernel_rfl
theorem run_make_spans (w : World) (n : Nat) (hn : n ≤ 1000000000) :
    (Instr.makeSlice 44 (.int .i64 n) (.int .i64 n)).run Try.prog w = .ok (.slice (some ⟨w.heap.size, 0, none⟩) n n) (w.alloc (.cells (List.replicate (n * 4) (.int .i64 0)).toArray 69)) := by
  obtain ⟨i0, hi, hz0, hz1, hz2⟩ := info_parts Try.info69
  have h := run_make (P := Try.prog) w 44 69 i0 _ Try.underlying44 hi hz0 .i64 .i64 n n (by omega) (by omega) (by rw [hz2]; omega) (by omega)
  rw [Int.toNat_natCast, hz1] at h
  have e : ∀ m, madeCells (Value.agg #[Value.int .i64 0, Value.int .i64 0, Value.int .i64 0, Value.int .i64 0]).cells m = (List.replicate m (Value.int .i64 0)).toArray := by
    intro m
    apply Array.ext'
    apply List.ext_getElem?
    intro i
    simp [madeCells, List.getElem?_replicate]
    by_cases hi : i < m
    · simp [hi, Value.cells]
      have : i % 4 = 0 ∨ i % 4 = 1 ∨ i % 4 = 2 ∨ i % 4 = 3 := by omega
      rcases this with h | h | h | h <;> simp [h]
    · simp [hi]
  rw [e] at h
  exact h

set_option maxHeartbeats 1000000 in
theorem lay_any (core : Int) (a : Option Addr) (c : Nat) (l : List Win) (w : World) (h1 : SegA Win.vs 3 w a l) (hl1 : l.length ≤ c ∧ c ≤ maxLen) (hm : may l = true) :
    Calls Try.prog 52 #[.int .i64 core, .slice a l.length c] w fun e w' => ∃ g, e = .returned (.slice (some ⟨g, 0, none⟩) l.length l.length) ∧ w.heap.size ≤ g ∧ g < w'.heap.size ∧ SegA Spn.vs 4 w' (some ⟨g, 0, none⟩) (laid core l) ∧ Keeps (fun _ => False) w w' := by
  obtain ⟨L, hL⟩ : ∃ L, l.length = L := ⟨_, rfl⟩
  have HS : Hid (SegA Win.vs 3 w a l ∧ l.length = L ∧ may l = true) := ⟨h1, hL, hm⟩
  have hL16 := (may_iff.1 hm).2.1
  rw [hL] at hl1 hL16 ⊢
  have hc1 : (L : Int) ≤ c := by omega
  have hc3 : (c : Int) ≤ 9223372036854775807 := by unfold maxLen at hl1; omega
  clear h1 hL hl1 hm
  go_enter Try.func52, Try.ntmps52
  have HR := run_make_spans w L (by omega)
  obtain ⟨g, hg⟩ : ∃ g, g = w.heap.size := ⟨_, rfl⟩
  obtain ⟨W, hW⟩ : ∃ W, W = w.alloc (.cells (List.replicate (L * 4) (.int .i64 0)).toArray 69) := ⟨_, rfl⟩
  have HB : Hid (Blk W g (List.replicate (L * 4) (.int .i64 0)) 69 ∧ Keeps (fun _ => False) w W ∧ w.heap.size ≤ g) := by rw [hW, hg]; exact ⟨Blk.new _ _ _, (Keeps.refl _ _).alloc _, Nat.le_refl _⟩
  rw [← hW, ← hg] at HR
  clear hW hg
  go_wp2_with (refine wpList_make_run rfl _ _ _ rfl _ _ _ _ rfl rfl HR ?_)
  clear HR
  go_loopw [6, 15] (fun z i wr => ∃ (j : Nat) (cs : List Value), j ≤ L ∧ i = .int .i64 j ∧ z = .int .i64 (beg l j) ∧ cs.length = L * 4 ∧ (∀ i x, i < j → (laid core l)[i]? = some x → ∀ k v, x.vs[k]? = some v → cs[i * 4 + k]? = some v) ∧ Blk wr g cs 69 ∧ Keeps (fun _ => False) w wr) (fun _ i _ => L - (intOf i).toNat)
  case atStart => exact ⟨0, _, by omega, rfl, rfl, by simp, fun _ _ h => absurd h (Nat.not_lt_zero _), HB.out.1, HB.out.2.1⟩
  case round =>
    obtain ⟨j, cs, hj, rfl, rfl, hcs, hall, hB, hK⟩ := hrel
    by_cases hlt : j < L
    · obtain ⟨y, hy⟩ : ∃ y, l[j]? = some y := ⟨_, List.getElem?_eq_getElem (by have := HS.out.2.1; omega)⟩
      obtain ⟨g1, o1, rfl, hg1⟩ := (HS.out.1.kept hK fun _ _ _ e => e).at hy
      have y0 := hg1 0 _ rfl
      rw [Nat.add_zero] at y0
      have y1 := hg1 1 _ rfl
      have y2 := hg1 2 _ rfl
      obtain ⟨B, hBd⟩ : ∃ B, beg l j = B := ⟨_, rfl⟩
      have hb := beg_bound (may_iff.1 HS.out.2.2).2.2 j
      have hy4 := Win.okB_iff.1 ((may_iff.1 HS.out.2.2).2.2 _ (List.mem_of_getElem? hy))
      have hbs := beg_succ hy
      rw [hBd] at hb hbs ⊢
      have hB1 : 0 ≤ B ∧ B ≤ 524288 := by have := HS.out.2.1; omega
      obtain ⟨p, u, s⟩ := y
      dsimp only at hy4 hbs
      have q1 : IntKind.i64.wrap (B + u) = B + u := by rw [IntKind.wrap_i64]; omega
      have q2 : IntKind.i64.wrap (B + u + s) = B + u + s := by rw [IntKind.wrap_i64]; omega
      obtain ⟨W1, hW1⟩ : ∃ W1, W1 = wr.alloc (.cells #[.int .i64 p, .int .i64 u, .int .i64 s] 40) := ⟨_, rfl⟩
      obtain ⟨C, hC⟩ : ∃ C, C = wr.heap.size := ⟨_, rfl⟩
      have HK : Hid (Keeps (fun _ => False) w wr ∧ Blk wr g cs 69 ∧ beg l (j + 1) = B + (u + s) ∧ beg l j = B ∧ (∀ i x, i < j → (laid core l)[i]? = some x → ∀ k v, x.vs[k]? = some v → cs[i * 4 + k]? = some v)) := ⟨hK, hB, hbs, hBd, hall⟩
      clear hy hg1 hK hB hbs hBd hall hb
      go_upto_region 7 with fail
      rw [← hW1, ← hC]
      have HW1 : Hid (Blk W1 g cs 69 ∧ Keeps (fun _ => False) w W1) := by rw [hW1]; exact ⟨HK.out.2.1.alloc _, HK.out.1.alloc _⟩
      clear y0 y1 y2 hW1 hC
      have d : ∀ k, k < 4 → ∃ v, W1.cell? ⟨g, j * 4 + k, none⟩ = some v := fun k hk => ⟨_, HW1.out.1.cell (List.getElem?_eq_getElem (by omega))⟩
      obtain ⟨v0, d0⟩ := d 0 (by omega)
      obtain ⟨v1, d1⟩ := d 1 (by omega)
      obtain ⟨v2, d2⟩ := d 2 (by omega)
      obtain ⟨v3, d3⟩ := d 3 (by omega)
      rw [Nat.add_zero] at d0
      have f0 := HW1.out.1.frozen (j * 4)
      have f1 := HW1.out.1.frozen (j * 4 + 1)
      have f2 := HW1.out.1.frozen (j * 4 + 2)
      have f3 := HW1.out.1.frozen (j * 4 + 3)
      clear d
      go_wp2
      go_roundw
      case rel =>
        have hg := HB.out.2.2
        refine ⟨j + 1, (((cs.set (j * 4) (.int .i64 core)).set (j * 4 + 1) (.int .i64 j)).set (j * 4 + 2) (.int .i64 B)).set (j * 4 + 3) (.int .i64 (B + u + s)), by omega, by go_num, by rw [HK.out.2.2.1, Int.add_assoc], by simp [hcs], ?_, ?_, ?_⟩
        · intro i x hi hx k v hv
          have hk4 : k < 4 := (List.getElem?_eq_some_iff.1 hv).1
          by_cases e : i = j
          · subst e
            rw [laid_get (by have := HS.out.2.1; omega)] at hx
            simp only [Option.some.injEq] at hx
            subst hx
            have hq := HK.out.2.2.1
            have hq2 := HK.out.2.2.2.1
            rw [hq, hq2] at hv
            obtain rfl | rfl | rfl | rfl : k = 0 ∨ k = 1 ∨ k = 2 ∨ k = 3 := by omega
            all_goals
              simp at hv
              subst hv
              simp [List.getElem?_set, hcs]
              try omega
          · have := HK.out.2.2.2.2 i x (by omega) hx k v hv
            rw [List.getElem?_set_ne (by omega), List.getElem?_set_ne (by omega), List.getElem?_set_ne (by omega), List.getElem?_set_ne (by omega)]
            exact this
        · exact (((HW1.out.1.setCell _ _).setCell _ _).setCell _ _).setCell _ _
        · exact (((HW1.out.2.setCell _ _ fun h => absurd h (by dsimp only; omega)).setCell _ _ fun h => absurd h (by dsimp only; omega)).setCell _ _ fun h => absurd h (by dsimp only; omega)).setCell _ _ fun h => absurd h (by dsimp only; omega)
      case measure => simp [intOf]; omega
    · obtain rfl : j = L := by omega
      have HK : Hid (Keeps (fun _ => False) w wr ∧ Blk wr g cs 69 ∧ (∀ i x, i < j → (laid core l)[i]? = some x → ∀ k v, x.vs[k]? = some v → cs[i * 4 + k]? = some v)) := ⟨hK, hB, hall⟩
      clear hK hB hall
      go_wp2
      go_ret
      refine ⟨g, rfl, HB.out.2.2, HK.out.2.1.lt, .inr ⟨g, 0, rfl, fun i x hi k v hv => ?_⟩, HK.out.1⟩
      rw [Nat.zero_add]
      refine HK.out.2.1.cell (HK.out.2.2 i x ?_ hi k v hv)
      have h3 := (List.getElem?_eq_some_iff.1 hi).1
      rw [laid_length, HS.out.2.1] at h3
      exact h3
end Go.Proofs.Ytnkfdmlpjgmckaa
