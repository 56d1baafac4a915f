import Derived.Test.YtljhdijledclhaaRa
namespace Go.Proofs.Ytljhdijledclhaa
open Go.RowKit
set_option linter.unusedVariables false

theorem zero_cells (n : Nat) : (Builtin.zeroCells (Value.int .u32 0).cells n).toList = wvs (List.replicate n 0) := by
  rw [wvs_rep]
  simp [Builtin.zeroCells, Value.cells]
  apply List.ext_getElem
  · simp
  · intro i h1 h2
    simp [Nat.mod_one]

set_option maxRecDepth 20000 in
set_option maxHeartbeats 1000000 in
theorem rof_in (a : Option Addr) (c n : Nat) (xs : List UInt32) (w : World) (hx : SegW w a xs) (hn : xs.length = n * 16) (h1 : 1 ≤ n) (h2 : n ≤ 1024) :
    Calls Try.prog 33 #[.slice a xs.length c] w fun e w' => e = .returned (.tuple #[.pointer (some ⟨w.heap.size, 0, none⟩), .int .i64 0]) ∧ Rm w' w.heap.size (w.heap.size + 1) xs ∧ Keeps (fun _ => False) w w' := by
  obtain ⟨W0, hW0⟩ : ∃ W0, W0 = w.alloc (.cells #[.slice none 0 0] 98) := ⟨_, rfl⟩
  have hk0 : Keeps (fun _ => False) w W0 := by rw [hW0]; exact (Keeps.refl _ w).alloc _
  have hB0 : Blk W0 w.heap.size [.slice none 0 0] 98 := by rw [hW0]; exact Blk.new w _ 98
  have hs0 : W0.heap.size = w.heap.size + 1 := by rw [hW0]; simp
  rcases hx.kept hk0 (fun _ _ e => e) with he | ⟨g, o, rfl, hc⟩
  · rw [he] at hn; simp at hn; omega
  obtain ⟨i0, hi, hz0, hz1, hz2⟩ := info_parts Try.info26
  have hap := run_append_nil (P := Try.prog) W0 27 27 26 i0 (.int .u32 0) Try.underlying27 hi hz0 ⟨g, o, none⟩ xs.length c (wvs xs) (by rw [hz1, wvs_length, Nat.mul_one]) (by
    intro j v hj
    have hlt : j < xs.length := by
      have := (List.getElem?_eq_some_iff.1 hj).1
      rw [wvs_length] at this
      exact this
    rw [wvs_get xs j hlt] at hj
    rw [addr_add, hc j hlt]; exact hj) (by omega) (by omega) (by rw [hz2]; omega)
  have hap2 : ∀ ty, (Builtin.append_ #[27, 27] ty #[.slice none 0 0, .slice (some ⟨g, o, none⟩) xs.length c]).run Try.prog W0 = _ := fun ty => hap
  obtain ⟨cap, hcap⟩ : ∃ cap, cap = grownCap W0 xs.length 0 26 := ⟨_, rfl⟩
  rw [← hcap] at hap2
  obtain ⟨W1, hW1⟩ : ∃ W1, W1 = W0.drew.alloc (.cells ((wvs xs).toArray ++ Builtin.zeroCells (Value.int .u32 0).cells (cap - xs.length)) 26) := ⟨_, rfl⟩
  rw [← hW1, hs0] at hap2
  have hk1 : Keeps (fun _ => False) w W1 := by rw [hW1]; exact hk0.drew.alloc _
  have hB1 : Blk W1 (w.heap.size + 1) (wvs xs ++ wvs (List.replicate (cap - xs.length) 0)) 26 := by
    rw [hW1]
    have h := Blk.new W0.drew ((wvs xs).toArray ++ Builtin.zeroCells (Value.int .u32 0).cells (cap - xs.length)) 26
    have e : W0.drew.heap.size = w.heap.size + 1 := hs0
    rw [e, Array.toList_append, zero_cells] at h
    exact h
  have hB2 : Blk W1 w.heap.size [.slice none 0 0] 98 := by rw [hW1]; exact hB0.drew.alloc _
  have hcl : xs.length ≤ cap := by rw [hcap]; exact grownCap_ge _ _ _ _
  have c0 := hB2.cell (i := 0) rfl
  have z0 := hB2.frozen 0
  have HF : Hid (Rm (W1.setCell ⟨w.heap.size, 0, none⟩ (.slice (some ⟨w.heap.size + 1, 0, none⟩) xs.length cap)) w.heap.size (w.heap.size + 1) xs ∧ Keeps (fun _ => False) w (W1.setCell ⟨w.heap.size, 0, none⟩ (.slice (some ⟨w.heap.size + 1, 0, none⟩) xs.length cap))) := by
    refine ⟨⟨by omega, ⟨cap, hcl, ?_⟩, ⟨_, hB1.setCell_ne (by show ¬ _; simp) _⟩, by omega⟩, hk1.setCell _ _ (fun h => by simp at h)⟩
    exact hB2.setCell 0 _
  obtain ⟨L, hL⟩ : ∃ L, L = xs.length := ⟨_, rfl⟩
  rw [← hL] at hap2 hn HF ⊢
  have q1 : ¬ ((16384 : Int) < (L : Int)) := by omega
  have q2 : ((L : Int) == 0) = false := by simp; omega
  have q3 : (Int.tmod (L : Int) 16 != 0) = false := by
    have : Int.tmod (L : Int) 16 = 0 := by rw [Int.tmod_eq_emod_of_nonneg (by omega)]; omega
    simp [this]
  have q4 : ((L : Int) % 16 != 0) = false := by
    have : (L : Int) % 16 = 0 := by omega
    simp [this]
  have HA : Hid (∀ ty, (Builtin.append_ #[27, 27] ty #[.slice none 0 0, .slice (some ⟨g, o, none⟩) L c]).run Try.prog W0 = .ok (.slice (some ⟨w.heap.size + 1, 0, none⟩) L cap) W1) := hap2
  have HW0 : Hid (W0 = _) := hW0
  have cB0 := hB0.cell (i := 0) rfl
  clear hn h1 h2 hL hx hap hap2 hc hi hz0 hz1 hz2 hcap hW1 hk1 hB1 hB2 hcl hs0 hk0 hB0 hW0
  obtain ⟨B, hB⟩ : ∃ B, B = w.heap.size := ⟨_, rfl⟩
  have HBB : Hid (B = w.heap.size) := hB
  rw [← hB] at c0 z0 HF HA cB0 ⊢
  clear hB
  go_enter Try.func33, Try.ntmps33
  go_wp2_with (at_builtin; go_must (refine wpList_append_run rfl (.tmp 23) (.tmp 24) 27 27 rfl (.slice none 0 0) (.slice (some ⟨g, o, none⟩) L c) (.slice (some ⟨B + 1, 0, none⟩) L cap) W1 rfl rfl (by rw [← HW0.out]; exact HA.out) ?_; refine Hid.out ?_))
  unfold Hid
  rw [← HBB.out]
  go_wp2
  go_ret2
  exact ⟨rfl, HF.out⟩

set_option maxHeartbeats 400000 in
theorem rof_long (a : Option Addr) (c L : Nat) (w : World) (h : (16384 : Int) < (L : Int)) :
    Calls Try.prog 33 #[.slice a L c] w fun e w' => e = .returned (.tuple #[.pointer none, .int .i64 2]) ∧ w' = w := by
  go_enter Try.func33, Try.ntmps33
  go_wp2
  go_ret2
  exact ⟨rfl, rfl⟩

set_option maxHeartbeats 400000 in
theorem rof_none (a : Option Addr) (c : Nat) (w : World) :
    Calls Try.prog 33 #[.slice a 0 c] w fun e w' => e = .returned (.tuple #[.pointer none, .int .i64 50]) ∧ w' = w := by
  go_enter Try.func33, Try.ntmps33
  go_wp2
  go_ret2
  exact ⟨rfl, rfl⟩

set_option maxHeartbeats 400000 in
theorem rof_odd (a : Option Addr) (c L : Nat) (w : World) (h : (L : Int) ≤ 16384) (h2 : L % 16 ≠ 0) :
    Calls Try.prog 33 #[.slice a L c] w fun e w' => e = .returned (.tuple #[.pointer none, .int .i64 50]) ∧ w' = w := by
  have q2 : ((L : Int) == 0) = false := by simp; omega
  have q3 : (Int.tmod (L : Int) 16 != 0) = true := by
    have : ¬ Int.tmod (L : Int) 16 = 0 := by rw [Int.tmod_eq_emod_of_nonneg (by omega)]; omega
    simp [this]
  have q4 : ((L : Int) % 16 != 0) = true := by
    have : ¬ (L : Int) % 16 = 0 := by omega
    simp [this]
  clear h2
  go_enter Try.func33, Try.ntmps33
  go_wp2
  go_ret2
  exact ⟨rfl, rfl⟩

end Go.Proofs.Ytljhdijledclhaa
