import Derived.Test.YtnkfdmlpjgmckaaR
namespace Go.Proofs.Ytnkfdmlpjgmckaa
open Go.RowKit
set_option linter.unusedVariables false
set_option maxRecDepth 6000

/-- The small configuration, in its blocks. -/
structure Aw (w : World) (b : Nat) (w' : World) : Prop where
  c0 : Blk w' b win1.vs 40
  c1 : Blk w' (b + 1) (core1 b).vs 38
  c2 : Blk w' (b + 2) par0.vs 67
  c3 : Blk w' (b + 3) (cfg1 b).vs 27
  keeps : Keeps (fun _ => False) w w'
theorem Aw.kept {w : World} {b : Nat} {w' w'' : World} (h : Aw w b w') (hK : Keeps (fun _ => False) w' w'') : Aw w b w'' :=
  ⟨h.c0.kept hK fun h => h, h.c1.kept hK fun h => h, h.c2.kept hK fun h => h, h.c3.kept hK fun h => h, h.keeps.trans hK fun _ _ h => h⟩
theorem Aw.cin {w : World} {b : Nat} {w' : World} (h : Aw w b w') : (cfg1 b).In w' (b + 3) := cfg1_in h.c0 h.c1 h.c2
theorem Aw.n {w : World} {b : Nat} {w' : World} (h : Aw w b w') : b + 3 ≤ w'.heap.size := Nat.le_of_lt h.c3.lt
abbrev awW (w : World) : World := (((w.alloc (.cells #[.int .i64 0, .int .i64 60, .int .i64 40] 40)).alloc (.cells #[.slice (some ⟨w.heap.size, 0, none⟩) 1 1] 38)).alloc (.cells par0.vs.toArray 67)).alloc
  (.cells #[.int .i64 0, .int .i64 100, .int .i64 0, .int .i64 0, .slice (some ⟨w.heap.size + 1, 0, none⟩) 1 1, .slice (some ⟨w.heap.size + 1 + 1, 0, none⟩) 1 1, .slice none 0 0] 27)
theorem Aw.mk' (w : World) : Aw w w.heap.size (awW w) := by
  have s1 : (w.alloc (.cells #[.int .i64 0, .int .i64 60, .int .i64 40] 40)).heap.size = w.heap.size + 1 := by simp
  have s2 : ((w.alloc (.cells #[.int .i64 0, .int .i64 60, .int .i64 40] 40)).alloc (.cells #[.slice (some ⟨w.heap.size, 0, none⟩) 1 1] 38)).heap.size = w.heap.size + 2 := by simp
  have s3 : (((w.alloc (.cells #[.int .i64 0, .int .i64 60, .int .i64 40] 40)).alloc (.cells #[.slice (some ⟨w.heap.size, 0, none⟩) 1 1] 38)).alloc (.cells par0.vs.toArray 67)).heap.size = w.heap.size + 3 := by simp
  refine ⟨(((Blk.new w _ _).alloc _).alloc _).alloc _, ?_, ?_, ?_, ((((Keeps.refl _ _).alloc _).alloc _).alloc _).alloc _⟩
  · rw [← s1]; exact ((Blk.new _ _ _).alloc _).alloc _
  · rw [← s2]; exact (Blk.new _ _ _).alloc _
  · rw [← s3]; exact Blk.new _ _ _

set_option maxHeartbeats 1000000 in
theorem awake_any (w : World) : Calls Try.prog 9 #[] w fun e w' => e = .returned (.bool true) ∧ Keeps (fun _ => False) w w' := by
  obtain ⟨b, hb⟩ : ∃ b, b = w.heap.size := ⟨_, rfl⟩
  obtain ⟨W, hW⟩ : ∃ W, W = awW w := ⟨_, rfl⟩
  have HA : Hid (Aw w b W) := by rw [hW, hb]; exact Aw.mk' w
  unfold awW at hW
  go_enter Try.func9, Try.ntmps9
  go_upto_region 2 with (refine wpList_make_run rfl (.const (.int .i64 1)) (.const (.int .i64 1)) 24 rfl (.int .i64 1) (.int .i64 1) _ _ rfl rfl (run_make_par _) ?_)
  rw [← hW, ← hb]
  rw [show b + 1 + 1 = b + 2 from rfl, show b + 2 + 1 = b + 3 from rfl]
  clear hW hb
  have v0 : W.cell? ⟨b + 3, 0, none⟩ = some (.int .i64 0) := HA.out.c3.cell rfl
  have v1 : W.cell? ⟨b + 3, 1, none⟩ = some (.int .i64 100) := HA.out.c3.cell rfl
  have v2 : W.cell? ⟨b + 3, 2, none⟩ = some (.int .i64 0) := HA.out.c3.cell rfl
  have v3 : W.cell? ⟨b + 3, 3, none⟩ = some (.int .i64 0) := HA.out.c3.cell rfl
  have v4 : W.cell? ⟨b + 3, 4, none⟩ = some (.slice (some ⟨b + 1, 0, none⟩) 1 1) := HA.out.c3.cell rfl
  have v5 : W.cell? ⟨b + 3, 5, none⟩ = some (.slice (some ⟨b + 2, 0, none⟩) 1 1) := HA.out.c3.cell rfl
  have v6 : W.cell? ⟨b + 3, 6, none⟩ = some (.slice none 0 0) := HA.out.c3.cell rfl
  go_wp2_with fail
  refine (at_any (cfg1 b) 0 61 W (b + 3) HA.out.cin HA.out.n).mono ?_
  rintro e w1 ⟨pl, er, rfl, hR, hK⟩
  obtain ⟨rfl, rfl⟩ := cfg1_at b hR
  have HA1 : Hid (Aw w b w1) := HA.out.kept hK
  clear hK hR v0 v1 v2 v3 v4 v5 v6
  obtain ⟨D, hD⟩ : ∃ D, D = w1.heap.size := ⟨_, rfl⟩
  obtain ⟨W1, hW1⟩ : ∃ W1, W1 = w1.alloc (.cells #[.int .i64 0, .int .i64 0, .int .i64 61, .int .i64 100] 30) := ⟨_, rfl⟩
  have HW1 : Hid (Aw w b W1 ∧ Blk W1 D [.int .i64 0, .int .i64 0, .int .i64 61, .int .i64 100] 30) := by rw [hW1, hD]; exact ⟨HA1.out.kept ((Keeps.refl _ _).alloc _), Blk.new _ _ _⟩
  go_upto_region 3 with fail
  rw [← hW1, ← hD]
  clear hW1 hD
  have v0 : W1.cell? ⟨b + 3, 0, none⟩ = some (.int .i64 0) := HW1.out.1.c3.cell rfl
  have v1 : W1.cell? ⟨b + 3, 1, none⟩ = some (.int .i64 100) := HW1.out.1.c3.cell rfl
  have v2 : W1.cell? ⟨b + 3, 2, none⟩ = some (.int .i64 0) := HW1.out.1.c3.cell rfl
  have v3 : W1.cell? ⟨b + 3, 3, none⟩ = some (.int .i64 0) := HW1.out.1.c3.cell rfl
  have v4 : W1.cell? ⟨b + 3, 4, none⟩ = some (.slice (some ⟨b + 1, 0, none⟩) 1 1) := HW1.out.1.c3.cell rfl
  have v5 : W1.cell? ⟨b + 3, 5, none⟩ = some (.slice (some ⟨b + 2, 0, none⟩) 1 1) := HW1.out.1.c3.cell rfl
  have v6 : W1.cell? ⟨b + 3, 6, none⟩ = some (.slice none 0 0) := HW1.out.1.c3.cell rfl
  go_wp2_with fail
  refine (share_any (cfg1 b) 0 W1 (b + 3) HW1.out.1.cin HW1.out.1.n (by show (1 : Nat) ≤ _; omega)).mono ?_
  rintro e w2 ⟨r, er, rfl, hR, hK⟩
  obtain ⟨rfl, rfl⟩ := cfg1_share b hR
  have HA2 : Hid (Aw w b w2 ∧ Blk w2 D [.int .i64 0, .int .i64 0, .int .i64 61, .int .i64 100] 30) := ⟨HW1.out.1.kept hK, HW1.out.2.kept hK fun h => h⟩
  clear hK hR v0 v1 v2 v3 v4 v5 v6
  have v0 : w2.cell? ⟨b + 3, 0, none⟩ = some (.int .i64 0) := HA2.out.1.c3.cell rfl
  have v1 : w2.cell? ⟨b + 3, 1, none⟩ = some (.int .i64 100) := HA2.out.1.c3.cell rfl
  have v2 : w2.cell? ⟨b + 3, 2, none⟩ = some (.int .i64 0) := HA2.out.1.c3.cell rfl
  have v3 : w2.cell? ⟨b + 3, 3, none⟩ = some (.int .i64 0) := HA2.out.1.c3.cell rfl
  have v4 : w2.cell? ⟨b + 3, 4, none⟩ = some (.slice (some ⟨b + 1, 0, none⟩) 1 1) := HA2.out.1.c3.cell rfl
  have v5 : w2.cell? ⟨b + 3, 5, none⟩ = some (.slice (some ⟨b + 2, 0, none⟩) 1 1) := HA2.out.1.c3.cell rfl
  have v6 : w2.cell? ⟨b + 3, 6, none⟩ = some (.slice none 0 0) := HA2.out.1.c3.cell rfl
  have p0 := HA2.out.2.cell (i := 0) rfl
  have p1 := HA2.out.2.cell (i := 1) rfl
  have p2 := HA2.out.2.cell (i := 2) rfl
  have p3 := HA2.out.2.cell (i := 3) rfl
  go_wp2_with fail
  trace_state
  refine (rounds_any (cfg1 b) w2 (b + 3) HA2.out.1.cin HA2.out.1.n).mono ?_
  rintro e w3 ⟨rfl, hK⟩
  rw [cfg1_rounds b]
  have HA3 : Hid (Keeps (fun _ => False) w w3) := HA2.out.1.keeps.trans hK fun _ _ h => h
  clear hK v0 v1 v2 v3 v4 v5 v6 p0 p1 p2 p3
  go_wp2
  go_ret
  exact ⟨rfl, HA3.out⟩
end Go.Proofs.Ytnkfdmlpjgmckaa
