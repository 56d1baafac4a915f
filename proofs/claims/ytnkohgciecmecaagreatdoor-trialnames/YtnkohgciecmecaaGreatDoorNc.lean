import Derived.Test.YtnkohgciecmecaaGreatDoorNb
import Derived.Deep.CutBlock
namespace Go.Proofs.YtnkohgciecmecaaGreatDoor
open Go.RowKit
set_option linter.unusedVariables false
set_option linter.unusedSimpArgs false
set_option maxRecDepth 6000

/-- Two plays, the first one with these picks. -/
abbrev two (p : Value) : Value := .agg #[.slice none 0 0, .slice none 0 0, p, .slice none 0 0, .slice none 0 0, .slice none 0 0]

set_option maxHeartbeats 4000000 in
theorem duelOf_long (w : World) (a : Option Addr) : Calls Tryz.prog 6 #[x0.v, .int .i64 0, two (.slice a 65537 65537)] w fun e w' => e = .returned (.tuple #[.pointer none, .int .i64 2]) ∧ Keeps (fun _ => False) w w' := by
  obtain ⟨C, hC⟩ : ∃ C, C = w.heap.size := ⟨_, rfl⟩
  obtain ⟨W0, hW0⟩ : ∃ W, W = x0.laid w := ⟨_, rfl⟩
  obtain ⟨W, hW⟩ : ∃ W, W = W0.alloc (.cells #[.slice none 0 0, .slice none 0 0, .slice a 65537 65537, .slice none 0 0, .slice none 0 0, .slice none 0 0] 43) := ⟨_, rfl⟩
  have hz0 : W0.heap.size = C + 1 := by rw [hW0, hC]; simp [Cfg.laid]
  have k1 : Keeps (fun _ => False) w W0 := by rw [hW0]; exact (Keeps.refl _ _).alloc _
  have k2 : Keeps (fun _ => False) W0 W := by rw [hW]; exact (Keeps.refl _ _).alloc _
  have HO : Hid (Keeps (fun _ => False) w W ∧ Blk W (C + 1) [.slice none 0 0, .slice none 0 0, .slice a 65537 65537, .slice none 0 0, .slice none 0 0, .slice none 0 0] 43 ∧ C = w.heap.size) :=
    ⟨k1.trans k2 fun _ _ h => h, by rw [hW, ← hz0]; exact Blk.new _ _ _, hC⟩
  have p0 := HO.out.2.1.cell (i := 0) rfl
  have p1 := HO.out.2.1.cell (i := 1) rfl
  have p2 := HO.out.2.1.cell (i := 2) rfl
  have p3 := HO.out.2.1.cell (i := 3) rfl
  have p4 := HO.out.2.1.cell (i := 4) rfl
  have p5 := HO.out.2.1.cell (i := 5) rfl
  unfold Cfg.laid at hW0
  have HW : Hid (W = W0.alloc (.cells #[.slice none 0 0, .slice none 0 0, .slice a 65537 65537, .slice none 0 0, .slice none 0 0, .slice none 0 0] 43) ∧ W0 = w.alloc (.cells #[.int .i64 x0.frames, .int .i64 x0.major, .int .i64 x0.kernel, .int .i64 x0.room, .slice x0.ca x0.cs.length x0.cc, .slice x0.pa x0.ps.length x0.pc, .slice x0.ha x0.hs.length x0.hc] 29) ∧ C = w.heap.size) := ⟨hW, hW0, hC⟩
  clear hW hW0 hz0 k1 k2 hC
  have x0' : ∀ w' : World, (Instr.index 43 (two (.slice a 65537 65537)) (.int .i64 0)).run Tryz.prog w' = .ok (.agg #[.slice none 0 0, .slice none 0 0, .slice a 65537 65537]) w' := fun _ => by kernel_rfl
  go_enter Tryz.func6, Tryz.ntmps6
  go_upto_region 1 with fail
  rw [← HW.out.2.1, ← HW.out.1, ← HW.out.2.2]
  clear HW
  go_wp2
  go_loopw [18] (fun i wr => i = .int .i64 0 ∧ wr = W) (fun _ _ => 0)
  case atStart => exact ⟨rfl, rfl⟩
  case round =>
    obtain ⟨rfl, rfl⟩ := hrel
    go_wp2
    go_ret2
    exact ⟨rfl, HO.out.1.alloc _⟩

/-- Where the walk through both plays stands. -/
structure Dl (w : World) (C : Nat) (w' : World) : Prop where
  one : One w x0 C C w'
  blk : Blk w' (C + 1) [.slice none 0 0, .slice none 0 0, .slice none 0 0, .slice none 0 0, .slice none 0 0, .slice none 0 0] 43
  lo : C = w.heap.size
theorem Dl.kept {w : World} {C : Nat} {w' w'' : World} (h : Dl w C w') (k : Keeps (fun _ => False) w' w'') : Dl w C w'' := ⟨h.one.kept k, h.blk.kept k fun h => h, h.lo⟩

set_option maxHeartbeats 4000000 in
theorem duelOf_zero (w : World) : Calls Tryz.prog 6 #[x0.v, .int .i64 0, two (.slice none 0 0)] w fun e w' => e = .returned (.tuple #[.pointer none, .int .i64 310]) ∧ Keeps (fun _ => False) w w' := by
  have hO1 := one_z w
  obtain ⟨C, hC⟩ : ∃ C, C = w.heap.size := ⟨_, rfl⟩
  obtain ⟨W0, hW0⟩ : ∃ W, W = x0.laid w := ⟨_, rfl⟩
  obtain ⟨W, hW⟩ : ∃ W, W = W0.alloc (.cells #[.slice none 0 0, .slice none 0 0, .slice none 0 0, .slice none 0 0, .slice none 0 0, .slice none 0 0] 43) := ⟨_, rfl⟩
  have hz0 : W0.heap.size = C + 1 := by rw [hW0, hC]; simp [Cfg.laid]
  have k2 : Keeps (fun _ => False) W0 W := by rw [hW]; exact (Keeps.refl _ _).alloc _
  have HO : Hid (Dl w C W) :=
    ⟨by rw [← hC, ← hW0] at hO1; exact hO1.kept k2, by rw [hW, ← hz0]; exact Blk.new _ _ _, hC⟩
  have p0 := HO.out.blk.cell (i := 0) rfl
  have p1 := HO.out.blk.cell (i := 1) rfl
  have p2 := HO.out.blk.cell (i := 2) rfl
  have p3 := HO.out.blk.cell (i := 3) rfl
  have p4 := HO.out.blk.cell (i := 4) rfl
  have p5 := HO.out.blk.cell (i := 5) rfl
  unfold Cfg.laid at hW0
  have HW : Hid (W = W0.alloc (.cells #[.slice none 0 0, .slice none 0 0, .slice none 0 0, .slice none 0 0, .slice none 0 0, .slice none 0 0] 43) ∧ W0 = w.alloc (.cells #[.int .i64 x0.frames, .int .i64 x0.major, .int .i64 x0.kernel, .int .i64 x0.room, .slice x0.ca x0.cs.length x0.cc, .slice x0.pa x0.ps.length x0.pc, .slice x0.ha x0.hs.length x0.hc] 29) ∧ C = w.heap.size) := ⟨hW, hW0, hC⟩
  clear hW hW0 hz0 k2 hC hO1
  have x0' : ∀ w' : World, (Instr.index 43 (two (.slice none 0 0)) (.int .i64 0)).run Tryz.prog w' = .ok pl0 w' := fun _ => by kernel_rfl
  have x1' : ∀ w' : World, (Instr.index 43 (two (.slice none 0 0)) (.int .i64 1)).run Tryz.prog w' = .ok pl0 w' := fun _ => by kernel_rfl
  go_enter Tryz.func6, Tryz.ntmps6
  go_upto_region 1 with fail
  rw [← HW.out.2.1, ← HW.out.1, ← HW.out.2.2]
  clear HW
  go_wp2
  go_loopw [18] (fun i wr => ∃ j : Nat, j ≤ 2 ∧ i = .int .i64 j ∧ Dl w C wr) (fun i _ => 2 - (intOf i).toNat)
  case atStart => exact ⟨0, by omega, rfl, HO.out⟩
  case round =>
    obtain ⟨j, hj, rfl, hD⟩ := hrel
    have HD : Hid (Dl w C wr) := hD
    clear hD
    have hc : j = 0 ∨ j = 1 ∨ j = 2 := by omega
    rcases hc with rfl | rfl | rfl
    · clear hj
      go_wp2
      go_roundw
      case rel => exact ⟨1, by omega, rfl, HD.out.kept ((Keeps.refl _ _).alloc _)⟩
      case measure => simp [intOf]
    · clear hj
      go_wp2
      go_roundw
      case rel => exact ⟨2, by omega, rfl, HD.out.kept ((Keeps.refl _ _).alloc _)⟩
      case measure => simp [intOf]
    · clear hj
      have r0 := HD.out.blk.cell (i := 0) rfl
      have r1 := HD.out.blk.cell (i := 1) rfl
      have r2 := HD.out.blk.cell (i := 2) rfl
      have r3 := HD.out.blk.cell (i := 3) rfl
      have r4 := HD.out.blk.cell (i := 4) rfl
      have r5 := HD.out.blk.cell (i := 5) rfl
      have hlt := HD.out.blk.lt
      clear p0 p1 p2 p3 p4 p5
      go_wp2
      have HE : Hid (Dl w C (wr.alloc (.cells #[.int .i64 0, .slice none 0 0, .slice none 0 0, .slice none 0 0, .slice none 0 0, .pointer none, .slice none 0 0, .slice none 0 0, .slice none 0 0, .slice none 0 0, .pointer none, .slice none 0 0] 53))) := HD.out.kept ((Keeps.refl _ _).alloc _)
      generalize wr.alloc (.cells #[.int .i64 0, .slice none 0 0, .slice none 0 0, .slice none 0 0, .slice none 0 0, .pointer none, .slice none 0 0, .slice none 0 0, .slice none 0 0, .slice none 0 0, .pointer none, .slice none 0 0] 53) = W2 at HE ⊢
      generalize wr.heap.size = D
      clear r0 r1 r2 r3 r4 r5 hlt
      go_loopw [30] (fun i wr => i = .int .i64 0 ∧ wr = W2) (fun _ _ => 0)
      case atStart => exact ⟨rfl, rfl⟩
      case round =>
        obtain ⟨rfl, rfl⟩ := hrel
        have HS := Hid.mkq (sideOf_zero (wr.alloc (.cells #[.slice none 0 0, .slice none 0 0, .slice none 0 0] 34)))
        obtain ⟨q0, q1, q2, q3, q4, q5, q6⟩ := HE.out.one.cells
        have hlt := HE.out.blk.lt
        have hlt2 : C < wr.heap.size := by omega
        go_wp2_with fail
        refine HS.out.mono ?_
        rintro e w1 ⟨rfl, hK1⟩
        have HF : Hid (Keeps (fun _ => False) w w1) := (HE.out.one.keeps.trans ((Keeps.refl (fun _ => False) _).alloc _) fun _ _ h => h).trans hK1 fun _ _ h => h
        clear hK1 HS HE q0 q1 q2 q3 q4 q5 q6 hlt hlt2 HO HD
        go_wp2
        go_ret2
        exact ⟨rfl, HF.out.alloc _⟩
end Go.Proofs.YtnkohgciecmecaaGreatDoor
