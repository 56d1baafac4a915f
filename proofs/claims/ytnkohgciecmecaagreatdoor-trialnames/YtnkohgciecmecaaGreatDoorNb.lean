import Derived.Test.YtnkohgciecmecaaGreatDoorNa
namespace Go.Proofs.YtnkohgciecmecaaGreatDoor
open Go.RowKit
set_option linter.unusedVariables false
set_option linter.unusedSimpArgs false
set_option maxRecDepth 6000

/-- A side that is none. -/
abbrev sd0 : Value := .agg #[.slice none 0 0, .slice none 0 0, .slice none 0 0, .pointer none, .slice none 0 0]
abbrev pl0 : Value := .agg #[.slice none 0 0, .slice none 0 0, .slice none 0 0]

theorem results_cell_one {P : Program} {fn : Func} {p u : Tmp} {ty : TypeId} (h : fn.results = #[.cell p ty, .tmp u]) (tmps : Array Value) (w : World) (g : Nat) (t : TypeId) (cs : Array Value) (fr : Nat × Nat) (d : TypeDesc)
    (hp : tmps.getD p undef = .pointer (some ⟨g, 0, none⟩)) (hg : w.heap[g]? = some (.cells cs t fr))
    (hu : P.underlying ty = some d) (hd : (match d with | .struct _ | .array _ _ => true | _ => false) = true) (hi : (P.info? ty).map (·.size) = some cs.size) :
    (results fn tmps).run P w = .ok (.tuple #[.agg cs, tmps.getD u undef]) w := by
  have hp' : tmps[p]?.getD undef = .pointer (some ⟨g, 0, none⟩) := by simpa using hp
  simp [results, h, hp', asAddr, run_loadVar_row w g t ty cs fr d hg hu hd hi]

set_option maxHeartbeats 4000000 in
theorem sideOf_zero (w : World) : Calls Tryz.prog 10 #[x0.v, pl0] w fun e w' => e = .returned (.tuple #[sd0, .int .i64 310]) ∧ Keeps (fun _ => False) w w' := by
  have hO1 := one_z w
  obtain ⟨C, hC⟩ : ∃ C, C = w.heap.size := ⟨_, rfl⟩
  obtain ⟨W0, hW0⟩ : ∃ W, W = x0.laid w := ⟨_, rfl⟩
  obtain ⟨W1, hW1⟩ : ∃ W, W = W0.alloc (.cells #[.slice none 0 0, .slice none 0 0, .slice none 0 0] 34) := ⟨_, rfl⟩
  obtain ⟨W, hW⟩ : ∃ W, W = W1.alloc (.cells #[.slice none 0 0, .slice none 0 0, .slice none 0 0, .pointer none, .slice none 0 0] 50) := ⟨_, rfl⟩
  have hz0 : W0.heap.size = C + 1 := by rw [hW0, hC]; simp [Cfg.laid]
  have hz1 : W1.heap.size = C + 1 + 1 := by rw [hW1]; simp [hz0]
  have k1 : Keeps (fun _ => False) W0 W1 := by rw [hW1]; exact (Keeps.refl _ _).alloc _
  have k2 : Keeps (fun _ => False) W1 W := by rw [hW]; exact (Keeps.refl _ _).alloc _
  have HO : Hid (One w x0 C C W ∧ Blk W (C + 1) [.slice none 0 0, .slice none 0 0, .slice none 0 0] 34 ∧ Blk W (C + 1 + 1) [.slice none 0 0, .slice none 0 0, .slice none 0 0, .pointer none, .slice none 0 0] 50 ∧ C = w.heap.size) := by
    refine ⟨?_, ?_, ?_, hC⟩
    · have : One w x0 C C W0 := by rw [hW0, hC]; exact hO1
      exact (this.kept k1).kept k2
    · have : Blk W1 (C + 1) [.slice none 0 0, .slice none 0 0, .slice none 0 0] 34 := by rw [hW1, ← hz0]; exact Blk.new _ _ _
      exact this.kept k2 fun h => h
    · rw [hW, ← hz1]; exact Blk.new _ _ _
  have HC := Hid.mkq (new_zero W)
  obtain ⟨q0, q1, q2, q3, q4, q5, q6⟩ := HO.out.1.cells
  have p0 := HO.out.2.1.cell (i := 0) rfl
  have p1 := HO.out.2.1.cell (i := 1) rfl
  have p2 := HO.out.2.1.cell (i := 2) rfl
  unfold Cfg.laid at hW0
  have HW : Hid (W = W1.alloc (.cells #[.slice none 0 0, .slice none 0 0, .slice none 0 0, .pointer none, .slice none 0 0] 50) ∧ W1 = W0.alloc (.cells #[.slice none 0 0, .slice none 0 0, .slice none 0 0] 34) ∧ W0 = w.alloc (.cells #[.int .i64 x0.frames, .int .i64 x0.major, .int .i64 x0.kernel, .int .i64 x0.room, .slice x0.ca x0.cs.length x0.cc, .slice x0.pa x0.ps.length x0.pc, .slice x0.ha x0.hs.length x0.hc] 29) ∧ C = w.heap.size) := ⟨hW, hW1, hW0, hC⟩
  clear hO1 hW hW1 hW0 hz0 hz1 k1 k2 hC
  go_enter Tryz.func10, Tryz.ntmps10
  go_upto_region 1 with fail
  rw [← HW.out.2.2.1, ← HW.out.2.1, ← HW.out.1, ← HW.out.2.2.2]
  clear HW
  go_wp2
  go_loopw [13] (fun i wr => i = .int .i64 0 ∧ wr = W) (fun _ _ => 0)
  case atStart => exact ⟨rfl, rfl⟩
  case round =>
    obtain ⟨rfl, rfl⟩ := hrel
    go_wp2_with fail
    refine HC.out.mono ?_
    rintro e w1 ⟨rfl, hK1⟩
    have hB1 := HO.out.2.2.1.kept hK1 fun h => h
    have c0 := hB1.cell (i := 0) rfl
    have c1 := hB1.cell (i := 1) rfl
    have c2 := hB1.cell (i := 2) rfl
    have c3 := hB1.cell (i := 3) rfl
    have c4 := hB1.cell (i := 4) rfl
    have f0 := hB1.frozen 0
    have f1 := hB1.frozen 1
    have f2 := hB1.frozen 2
    have f3 := hB1.frozen 3
    have f4 := hB1.frozen 4
    have HK : Hid (Keeps (fun _ => False) w w1 ∧ Blk w1 (C + 1 + 1) [.slice none 0 0, .slice none 0 0, .slice none 0 0, .pointer none, .slice none 0 0] 50 ∧ C = w.heap.size) := ⟨HO.out.1.keeps.trans hK1 fun _ _ h => h, hB1, HO.out.2.2.2⟩
    clear hK1 HC HO q0 q1 q2 q3 q4 q5 q6 p0 p1 p2 hB1
    go_wp2
    have hB := ((((HK.out.2.1.setCell 0 (.slice none 0 0)).setCell 1 (.slice none 0 0)).setCell 2 (.slice none 0 0)).setCell 3 (.pointer none)).setCell 4 (.slice none 0 0)
    refine bodyPost_ret (results_cell_one rfl _ _ (C + 1 + 1) 50 _ (0, 0) _ rfl hB Tryz.underlying50 rfl (by kernel_rfl)) rfl ?_
    have hg : C + 1 + 1 < w.heap.size → False := fun h => by have := HK.out.2.2; omega
    exact ⟨rfl, ((((HK.out.1.setCell ⟨C + 1 + 1, 0, none⟩ _ hg).setCell ⟨C + 1 + 1, 1, none⟩ _ hg).setCell ⟨C + 1 + 1, 2, none⟩ _ hg).setCell ⟨C + 1 + 1, 3, none⟩ _ hg).setCell ⟨C + 1 + 1, 4, none⟩ _ hg⟩
end Go.Proofs.YtnkohgciecmecaaGreatDoor
