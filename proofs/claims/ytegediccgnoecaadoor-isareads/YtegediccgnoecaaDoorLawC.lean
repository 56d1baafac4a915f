import Derived.Test.YtegediccgnoecaaDoorRDecAll
namespace Go.Proofs.YtegediccgnoecaaDoor
open Go.RowKit
set_option linter.unusedVariables false

theorem decV_ins (x : Nat) : ∃ op a b c i : Int, decV x = insV op a b c i := by
  unfold decV
  split
  · exact ⟨_, _, _, _, _, rfl⟩
  · exact ⟨0, 0, 0, 0, 0, rfl⟩

set_option maxHeartbeats 1000000 in
theorem isaReads_any (x : Nat) (hx : x < 4294967296) (w : World) (h : Tabs w) : Calls Tryd.prog 6 #[.int .u32 x] w fun e w' => e = .returned (.bool true) ∧ Below w.heap.size w w' := by
  have D1 := fun w h => dec_any x hx w h
  have D2 := fun w => rdec_any x hx w
  obtain ⟨op, a, b, c, i, e⟩ := decV_ins x
  rw [e] at D1 D2
  clear e
  revert D1 D2
  generalize decE x = er
  unfold insV
  intro D2 D1
  have HD1 : Hid (∀ w h, Calls _ _ _ w _) := D1
  have HD2 : Hid (∀ w, Calls _ _ _ w _) := D2
  have HT : Hid (Tabs w) := h
  clear h D1 D2
  go_enter Tryd.func6, Tryd.ntmps6
  go_wp2_with fail
  refine (HD1.out _ HT.out).mono ?_
  rintro e w1 ⟨rfl, hb⟩
  have HB : Hid (Below _ _ _) := hb
  clear hb
  go_wp2_with fail
  refine (HD2.out _).mono ?_
  rintro e w2 ⟨rfl, hb⟩
  have hblk := (Blk.new w1 [.int .i64 op, .int .i64 a, .int .i64 b, .int .i64 c, .int .i64 i] 30).below hb
  have HB2 : Hid (Below _ _ _) := below_all (below_all HB.out (below_new w1 _)) hb
  have HT2 : Hid (Tabs _) := HT.out.keep HB2.out
  obtain ⟨g, hg⟩ : ∃ g, g = w1.heap.size := ⟨_, rfl⟩
  rw [← hg] at hblk
  rw [← hg]
  have c0 := hblk.cell 0 rfl
  have c1 := hblk.cell 1 rfl
  have c2 := hblk.cell 2 rfl
  have c3 := hblk.cell 3 rfl
  have c4 := hblk.cell 4 rfl
  have hgl := hblk.lt
  clear hb hblk hg HB HT
  go_wp2_with fail
  refine (awake_any _ (HT2.out.keep (below_new _ _))).mono ?_
  rintro e w3 ⟨rfl, hb⟩
  have HB3 : Hid (Below _ _ _) := below_all (below_all HB2.out (below_new w2 _)) hb
  clear hb
  go_wp2
  go_ret
  exact ⟨rfl, HB3.out⟩
end Go.Proofs.YtegediccgnoecaaDoor
