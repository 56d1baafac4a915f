import Derived.Test.YtegediccgnoecaaDoorDec
namespace Go.Proofs.YtegediccgnoecaaDoor
open Go.RowKit
set_option linter.unusedVariables false

theorem aw1 : encW 5 3 1 2 0 = 348422144 ∧ encE 5 3 1 2 0 = 0 := by decide +kernel
theorem aw2 : decOk 1745092607 = true ∧ rdOp 1745092607 = 26 ∧ rdA 1745092607 = 0 ∧ rdB 1745092607 = 0 ∧ rdC 1745092607 = 0 ∧ rdI 1745092607 = -1 := by decide +kernel
theorem aw_dec (w : World) (h : Tabs w) : Calls Tryd.prog 20 #[.int .u32 1745092607] w fun e w' => e = .returned (.tuple #[.agg #[.int .i64 26, .int .i64 0, .int .i64 0, .int .i64 0, .int .i64 (-1)], .int .i64 0]) ∧ Below w.heap.size w w' := by
  have := dec_any 1745092607 (by omega) w h
  obtain ⟨e1, e2, e3, e4, e5, e6⟩ := aw2
  simp only [decV, decE, e1, e2, e3, e4, e5, e6, if_true, insV] at this
  exact this
theorem aw_enc (w : World) (h : Tabs w) : Calls Tryd.prog 18 #[.agg #[.int .i64 5, .int .i64 3, .int .i64 1, .int .i64 2, .int .i64 0]] w fun e w' => e = .returned (.tuple #[.int .u32 348422144, .int .i64 0]) ∧ Below w.heap.size w w' := by
  have := enc_any 5 3 1 2 0 w h
  rw [aw1.1, aw1.2] at this
  exact this
theorem aw_form (w : World) (h : Tabs w) : Calls Tryd.prog 10 #[.int .i64 19] w fun e w' => e = .returned (.int .i64 6) ∧ w' = w := form_any 19 w h

set_option maxHeartbeats 1000000 in
theorem awake_any (w : World) (h : Tabs w) : Calls Tryd.prog 17 #[] w fun e w' => e = .returned (.bool true) ∧ Below w.heap.size w w' := by
  have HT : Hid (Tabs w) := h
  clear h
  go_enter Tryd.func17, Tryd.ntmps17
  go_wp2_with fail
  refine (aw_enc _ HT.out).mono ?_
  rintro e w1 ⟨rfl, hb⟩
  have HB : Hid (Below _ _ _) := hb
  have HT1 : Hid (Tabs _) := HT.out.keep hb
  clear hb
  go_wp2_with fail
  refine (aw_dec _ HT1.out).mono ?_
  rintro e w2 ⟨rfl, hb⟩
  have HB2 : Hid (Below _ _ _) := below_all HB.out hb
  have HT2 : Hid (Tabs _) := HT1.out.keep hb
  clear hb
  go_wp2_with fail
  refine (aw_form _ (HT2.out.keep (below_new w2 _))).mono ?_
  rintro e w3 ⟨rfl, hw⟩
  have HB3 : Hid (Below w.heap.size w w3) := by rw [hw]; exact below_all HB2.out (below_new w2 _)
  clear hw
  go_wp2
  go_ret
  exact ⟨rfl, HB3.out⟩
end Go.Proofs.YtegediccgnoecaaDoor
