import Derived.Test.YtegediccgnoecaaDoorFind
namespace Go.Proofs.YtegediccgnoecaaDoor
open Go.RowKit
set_option linter.unusedVariables false

theorem FindIs.two {s : ByteArray} {v : Value} (h : FindIs s v) : ∃ (j : Int) (b : Bool), v = .tuple #[.int .i64 j, .bool b] := by
  rcases h with ⟨j, _, _, _, _, rfl⟩ | ⟨_, rfl⟩
  · exact ⟨_, _, rfl⟩
  · exact ⟨_, _, rfl⟩

set_option maxHeartbeats 1000000 in
theorem isaFinds_any (s : ByteArray) (w : World) (h : Tabs w) : Calls Tryd.prog 4 #[.string s] w fun e w' => e = .returned (.bool true) ∧ Below w.heap.size w w' := by
  have HT : Hid (Tabs w) := h
  clear h
  go_enter Tryd.func4, Tryd.ntmps4
  go_wp2_with fail
  refine (find_any s _ HT.out).mono ?_
  rintro e w1 ⟨v, rfl, hf, hw⟩
  obtain rfl := hw.symm
  obtain ⟨j, b, rfl⟩ := hf.two
  have HF : Hid (FindIs _ _) := hf
  clear hw hf
  go_wp2_with fail
  refine (rfind_any s _).mono ?_
  rintro e w2 ⟨v, rfl, hf, hb⟩
  obtain rfl := HF.out.same hf
  have HB : Hid (Below _ _ _) := hb
  have HT2 : Hid (Tabs _) := HT.out.keep hb
  clear hb hf HF HT
  go_wp2_with fail
  refine (awake_any _ HT2.out).mono ?_
  rintro e w3 ⟨rfl, hb⟩
  have HB3 : Hid (Below _ _ _) := below_all HB.out hb
  clear hb
  go_wp2
  go_ret
  exact ⟨rfl, HB3.out⟩

set_option maxHeartbeats 1000000 in
theorem isaTable_any (n : Int) (w : World) (h : Tabs w) : Calls Tryd.prog 3 #[.int .i64 n] w fun e w' => e = .returned (.bool true) ∧ Below w.heap.size w w' := by
  have N1 := fun w h => name_any n w h
  have N2 := fun w => rname_any n w
  have F1 := fun w h => form_any n w h
  have F2 := fun w => rform_any n w
  have C1 := fun w h => cost_any n w h
  have C2 := fun w => rcost_any n w
  revert N1 N2 F1 F2 C1 C2
  generalize nameOf n = nm
  generalize formOf n = fm
  generalize costOf n = co
  intro N1 N2 F1 F2 C1 C2
  have HN1 : Hid (∀ w h, Calls _ _ _ w _) := N1
  have HN2 : Hid (∀ w, Calls _ _ _ w _) := N2
  have HF1 : Hid (∀ w h, Calls _ _ _ w _) := F1
  have HF2 : Hid (∀ w, Calls _ _ _ w _) := F2
  have HC1 : Hid (∀ w h, Calls _ _ _ w _) := C1
  have HC2 : Hid (∀ w, Calls _ _ _ w _) := C2
  have HT : Hid (Tabs w) := h
  clear h N1 N2 F1 F2 C1 C2
  go_enter Tryd.func3, Tryd.ntmps3
  go_wp2_with fail
  refine (HN1.out _ HT.out).mono ?_
  rintro e w1 ⟨rfl, hw⟩
  obtain rfl := hw.symm
  clear hw
  go_wp2_with fail
  refine (HF1.out _ HT.out).mono ?_
  rintro e w1 ⟨rfl, hw⟩
  obtain rfl := hw.symm
  clear hw
  go_wp2_with fail
  refine (HF2.out _).mono ?_
  rintro e w1 ⟨rfl, hb⟩
  have HB : Hid (Below _ _ _) := hb
  clear hb
  go_wp2_with fail
  refine (HN2.out _).mono ?_
  rintro e w2 ⟨rfl, hb⟩
  have HB2 : Hid (Below _ _ _) := below_all HB.out hb
  have HT2 : Hid (Tabs _) := HT.out.keep HB2.out
  clear hb HB HT
  go_wp2_with fail
  refine (HC1.out _ HT2.out).mono ?_
  rintro e w1 ⟨rfl, hw⟩
  obtain rfl := hw.symm
  clear hw
  go_wp2_with fail
  refine (HC2.out _).mono ?_
  rintro e w3 ⟨rfl, hb⟩
  have HB3 : Hid (Below _ _ _) := below_all HB2.out hb
  have HT3 : Hid (Tabs _) := HT2.out.keep hb
  clear hb HB2 HT2 HN1 HN2 HF1 HF2 HC1 HC2
  go_wp2_with fail
  refine (find_any nm _ HT3.out).mono ?_
  rintro e w4 ⟨v, rfl, hf, hw⟩
  obtain rfl := hw.symm
  obtain ⟨j, b, rfl⟩ := hf.two
  have HF : Hid (FindIs _ _) := hf
  clear hw hf
  go_wp2_with fail
  refine (rfind_any nm _).mono ?_
  rintro e w5 ⟨v, rfl, hf, hb⟩
  obtain rfl := HF.out.same hf
  have HB5 : Hid (Below _ _ _) := below_all HB3.out hb
  have HT5 : Hid (Tabs _) := HT3.out.keep hb
  clear hb hf HF HT3 HB3
  go_wp2_with fail
  refine (awake_any _ HT5.out).mono ?_
  rintro e w6 ⟨rfl, hb⟩
  have HB6 : Hid (Below _ _ _) := below_all HB5.out hb
  clear hb
  go_wp2
  go_ret
  exact ⟨rfl, HB6.out⟩
end Go.Proofs.YtegediccgnoecaaDoor
