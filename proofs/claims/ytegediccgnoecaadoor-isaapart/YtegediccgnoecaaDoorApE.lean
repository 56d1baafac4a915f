import Derived.Test.YtegediccgnoecaaDoorApA
namespace Go.Proofs.YtegediccgnoecaaDoor
open Go.RowKit
set_option linter.unusedVariables false

set_option maxHeartbeats 2000000 in
theorem apart_eq (op a b c i op' a b c i wi wj fi fj : Int) (ni nj : ByteArray) (w : World) (h : Tabs w)
    (EI : ∀ w, Tabs w → Calls Tryd.prog 18 #[insV op a b c i] w fun e w' => e = .returned (.tuple #[.int .u32 wi, .int .i64 0]) ∧ Below w.heap.size w w')
    (EJ : ∀ w, Tabs w → Calls Tryd.prog 18 #[insV op a b c i] w fun e w' => e = .returned (.tuple #[.int .u32 wi, .int .i64 0]) ∧ Below w.heap.size w w')
    (FI : ∀ w, Tabs w → Calls Tryd.prog 10 #[.int .i64 op] w fun e w' => e = .returned (.int .i64 fi) ∧ w' = w)
    (NI : ∀ w, Tabs w → Calls Tryd.prog 9 #[.int .i64 op] w fun e w' => e = .returned (.string ni) ∧ w' = w)
    (hi0 : (fi != 0) = true) :
    Calls Tryd.prog 8 #[insV op a b c i, insV op a b c i] w fun e w' => e = .returned (.bool true) ∧ Below w.heap.size w w' := by
  unfold insV at *
  have HEI : Hid (∀ w, Tabs w → Calls _ _ _ w _) := EI
  have HEJ : Hid (∀ w, Tabs w → Calls _ _ _ w _) := EJ
  have HFI : Hid (∀ w, Tabs w → Calls _ _ _ w _) := FI
  have HNI : Hid (∀ w, Tabs w → Calls _ _ _ w _) := NI
  have HT : Hid (Tabs w) := h
  clear EI EJ FI NI h
  go_enter Tryd.func8, Tryd.ntmps8
  go_wp2_with fail
  refine (HEI.out _ (HT.out.keep (below_all (below_new w _) (below_new _ _)))).mono ?_
  rintro e w1 ⟨rfl, hb⟩
  have hb2 := boxed2 (cs := [.int .i64 op, .int .i64 a, .int .i64 b, .int .i64 c, .int .i64 i]) (ds := [.int .i64 op, .int .i64 a, .int .i64 b, .int .i64 c, .int .i64 i]) (t := 30) (t' := 30) HT.out rfl
  obtain ⟨ht, hbel, g, hg, k1, k2⟩ := hb2
  have HB1 : Hid (_ ∧ _ ∧ _) := And.intro (below_all hbel hb) (And.intro (k1.below hb) (k2.below hb))
  have HT1 : Hid (Tabs _) := ht.keep hb
  rw [← hg]
  obtain ⟨g', hg'⟩ : ∃ g', g' = g + 1 := ⟨_, rfl⟩
  rw [← hg'] at HB1
  rw [← hg']
  have d0 := HB1.out.2.2.cell 0 rfl
  have d1 := HB1.out.2.2.cell 1 rfl
  have d2 := HB1.out.2.2.cell 2 rfl
  have d3 := HB1.out.2.2.cell 3 rfl
  have d4 := HB1.out.2.2.cell 4 rfl
  clear hb ht hbel hg hg' k1 k2 HT
  go_wp2_with fail
  refine (HEJ.out _ HT1.out).mono ?_
  rintro e w2 ⟨rfl, hb⟩
  have HB2 : Hid (_ ∧ _ ∧ _) := And.intro (below_all HB1.out.1 hb) (And.intro (HB1.out.2.1.below hb) (HB1.out.2.2.below hb))
  have HT2 : Hid (Tabs _) := HT1.out.keep hb
  clear hb HB1 HT1 d0 d1 d2 d3 d4
  have c0 := HB2.out.2.1.cell 0 rfl
  have c1 := HB2.out.2.1.cell 1 rfl
  have c2 := HB2.out.2.1.cell 2 rfl
  have c3 := HB2.out.2.1.cell 3 rfl
  have c4 := HB2.out.2.1.cell 4 rfl
  have d0 := HB2.out.2.2.cell 0 rfl
  have d1 := HB2.out.2.2.cell 1 rfl
  have d2 := HB2.out.2.2.cell 2 rfl
  have d3 := HB2.out.2.2.cell 3 rfl
  have d4 := HB2.out.2.2.cell 4 rfl
  go_wp2
  clear c1 c2 c3 c4 d1 d2 d3 d4 HEI HEJ
  go_quiet (first
    | (go_at_call 10; exact Calls.quiet_of_same (HFI.out _ (HT2.out.drewN _)))
    | (go_at_call 9; exact Calls.quiet_of_same (HNI.out _ (HT2.out.drewN _))))
  go_wp2_with fail
  refine (awake_any _ (HT2.out.drewN _)).mono ?_
  rintro e w3 ⟨rfl, hb⟩
  have HB3 : Hid (Below _ _ _) := below_all (below_drewN HB2.out.1 _) hb
  clear hb
  go_wp2
  go_ret
  exact ⟨rfl, HB3.out⟩

end Go.Proofs.YtegediccgnoecaaDoor
