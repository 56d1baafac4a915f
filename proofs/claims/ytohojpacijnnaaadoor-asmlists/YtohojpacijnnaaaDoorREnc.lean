import Derived.Test.YtohojpacijnnaaaDoorRefC
namespace Go.Proofs.YtohojpacijnnaaaDoor.Is
open Go.RowKit
set_option linter.unusedVariables false

/-- The boxed instruction lies where it lay. -/
theorem boxed_kept {w w1 : World} {l : List Value} {t : TypeId} (hb : Below (w.alloc (.cells l.toArray t)).heap.size (w.alloc (.cells l.toArray t)) w1) : Blk w1 w.heap.size l t ∧ Below w.heap.size w w1 :=
  ⟨(Blk.new w l t).below hb, below_all (below_new w _) hb⟩

set_option maxHeartbeats 2000000 in
theorem renc_zero (op a b c imm : Int) (w : World) (k : Nat) (hk : formOf op = (k : Int)) (hk8 : k < 8) (hk0 : k = 0) :
    Calls Tryd.prog 28 #[insV op a b c imm] w fun e w' => e = .returned (.tuple #[.int .u32 0, .int .i64 21]) ∧ Below w.heap.size w w' := by
  unfold insV
  have CF := fun w => rform_any op w
  rw [hk] at CF
  have HCF : Hid (∀ w, Calls _ _ _ w _) := CF
  have CH := fun w => has_at k hk8 w
  clear CF
  generalize hasA k = ha at *
  generalize hasB k = hb at *
  generalize hasC k = hc at *
  generalize hasI k = hi at *
  have HCH : Hid (∀ w, Calls _ _ _ w _) := CH
  clear CH
  subst hk0
  clear hk
  go_enter Tryd.func28, Tryd.ntmps28
  go_wp2_with fail
  refine (HCF.out _).mono ?_
  rintro e w1 ⟨rfl, hb⟩
  obtain ⟨hblk, hbel⟩ := boxed_kept (l := [_, _, _, _, _]) hb
  obtain ⟨g, hg⟩ : ∃ g, g = w.heap.size := ⟨_, rfl⟩
  rw [← hg] at hblk
  rw [← hg]
  have c0 := hblk.cell 0 rfl
  have HB : Hid (_ ∧ _) := And.intro hblk hbel
  clear hb hblk hbel hg
  go_wp2_with fail
  refine (HCH.out _).mono ?_
  rintro e w2 ⟨rfl, hw⟩
  obtain rfl := hw.symm
  go_wp2_with fail
  refine (HCF.out _).mono ?_
  rintro e w2 ⟨rfl, hb⟩
  have hblk := HB.out.1.below hb
  have hbel := below_all HB.out.2 hb
  have e0 := hblk.cell 0 rfl
  have e1 := hblk.cell 1 rfl
  have e2 := hblk.cell 2 rfl
  have e3 := hblk.cell 3 rfl
  have e4 := hblk.cell 4 rfl
  have HB2 : Hid (Below _ _ _) := hbel
  clear hb hblk hbel HB c0 hw
  go_wp2
  go_ret2
  exact ⟨rfl, HB2.out⟩

set_option maxHeartbeats 2000000 in
theorem renc_a (op a b c imm : Int) (w : World) (k : Nat) (hk : formOf op = (k : Int)) (hk8 : k < 8) (hk0 : k ≠ 0) (FA : fitB (hasA k) a = false) :
    Calls Tryd.prog 28 #[insV op a b c imm] w fun e w' => e = .returned (.tuple #[.int .u32 0, .int .i64 21]) ∧ Below w.heap.size w w' := by
  unfold insV
  have CF := fun w => rform_any op w
  rw [hk] at CF
  have HCF : Hid (∀ w, Calls _ _ _ w _) := CF
  have CH := fun w => has_at k hk8 w
  have CA := fun w => right_any a (hasA k) w
  rw [FA] at CA
  clear CF FA
  generalize hasA k = ha at *
  generalize hasB k = hb at *
  generalize hasC k = hc at *
  generalize hasI k = hi at *
  have HCH : Hid (∀ w, Calls _ _ _ w _) := CH
  have HCA : Hid (∀ w, Calls _ _ _ w _) := CA
  clear CH CA
  have hkb : ((k : Int) == 0) = false := by simp only [beq_eq_false_iff_ne]; omega
  clear hk
  go_enter Tryd.func28, Tryd.ntmps28
  go_wp2_with fail
  refine (HCF.out _).mono ?_
  rintro e w1 ⟨rfl, hb⟩
  obtain ⟨hblk, hbel⟩ := boxed_kept (l := [_, _, _, _, _]) hb
  obtain ⟨g, hg⟩ : ∃ g, g = w.heap.size := ⟨_, rfl⟩
  rw [← hg] at hblk
  rw [← hg]
  have c0 := hblk.cell 0 rfl
  have HB : Hid (_ ∧ _) := And.intro hblk hbel
  clear hb hblk hbel hg
  go_wp2_with fail
  refine (HCH.out _).mono ?_
  rintro e w2 ⟨rfl, hw⟩
  obtain rfl := hw.symm
  go_wp2_with fail
  refine (HCF.out _).mono ?_
  rintro e w2 ⟨rfl, hb⟩
  have hblk := HB.out.1.below hb
  have hbel := below_all HB.out.2 hb
  have e0 := hblk.cell 0 rfl
  have e1 := hblk.cell 1 rfl
  have e2 := hblk.cell 2 rfl
  have e3 := hblk.cell 3 rfl
  have e4 := hblk.cell 4 rfl
  have HB2 : Hid (Below _ _ _) := hbel
  clear hb hblk hbel HB c0 hw
  go_wp2_with fail
  refine (HCA.out _).mono ?_
  rintro e w3 ⟨rfl, hw⟩
  obtain rfl := hw.symm
  clear hw
  go_wp2
  go_ret2
  exact ⟨rfl, HB2.out⟩

set_option maxHeartbeats 2000000 in
theorem renc_b (op a b c imm : Int) (w : World) (k : Nat) (hk : formOf op = (k : Int)) (hk8 : k < 8) (hk0 : k ≠ 0) (FA : fitB (hasA k) a = true) (FB : fitB (hasB k) b = false) :
    Calls Tryd.prog 28 #[insV op a b c imm] w fun e w' => e = .returned (.tuple #[.int .u32 0, .int .i64 21]) ∧ Below w.heap.size w w' := by
  unfold insV
  have CF := fun w => rform_any op w
  rw [hk] at CF
  have HCF : Hid (∀ w, Calls _ _ _ w _) := CF
  have CH := fun w => has_at k hk8 w
  have CA := fun w => right_any a (hasA k) w
  rw [FA] at CA
  have CB := fun w => right_any b (hasB k) w
  rw [FB] at CB
  clear CF FA FB
  generalize hasA k = ha at *
  generalize hasB k = hb at *
  generalize hasC k = hc at *
  generalize hasI k = hi at *
  have HCH : Hid (∀ w, Calls _ _ _ w _) := CH
  have HCA : Hid (∀ w, Calls _ _ _ w _) := CA
  have HCB : Hid (∀ w, Calls _ _ _ w _) := CB
  clear CH CA CB
  have hkb : ((k : Int) == 0) = false := by simp only [beq_eq_false_iff_ne]; omega
  clear hk
  go_enter Tryd.func28, Tryd.ntmps28
  go_wp2_with fail
  refine (HCF.out _).mono ?_
  rintro e w1 ⟨rfl, hb⟩
  obtain ⟨hblk, hbel⟩ := boxed_kept (l := [_, _, _, _, _]) hb
  obtain ⟨g, hg⟩ : ∃ g, g = w.heap.size := ⟨_, rfl⟩
  rw [← hg] at hblk
  rw [← hg]
  have c0 := hblk.cell 0 rfl
  have HB : Hid (_ ∧ _) := And.intro hblk hbel
  clear hb hblk hbel hg
  go_wp2_with fail
  refine (HCH.out _).mono ?_
  rintro e w2 ⟨rfl, hw⟩
  obtain rfl := hw.symm
  go_wp2_with fail
  refine (HCF.out _).mono ?_
  rintro e w2 ⟨rfl, hb⟩
  have hblk := HB.out.1.below hb
  have hbel := below_all HB.out.2 hb
  have e0 := hblk.cell 0 rfl
  have e1 := hblk.cell 1 rfl
  have e2 := hblk.cell 2 rfl
  have e3 := hblk.cell 3 rfl
  have e4 := hblk.cell 4 rfl
  have HB2 : Hid (Below _ _ _) := hbel
  clear hb hblk hbel HB c0 hw
  go_wp2_with fail
  refine (HCA.out _).mono ?_
  rintro e w3 ⟨rfl, hw⟩
  obtain rfl := hw.symm
  clear hw
  go_wp2_with fail
  refine (HCB.out _).mono ?_
  rintro e w3 ⟨rfl, hw⟩
  obtain rfl := hw.symm
  clear hw
  go_wp2
  go_ret2
  exact ⟨rfl, HB2.out⟩

set_option maxHeartbeats 2000000 in
theorem renc_c (op a b c imm : Int) (w : World) (k : Nat) (hk : formOf op = (k : Int)) (hk8 : k < 8) (hk0 : k ≠ 0) (FA : fitB (hasA k) a = true) (FB : fitB (hasB k) b = true) (FC : fitB (hasC k) c = false) :
    Calls Tryd.prog 28 #[insV op a b c imm] w fun e w' => e = .returned (.tuple #[.int .u32 0, .int .i64 21]) ∧ Below w.heap.size w w' := by
  unfold insV
  have CF := fun w => rform_any op w
  rw [hk] at CF
  have HCF : Hid (∀ w, Calls _ _ _ w _) := CF
  have CH := fun w => has_at k hk8 w
  have CA := fun w => right_any a (hasA k) w
  rw [FA] at CA
  have CB := fun w => right_any b (hasB k) w
  rw [FB] at CB
  have CC := fun w => right_any c (hasC k) w
  rw [FC] at CC
  clear CF FA FB FC
  generalize hasA k = ha at *
  generalize hasB k = hb at *
  generalize hasC k = hc at *
  generalize hasI k = hi at *
  have HCH : Hid (∀ w, Calls _ _ _ w _) := CH
  have HCA : Hid (∀ w, Calls _ _ _ w _) := CA
  have HCB : Hid (∀ w, Calls _ _ _ w _) := CB
  have HCC : Hid (∀ w, Calls _ _ _ w _) := CC
  clear CH CA CB CC
  have hkb : ((k : Int) == 0) = false := by simp only [beq_eq_false_iff_ne]; omega
  clear hk
  go_enter Tryd.func28, Tryd.ntmps28
  go_wp2_with fail
  refine (HCF.out _).mono ?_
  rintro e w1 ⟨rfl, hb⟩
  obtain ⟨hblk, hbel⟩ := boxed_kept (l := [_, _, _, _, _]) hb
  obtain ⟨g, hg⟩ : ∃ g, g = w.heap.size := ⟨_, rfl⟩
  rw [← hg] at hblk
  rw [← hg]
  have c0 := hblk.cell 0 rfl
  have HB : Hid (_ ∧ _) := And.intro hblk hbel
  clear hb hblk hbel hg
  go_wp2_with fail
  refine (HCH.out _).mono ?_
  rintro e w2 ⟨rfl, hw⟩
  obtain rfl := hw.symm
  go_wp2_with fail
  refine (HCF.out _).mono ?_
  rintro e w2 ⟨rfl, hb⟩
  have hblk := HB.out.1.below hb
  have hbel := below_all HB.out.2 hb
  have e0 := hblk.cell 0 rfl
  have e1 := hblk.cell 1 rfl
  have e2 := hblk.cell 2 rfl
  have e3 := hblk.cell 3 rfl
  have e4 := hblk.cell 4 rfl
  have HB2 : Hid (Below _ _ _) := hbel
  clear hb hblk hbel HB c0 hw
  go_wp2_with fail
  refine (HCA.out _).mono ?_
  rintro e w3 ⟨rfl, hw⟩
  obtain rfl := hw.symm
  clear hw
  go_wp2_with fail
  refine (HCB.out _).mono ?_
  rintro e w3 ⟨rfl, hw⟩
  obtain rfl := hw.symm
  clear hw
  go_wp2_with fail
  refine (HCC.out _).mono ?_
  rintro e w3 ⟨rfl, hw⟩
  obtain rfl := hw.symm
  clear hw
  go_wp2
  go_ret2
  exact ⟨rfl, HB2.out⟩

set_option maxHeartbeats 2000000 in
theorem renc_i (op a b c imm : Int) (w : World) (k : Nat) (hk : formOf op = (k : Int)) (hk8 : k < 8) (hk0 : k ≠ 0) (FA : fitB (hasA k) a = true) (FB : fitB (hasB k) b = true) (FC : fitB (hasC k) c = true) (FI : hasI k = false) (hm : imm ≠ 0) :
    Calls Tryd.prog 28 #[insV op a b c imm] w fun e w' => e = .returned (.tuple #[.int .u32 0, .int .i64 21]) ∧ Below w.heap.size w w' := by
  unfold insV
  have CF := fun w => rform_any op w
  rw [hk] at CF
  have HCF : Hid (∀ w, Calls _ _ _ w _) := CF
  have CH := fun w => has_at k hk8 w
  rw [FI] at CH
  have CA := fun w => right_any a (hasA k) w
  rw [FA] at CA
  have CB := fun w => right_any b (hasB k) w
  rw [FB] at CB
  have CC := fun w => right_any c (hasC k) w
  rw [FC] at CC
  clear CF FA FB FC FI
  generalize hasA k = ha at *
  generalize hasB k = hb at *
  generalize hasC k = hc at *
  have HCH : Hid (∀ w, Calls _ _ _ w _) := CH
  have HCA : Hid (∀ w, Calls _ _ _ w _) := CA
  have HCB : Hid (∀ w, Calls _ _ _ w _) := CB
  have HCC : Hid (∀ w, Calls _ _ _ w _) := CC
  clear CH CA CB CC
  have hkb : ((k : Int) == 0) = false := by simp only [beq_eq_false_iff_ne]; omega
  have hmb : (imm == 0) = false := by simpa using hm
  clear hk
  go_enter Tryd.func28, Tryd.ntmps28
  go_wp2_with fail
  refine (HCF.out _).mono ?_
  rintro e w1 ⟨rfl, hb⟩
  obtain ⟨hblk, hbel⟩ := boxed_kept (l := [_, _, _, _, _]) hb
  obtain ⟨g, hg⟩ : ∃ g, g = w.heap.size := ⟨_, rfl⟩
  rw [← hg] at hblk
  rw [← hg]
  have c0 := hblk.cell 0 rfl
  have HB : Hid (_ ∧ _) := And.intro hblk hbel
  clear hb hblk hbel hg
  go_wp2_with fail
  refine (HCH.out _).mono ?_
  rintro e w2 ⟨rfl, hw⟩
  obtain rfl := hw.symm
  go_wp2_with fail
  refine (HCF.out _).mono ?_
  rintro e w2 ⟨rfl, hb⟩
  have hblk := HB.out.1.below hb
  have hbel := below_all HB.out.2 hb
  have e0 := hblk.cell 0 rfl
  have e1 := hblk.cell 1 rfl
  have e2 := hblk.cell 2 rfl
  have e3 := hblk.cell 3 rfl
  have e4 := hblk.cell 4 rfl
  have HB2 : Hid (Below _ _ _) := hbel
  clear hb hblk hbel HB c0 hw
  go_wp2_with fail
  refine (HCA.out _).mono ?_
  rintro e w3 ⟨rfl, hw⟩
  obtain rfl := hw.symm
  clear hw
  go_wp2_with fail
  refine (HCB.out _).mono ?_
  rintro e w3 ⟨rfl, hw⟩
  obtain rfl := hw.symm
  clear hw
  go_wp2_with fail
  refine (HCC.out _).mono ?_
  rintro e w3 ⟨rfl, hw⟩
  obtain rfl := hw.symm
  clear hw
  go_wp2
  go_ret2
  exact ⟨rfl, HB2.out⟩

set_option maxHeartbeats 2000000 in
theorem renc_lo (op a b c imm : Int) (w : World) (k : Nat) (hk : formOf op = (k : Int)) (hk8 : k < 8) (hk0 : k ≠ 0) (FA : fitB (hasA k) a = true) (FB : fitB (hasB k) b = true) (FC : fitB (hasC k) c = true) (FI : hasI k = true) (hm : imm < -131072) :
    Calls Tryd.prog 28 #[insV op a b c imm] w fun e w' => e = .returned (.tuple #[.int .u32 0, .int .i64 21]) ∧ Below w.heap.size w w' := by
  unfold insV
  have CF := fun w => rform_any op w
  rw [hk] at CF
  have HCF : Hid (∀ w, Calls _ _ _ w _) := CF
  have CH := fun w => has_at k hk8 w
  rw [FI] at CH
  have CA := fun w => right_any a (hasA k) w
  rw [FA] at CA
  have CB := fun w => right_any b (hasB k) w
  rw [FB] at CB
  have CC := fun w => right_any c (hasC k) w
  rw [FC] at CC
  clear CF FA FB FC FI
  generalize hasA k = ha at *
  generalize hasB k = hb at *
  generalize hasC k = hc at *
  have HCH : Hid (∀ w, Calls _ _ _ w _) := CH
  have HCA : Hid (∀ w, Calls _ _ _ w _) := CA
  have HCB : Hid (∀ w, Calls _ _ _ w _) := CB
  have HCC : Hid (∀ w, Calls _ _ _ w _) := CC
  clear CH CA CB CC
  have hkb : ((k : Int) == 0) = false := by simp only [beq_eq_false_iff_ne]; omega
  clear hk
  go_enter Tryd.func28, Tryd.ntmps28
  go_wp2_with fail
  refine (HCF.out _).mono ?_
  rintro e w1 ⟨rfl, hb⟩
  obtain ⟨hblk, hbel⟩ := boxed_kept (l := [_, _, _, _, _]) hb
  obtain ⟨g, hg⟩ : ∃ g, g = w.heap.size := ⟨_, rfl⟩
  rw [← hg] at hblk
  rw [← hg]
  have c0 := hblk.cell 0 rfl
  have HB : Hid (_ ∧ _) := And.intro hblk hbel
  clear hb hblk hbel hg
  go_wp2_with fail
  refine (HCH.out _).mono ?_
  rintro e w2 ⟨rfl, hw⟩
  obtain rfl := hw.symm
  go_wp2_with fail
  refine (HCF.out _).mono ?_
  rintro e w2 ⟨rfl, hb⟩
  have hblk := HB.out.1.below hb
  have hbel := below_all HB.out.2 hb
  have e0 := hblk.cell 0 rfl
  have e1 := hblk.cell 1 rfl
  have e2 := hblk.cell 2 rfl
  have e3 := hblk.cell 3 rfl
  have e4 := hblk.cell 4 rfl
  have HB2 : Hid (Below _ _ _) := hbel
  clear hb hblk hbel HB c0 hw
  go_wp2_with fail
  refine (HCA.out _).mono ?_
  rintro e w3 ⟨rfl, hw⟩
  obtain rfl := hw.symm
  clear hw
  go_wp2_with fail
  refine (HCB.out _).mono ?_
  rintro e w3 ⟨rfl, hw⟩
  obtain rfl := hw.symm
  clear hw
  go_wp2_with fail
  refine (HCC.out _).mono ?_
  rintro e w3 ⟨rfl, hw⟩
  obtain rfl := hw.symm
  clear hw
  go_wp2
  go_ret2
  exact ⟨rfl, HB2.out⟩

set_option maxHeartbeats 2000000 in
theorem renc_hi (op a b c imm : Int) (w : World) (k : Nat) (hk : formOf op = (k : Int)) (hk8 : k < 8) (hk0 : k ≠ 0) (FA : fitB (hasA k) a = true) (FB : fitB (hasB k) b = true) (FC : fitB (hasC k) c = true) (FI : hasI k = true) (hm : 131071 < imm) :
    Calls Tryd.prog 28 #[insV op a b c imm] w fun e w' => e = .returned (.tuple #[.int .u32 0, .int .i64 21]) ∧ Below w.heap.size w w' := by
  unfold insV
  have CF := fun w => rform_any op w
  rw [hk] at CF
  have HCF : Hid (∀ w, Calls _ _ _ w _) := CF
  have CH := fun w => has_at k hk8 w
  rw [FI] at CH
  have CA := fun w => right_any a (hasA k) w
  rw [FA] at CA
  have CB := fun w => right_any b (hasB k) w
  rw [FB] at CB
  have CC := fun w => right_any c (hasC k) w
  rw [FC] at CC
  clear CF FA FB FC FI
  generalize hasA k = ha at *
  generalize hasB k = hb at *
  generalize hasC k = hc at *
  have HCH : Hid (∀ w, Calls _ _ _ w _) := CH
  have HCA : Hid (∀ w, Calls _ _ _ w _) := CA
  have HCB : Hid (∀ w, Calls _ _ _ w _) := CB
  have HCC : Hid (∀ w, Calls _ _ _ w _) := CC
  clear CH CA CB CC
  have hkb : ((k : Int) == 0) = false := by simp only [beq_eq_false_iff_ne]; omega
  clear hk
  go_enter Tryd.func28, Tryd.ntmps28
  go_wp2_with fail
  refine (HCF.out _).mono ?_
  rintro e w1 ⟨rfl, hb⟩
  obtain ⟨hblk, hbel⟩ := boxed_kept (l := [_, _, _, _, _]) hb
  obtain ⟨g, hg⟩ : ∃ g, g = w.heap.size := ⟨_, rfl⟩
  rw [← hg] at hblk
  rw [← hg]
  have c0 := hblk.cell 0 rfl
  have HB : Hid (_ ∧ _) := And.intro hblk hbel
  clear hb hblk hbel hg
  go_wp2_with fail
  refine (HCH.out _).mono ?_
  rintro e w2 ⟨rfl, hw⟩
  obtain rfl := hw.symm
  go_wp2_with fail
  refine (HCF.out _).mono ?_
  rintro e w2 ⟨rfl, hb⟩
  have hblk := HB.out.1.below hb
  have hbel := below_all HB.out.2 hb
  have e0 := hblk.cell 0 rfl
  have e1 := hblk.cell 1 rfl
  have e2 := hblk.cell 2 rfl
  have e3 := hblk.cell 3 rfl
  have e4 := hblk.cell 4 rfl
  have HB2 : Hid (Below _ _ _) := hbel
  clear hb hblk hbel HB c0 hw
  go_wp2_with fail
  refine (HCA.out _).mono ?_
  rintro e w3 ⟨rfl, hw⟩
  obtain rfl := hw.symm
  clear hw
  go_wp2_with fail
  refine (HCB.out _).mono ?_
  rintro e w3 ⟨rfl, hw⟩
  obtain rfl := hw.symm
  clear hw
  go_wp2_with fail
  refine (HCC.out _).mono ?_
  rintro e w3 ⟨rfl, hw⟩
  obtain rfl := hw.symm
  clear hw
  go_wp2
  go_ret2
  exact ⟨rfl, HB2.out⟩

set_option maxHeartbeats 2000000 in
theorem renc_pos (op a b c imm : Int) (w : World) (k : Nat) (hk : formOf op = (k : Int)) (hk8 : k < 8) (hk0 : k ≠ 0) (FA : fitB (hasA k) a = true) (FB : fitB (hasB k) b = true) (FC : fitB (hasC k) c = true) (FI : hasI k = true) (hm : 0 ≤ imm) (hm2 : imm ≤ 131071) (o1 : 1 ≤ op) (o2 : op ≤ 30) (a1 : 0 ≤ a) (a2 : a ≤ 15) (b1 : 0 ≤ b) (b2 : b ≤ 15) (d1 : 0 ≤ c) (d2 : c ≤ 15) :
    Calls Tryd.prog 28 #[insV op a b c imm] w fun e w' => e = .returned (.tuple #[.int .u32 (wordI op a b c imm), .int .i64 0]) ∧ Below w.heap.size w w' := by
  unfold insV
  have ew : wordI op a b c imm = op * 67108864 + a * 4194304 + b * 262144 + c * 16384 + imm := by unfold wordI; omega
  rw [ew]
  clear ew
  have CF := fun w => rform_any op w
  rw [hk] at CF
  have HCF : Hid (∀ w, Calls _ _ _ w _) := CF
  have CH := fun w => has_at k hk8 w
  rw [FI] at CH
  have CA := fun w => right_any a (hasA k) w
  rw [FA] at CA
  have CB := fun w => right_any b (hasB k) w
  rw [FB] at CB
  have CC := fun w => right_any c (hasC k) w
  rw [FC] at CC
  clear CF FA FB FC FI
  generalize hasA k = ha at *
  generalize hasB k = hb at *
  generalize hasC k = hc at *
  have HCH : Hid (∀ w, Calls _ _ _ w _) := CH
  have HCA : Hid (∀ w, Calls _ _ _ w _) := CA
  have HCB : Hid (∀ w, Calls _ _ _ w _) := CB
  have HCC : Hid (∀ w, Calls _ _ _ w _) := CC
  clear CH CA CB CC
  have hkb : ((k : Int) == 0) = false := by simp only [beq_eq_false_iff_ne]; omega
  clear hk
  go_enter Tryd.func28, Tryd.ntmps28
  go_wp2_with fail
  refine (HCF.out _).mono ?_
  rintro e w1 ⟨rfl, hb⟩
  obtain ⟨hblk, hbel⟩ := boxed_kept (l := [_, _, _, _, _]) hb
  obtain ⟨g, hg⟩ : ∃ g, g = w.heap.size := ⟨_, rfl⟩
  rw [← hg] at hblk
  rw [← hg]
  have c0 := hblk.cell 0 rfl
  have HB : Hid (_ ∧ _) := And.intro hblk hbel
  clear hb hblk hbel hg
  go_wp2_with fail
  refine (HCH.out _).mono ?_
  rintro e w2 ⟨rfl, hw⟩
  obtain rfl := hw.symm
  go_wp2_with fail
  refine (HCF.out _).mono ?_
  rintro e w2 ⟨rfl, hb⟩
  have hblk := HB.out.1.below hb
  have hbel := below_all HB.out.2 hb
  have e0 := hblk.cell 0 rfl
  have e1 := hblk.cell 1 rfl
  have e2 := hblk.cell 2 rfl
  have e3 := hblk.cell 3 rfl
  have e4 := hblk.cell 4 rfl
  have HB2 : Hid (Below _ _ _) := hbel
  clear hb hblk hbel HB c0 hw
  go_wp2_with fail
  refine (HCA.out _).mono ?_
  rintro e w3 ⟨rfl, hw⟩
  obtain rfl := hw.symm
  clear hw
  go_wp2_with fail
  refine (HCB.out _).mono ?_
  rintro e w3 ⟨rfl, hw⟩
  obtain rfl := hw.symm
  clear hw
  go_wp2_with fail
  refine (HCC.out _).mono ?_
  rintro e w3 ⟨rfl, hw⟩
  obtain rfl := hw.symm
  clear hw
  go_wp2
  go_ret2
  exact ⟨ret_two (by omega), HB2.out⟩

set_option maxHeartbeats 2000000 in
theorem renc_neg (op a b c imm : Int) (w : World) (k : Nat) (hk : formOf op = (k : Int)) (hk8 : k < 8) (hk0 : k ≠ 0) (FA : fitB (hasA k) a = true) (FB : fitB (hasB k) b = true) (FC : fitB (hasC k) c = true) (FI : hasI k = true) (hm : imm < 0) (hm2 : -131072 ≤ imm) (o1 : 1 ≤ op) (o2 : op ≤ 30) (a1 : 0 ≤ a) (a2 : a ≤ 15) (b1 : 0 ≤ b) (b2 : b ≤ 15) (d1 : 0 ≤ c) (d2 : c ≤ 15) :
    Calls Tryd.prog 28 #[insV op a b c imm] w fun e w' => e = .returned (.tuple #[.int .u32 (wordI op a b c imm), .int .i64 0]) ∧ Below w.heap.size w w' := by
  unfold insV
  have ew : wordI op a b c imm = op * 67108864 + a * 4194304 + b * 262144 + c * 16384 + (imm + 262144) := by unfold wordI; omega
  rw [ew]
  clear ew
  have CF := fun w => rform_any op w
  rw [hk] at CF
  have HCF : Hid (∀ w, Calls _ _ _ w _) := CF
  have CH := fun w => has_at k hk8 w
  rw [FI] at CH
  have CA := fun w => right_any a (hasA k) w
  rw [FA] at CA
  have CB := fun w => right_any b (hasB k) w
  rw [FB] at CB
  have CC := fun w => right_any c (hasC k) w
  rw [FC] at CC
  clear CF FA FB FC FI
  generalize hasA k = ha at *
  generalize hasB k = hb at *
  generalize hasC k = hc at *
  have HCH : Hid (∀ w, Calls _ _ _ w _) := CH
  have HCA : Hid (∀ w, Calls _ _ _ w _) := CA
  have HCB : Hid (∀ w, Calls _ _ _ w _) := CB
  have HCC : Hid (∀ w, Calls _ _ _ w _) := CC
  clear CH CA CB CC
  have hkb : ((k : Int) == 0) = false := by simp only [beq_eq_false_iff_ne]; omega
  clear hk
  go_enter Tryd.func28, Tryd.ntmps28
  go_wp2_with fail
  refine (HCF.out _).mono ?_
  rintro e w1 ⟨rfl, hb⟩
  obtain ⟨hblk, hbel⟩ := boxed_kept (l := [_, _, _, _, _]) hb
  obtain ⟨g, hg⟩ : ∃ g, g = w.heap.size := ⟨_, rfl⟩
  rw [← hg] at hblk
  rw [← hg]
  have c0 := hblk.cell 0 rfl
  have HB : Hid (_ ∧ _) := And.intro hblk hbel
  clear hb hblk hbel hg
  go_wp2_with fail
  refine (HCH.out _).mono ?_
  rintro e w2 ⟨rfl, hw⟩
  obtain rfl := hw.symm
  go_wp2_with fail
  refine (HCF.out _).mono ?_
  rintro e w2 ⟨rfl, hb⟩
  have hblk := HB.out.1.below hb
  have hbel := below_all HB.out.2 hb
  have e0 := hblk.cell 0 rfl
  have e1 := hblk.cell 1 rfl
  have e2 := hblk.cell 2 rfl
  have e3 := hblk.cell 3 rfl
  have e4 := hblk.cell 4 rfl
  have HB2 : Hid (Below _ _ _) := hbel
  clear hb hblk hbel HB c0 hw
  go_wp2_with fail
  refine (HCA.out _).mono ?_
  rintro e w3 ⟨rfl, hw⟩
  obtain rfl := hw.symm
  clear hw
  go_wp2_with fail
  refine (HCB.out _).mono ?_
  rintro e w3 ⟨rfl, hw⟩
  obtain rfl := hw.symm
  clear hw
  go_wp2_with fail
  refine (HCC.out _).mono ?_
  rintro e w3 ⟨rfl, hw⟩
  obtain rfl := hw.symm
  clear hw
  go_wp2
  go_ret2
  exact ⟨ret_two (by omega), HB2.out⟩

set_option maxHeartbeats 2000000 in
theorem renc_nil (op a b c imm : Int) (w : World) (k : Nat) (hk : formOf op = (k : Int)) (hk8 : k < 8) (hk0 : k ≠ 0) (FA : fitB (hasA k) a = true) (FB : fitB (hasB k) b = true) (FC : fitB (hasC k) c = true) (FI : hasI k = false) (hm : imm = 0) (o1 : 1 ≤ op) (o2 : op ≤ 30) (a1 : 0 ≤ a) (a2 : a ≤ 15) (b1 : 0 ≤ b) (b2 : b ≤ 15) (d1 : 0 ≤ c) (d2 : c ≤ 15) :
    Calls Tryd.prog 28 #[insV op a b c imm] w fun e w' => e = .returned (.tuple #[.int .u32 (wordI op a b c imm), .int .i64 0]) ∧ Below w.heap.size w w' := by
  unfold insV
  subst hm
  have ew : wordI op a b c 0 = op * 67108864 + a * 4194304 + b * 262144 + c * 16384 + 0 := by unfold wordI; omega
  rw [ew]
  clear ew
  have CF := fun w => rform_any op w
  rw [hk] at CF
  have HCF : Hid (∀ w, Calls _ _ _ w _) := CF
  have CH := fun w => has_at k hk8 w
  rw [FI] at CH
  have CA := fun w => right_any a (hasA k) w
  rw [FA] at CA
  have CB := fun w => right_any b (hasB k) w
  rw [FB] at CB
  have CC := fun w => right_any c (hasC k) w
  rw [FC] at CC
  clear CF FA FB FC FI
  generalize hasA k = ha at *
  generalize hasB k = hb at *
  generalize hasC k = hc at *
  have HCH : Hid (∀ w, Calls _ _ _ w _) := CH
  have HCA : Hid (∀ w, Calls _ _ _ w _) := CA
  have HCB : Hid (∀ w, Calls _ _ _ w _) := CB
  have HCC : Hid (∀ w, Calls _ _ _ w _) := CC
  clear CH CA CB CC
  have hkb : ((k : Int) == 0) = false := by simp only [beq_eq_false_iff_ne]; omega
  clear hk
  go_enter Tryd.func28, Tryd.ntmps28
  go_wp2_with fail
  refine (HCF.out _).mono ?_
  rintro e w1 ⟨rfl, hb⟩
  obtain ⟨hblk, hbel⟩ := boxed_kept (l := [_, _, _, _, _]) hb
  obtain ⟨g, hg⟩ : ∃ g, g = w.heap.size := ⟨_, rfl⟩
  rw [← hg] at hblk
  rw [← hg]
  have c0 := hblk.cell 0 rfl
  have HB : Hid (_ ∧ _) := And.intro hblk hbel
  clear hb hblk hbel hg
  go_wp2_with fail
  refine (HCH.out _).mono ?_
  rintro e w2 ⟨rfl, hw⟩
  obtain rfl := hw.symm
  go_wp2_with fail
  refine (HCF.out _).mono ?_
  rintro e w2 ⟨rfl, hb⟩
  have hblk := HB.out.1.below hb
  have hbel := below_all HB.out.2 hb
  have e0 := hblk.cell 0 rfl
  have e1 := hblk.cell 1 rfl
  have e2 := hblk.cell 2 rfl
  have e3 := hblk.cell 3 rfl
  have e4 := hblk.cell 4 rfl
  have HB2 : Hid (Below _ _ _) := hbel
  clear hb hblk hbel HB c0 hw
  go_wp2_with fail
  refine (HCA.out _).mono ?_
  rintro e w3 ⟨rfl, hw⟩
  obtain rfl := hw.symm
  clear hw
  go_wp2_with fail
  refine (HCB.out _).mono ?_
  rintro e w3 ⟨rfl, hw⟩
  obtain rfl := hw.symm
  clear hw
  go_wp2_with fail
  refine (HCC.out _).mono ?_
  rintro e w3 ⟨rfl, hw⟩
  obtain rfl := hw.symm
  clear hw
  go_wp2
  go_ret2
  exact ⟨ret_two (by omega), HB2.out⟩

end Go.Proofs.YtohojpacijnnaaaDoor.Is
