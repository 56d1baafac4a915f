import Derived.Test.YtegediccgnoecabDoorLawW
namespace Go.Proofs.YtegediccgnoecabDoor
open Go.RowKit
set_option linter.unusedVariables false

set_option maxHeartbeats 2000000 in
theorem width_one_zz (x : Nat) (a imm op ra rb rc ri fm wa wi : Int) (w : World) (h : Tabs w) (hfm : fm = 1) (hz : a = 0) (iz : imm = 0)
    (D : ∀ w, Tabs w → Calls Tryd.prog 4 #[.int .u32 x] w fun e w' => e = .returned (.tuple #[insV op ra rb rc ri, .int .i64 0]) ∧ Below w.heap.size w w')
    (F : ∀ w, Tabs w → Calls Tryd.prog 6 #[.int .i64 op] w fun e w' => e = .returned (.int .i64 fm) ∧ w' = w)
    (EA : ∀ w, Tabs w → Calls Tryd.prog 7 #[insV op a rb rc ri] w fun e w' => e = .returned (.tuple #[.int .u32 wa, .int .i64 0]) ∧ Below w.heap.size w w')
    (EI : ∀ w, Tabs w → Calls Tryd.prog 7 #[insV op ra rb rc imm] w fun e w' => e = .returned (.tuple #[.int .u32 wi, .int .i64 0]) ∧ Below w.heap.size w w') :
    Calls Tryd.prog 3 #[.int .u32 x, .int .i64 a, .int .i64 imm] w fun e w' => e = .returned (.bool true) ∧ Below w.heap.size w w' := by
  subst hfm
  subst hz
  subst iz
  unfold insV at *
  have HD : Hid (∀ w, Tabs w → Calls _ _ _ w _) := D
  have HF : Hid (∀ w, Tabs w → Calls _ _ _ w _) := F
  have HEA : Hid (∀ w, Tabs w → Calls _ _ _ w _) := EA
  have HEI : Hid (∀ w, Tabs w → Calls _ _ _ w _) := EI
  have HT : Hid (Tabs w) := h
  clear h D F EA EI
  go_enter Tryd.func3, Tryd.ntmps3
  go_wp2_with fail
  refine (HD.out _ HT.out).mono ?_
  rintro e w1 ⟨rfl, hb⟩
  have HB : Hid (Below _ _ _) := hb
  have HT1 : Hid (Tabs _) := HT.out.keep hb
  clear hb HT
  go_wp2_with fail
  refine (HF.out _ (HT1.out.keep (below_new w1 _))).mono ?_
  rintro e w2 ⟨rfl, hw⟩
  have HT2 : Hid (Tabs w2) := by rw [hw]; exact HT1.out.keep (below_new w1 _)
  have HB2 : Hid (Below w.heap.size w w2) := by rw [hw]; exact below_all HB.out (below_new w1 _)
  have hblk : Blk w2 w1.heap.size [.int .i64 op, .int .i64 ra, .int .i64 rb, .int .i64 rc, .int .i64 ri] 24 := by rw [hw]; exact Blk.new w1 _ 24
  obtain ⟨g, hg⟩ : ∃ g, g = w1.heap.size := ⟨_, rfl⟩
  rw [← hg] at hblk
  rw [← hg]
  have c0 := hblk.cell 0 rfl
  have c1 := hblk.cell 1 rfl
  have c2 := hblk.cell 2 rfl
  have c3 := hblk.cell 3 rfl
  have c4 := hblk.cell 4 rfl
  have hgl := hblk.lt
  have HK : Hid (Blk _ _ _ _) := hblk
  clear hg hw HB HT1 hblk HD HF
  go_wp2_with fail
  refine (HEA.out _ (HT2.out.keep (below_new w2 _))).mono ?_
  rintro e w3 ⟨rfl, hb⟩
  have hblk := (HK.out.below (below_new w2 _)).below hb
  have HT3 : Hid (Tabs _) := (HT2.out.keep (below_new w2 _)).keep hb
  have HB3 : Hid (Below _ _ _) := below_all (below_all HB2.out (below_new w2 _)) hb
  clear c0 c1 c2 c3 c4 hgl HK
  have c0 := hblk.cell 0 rfl
  have c1 := hblk.cell 1 rfl
  have c2 := hblk.cell 2 rfl
  have c3 := hblk.cell 3 rfl
  have c4 := hblk.cell 4 rfl
  have hgl := hblk.lt
  have HK : Hid (Blk _ _ _ _) := hblk
  clear hb HB2 HT2 hblk HEA
  go_wp2_with fail
  refine (HEI.out _ (HT3.out.keep (below_new w3 _))).mono ?_
  rintro e w4 ⟨rfl, hb⟩
  have HT4 : Hid (Tabs _) := (HT3.out.keep (below_new w3 _)).keep hb
  have HB4 : Hid (Below _ _ _) := below_all (below_all HB3.out (below_new w3 _)) hb
  clear hb HB3 HT3 HK c0 c1 c2 c3 c4 hgl HEI
  go_wp2_with fail
  refine (awake_any _ HT4.out).mono ?_
  rintro e w5 ⟨rfl, hb⟩
  have HB5 : Hid (Below _ _ _) := below_all HB4.out hb
  clear hb
  go_wp2
  go_ret
  first | exact ⟨rfl, HB5.out⟩ | exact ⟨ret_bool (by rw [HI0.out]; rfl), HB5.out⟩ | exact ⟨ret_bool (by simp; omega), HB5.out⟩

set_option maxHeartbeats 2000000 in
theorem width_one_zn (x : Nat) (a imm op ra rb rc ri fm wa wi : Int) (w : World) (h : Tabs w) (hfm : fm = 1) (hz : a = 0) (hi : imm < -131072)
    (D : ∀ w, Tabs w → Calls Tryd.prog 4 #[.int .u32 x] w fun e w' => e = .returned (.tuple #[insV op ra rb rc ri, .int .i64 0]) ∧ Below w.heap.size w w')
    (F : ∀ w, Tabs w → Calls Tryd.prog 6 #[.int .i64 op] w fun e w' => e = .returned (.int .i64 fm) ∧ w' = w)
    (EA : ∀ w, Tabs w → Calls Tryd.prog 7 #[insV op a rb rc ri] w fun e w' => e = .returned (.tuple #[.int .u32 wa, .int .i64 0]) ∧ Below w.heap.size w w')
    (EI : ∀ w, Tabs w → Calls Tryd.prog 7 #[insV op ra rb rc imm] w fun e w' => e = .returned (.tuple #[.int .u32 wi, .int .i64 21]) ∧ Below w.heap.size w w') :
    Calls Tryd.prog 3 #[.int .u32 x, .int .i64 a, .int .i64 imm] w fun e w' => e = .returned (.bool true) ∧ Below w.heap.size w w' := by
  subst hfm
  subst hz
  have HI0 : Hid ((imm == 0) = false) := by unfold Hid; simp only [beq_eq_false_iff_ne]; first | omega | simpa using hin
  unfold insV at *
  have HD : Hid (∀ w, Tabs w → Calls _ _ _ w _) := D
  have HF : Hid (∀ w, Tabs w → Calls _ _ _ w _) := F
  have HEA : Hid (∀ w, Tabs w → Calls _ _ _ w _) := EA
  have HEI : Hid (∀ w, Tabs w → Calls _ _ _ w _) := EI
  have HT : Hid (Tabs w) := h
  clear h D F EA EI
  go_enter Tryd.func3, Tryd.ntmps3
  go_wp2_with fail
  refine (HD.out _ HT.out).mono ?_
  rintro e w1 ⟨rfl, hb⟩
  have HB : Hid (Below _ _ _) := hb
  have HT1 : Hid (Tabs _) := HT.out.keep hb
  clear hb HT
  go_wp2_with fail
  refine (HF.out _ (HT1.out.keep (below_new w1 _))).mono ?_
  rintro e w2 ⟨rfl, hw⟩
  have HT2 : Hid (Tabs w2) := by rw [hw]; exact HT1.out.keep (below_new w1 _)
  have HB2 : Hid (Below w.heap.size w w2) := by rw [hw]; exact below_all HB.out (below_new w1 _)
  have hblk : Blk w2 w1.heap.size [.int .i64 op, .int .i64 ra, .int .i64 rb, .int .i64 rc, .int .i64 ri] 24 := by rw [hw]; exact Blk.new w1 _ 24
  obtain ⟨g, hg⟩ : ∃ g, g = w1.heap.size := ⟨_, rfl⟩
  rw [← hg] at hblk
  rw [← hg]
  have c0 := hblk.cell 0 rfl
  have c1 := hblk.cell 1 rfl
  have c2 := hblk.cell 2 rfl
  have c3 := hblk.cell 3 rfl
  have c4 := hblk.cell 4 rfl
  have hgl := hblk.lt
  have HK : Hid (Blk _ _ _ _) := hblk
  clear hg hw HB HT1 hblk HD HF
  go_wp2_with fail
  refine (HEA.out _ (HT2.out.keep (below_new w2 _))).mono ?_
  rintro e w3 ⟨rfl, hb⟩
  have hblk := (HK.out.below (below_new w2 _)).below hb
  have HT3 : Hid (Tabs _) := (HT2.out.keep (below_new w2 _)).keep hb
  have HB3 : Hid (Below _ _ _) := below_all (below_all HB2.out (below_new w2 _)) hb
  clear c0 c1 c2 c3 c4 hgl HK
  have c0 := hblk.cell 0 rfl
  have c1 := hblk.cell 1 rfl
  have c2 := hblk.cell 2 rfl
  have c3 := hblk.cell 3 rfl
  have c4 := hblk.cell 4 rfl
  have hgl := hblk.lt
  have HK : Hid (Blk _ _ _ _) := hblk
  clear hb HB2 HT2 hblk HEA
  go_wp2_with fail
  refine (HEI.out _ (HT3.out.keep (below_new w3 _))).mono ?_
  rintro e w4 ⟨rfl, hb⟩
  have HT4 : Hid (Tabs _) := (HT3.out.keep (below_new w3 _)).keep hb
  have HB4 : Hid (Below _ _ _) := below_all (below_all HB3.out (below_new w3 _)) hb
  clear hb HB3 HT3 HK c0 c1 c2 c3 c4 hgl HEI
  go_wp2_with fail
  refine (awake_any _ HT4.out).mono ?_
  rintro e w5 ⟨rfl, hb⟩
  have HB5 : Hid (Below _ _ _) := below_all HB4.out hb
  clear hb
  go_wp2
  go_ret
  first | exact ⟨rfl, HB5.out⟩ | exact ⟨ret_bool (by rw [HI0.out]; rfl), HB5.out⟩ | exact ⟨ret_bool (by simp; omega), HB5.out⟩

set_option maxHeartbeats 2000000 in
theorem width_one_zp (x : Nat) (a imm op ra rb rc ri fm wa wi : Int) (w : World) (h : Tabs w) (hfm : fm = 1) (hz : a = 0) (hi : -131072 ≤ imm) (hin : (imm == 0) = false)
    (D : ∀ w, Tabs w → Calls Tryd.prog 4 #[.int .u32 x] w fun e w' => e = .returned (.tuple #[insV op ra rb rc ri, .int .i64 0]) ∧ Below w.heap.size w w')
    (F : ∀ w, Tabs w → Calls Tryd.prog 6 #[.int .i64 op] w fun e w' => e = .returned (.int .i64 fm) ∧ w' = w)
    (EA : ∀ w, Tabs w → Calls Tryd.prog 7 #[insV op a rb rc ri] w fun e w' => e = .returned (.tuple #[.int .u32 wa, .int .i64 0]) ∧ Below w.heap.size w w')
    (EI : ∀ w, Tabs w → Calls Tryd.prog 7 #[insV op ra rb rc imm] w fun e w' => e = .returned (.tuple #[.int .u32 wi, .int .i64 21]) ∧ Below w.heap.size w w') :
    Calls Tryd.prog 3 #[.int .u32 x, .int .i64 a, .int .i64 imm] w fun e w' => e = .returned (.bool true) ∧ Below w.heap.size w w' := by
  subst hfm
  subst hz
  have HI0 : Hid ((imm == 0) = false) := by unfold Hid; simp only [beq_eq_false_iff_ne]; first | omega | simpa using hin
  unfold insV at *
  have HD : Hid (∀ w, Tabs w → Calls _ _ _ w _) := D
  have HF : Hid (∀ w, Tabs w → Calls _ _ _ w _) := F
  have HEA : Hid (∀ w, Tabs w → Calls _ _ _ w _) := EA
  have HEI : Hid (∀ w, Tabs w → Calls _ _ _ w _) := EI
  have HT : Hid (Tabs w) := h
  clear h D F EA EI
  go_enter Tryd.func3, Tryd.ntmps3
  go_wp2_with fail
  refine (HD.out _ HT.out).mono ?_
  rintro e w1 ⟨rfl, hb⟩
  have HB : Hid (Below _ _ _) := hb
  have HT1 : Hid (Tabs _) := HT.out.keep hb
  clear hb HT
  go_wp2_with fail
  refine (HF.out _ (HT1.out.keep (below_new w1 _))).mono ?_
  rintro e w2 ⟨rfl, hw⟩
  have HT2 : Hid (Tabs w2) := by rw [hw]; exact HT1.out.keep (below_new w1 _)
  have HB2 : Hid (Below w.heap.size w w2) := by rw [hw]; exact below_all HB.out (below_new w1 _)
  have hblk : Blk w2 w1.heap.size [.int .i64 op, .int .i64 ra, .int .i64 rb, .int .i64 rc, .int .i64 ri] 24 := by rw [hw]; exact Blk.new w1 _ 24
  obtain ⟨g, hg⟩ : ∃ g, g = w1.heap.size := ⟨_, rfl⟩
  rw [← hg] at hblk
  rw [← hg]
  have c0 := hblk.cell 0 rfl
  have c1 := hblk.cell 1 rfl
  have c2 := hblk.cell 2 rfl
  have c3 := hblk.cell 3 rfl
  have c4 := hblk.cell 4 rfl
  have hgl := hblk.lt
  have HK : Hid (Blk _ _ _ _) := hblk
  clear hg hw HB HT1 hblk HD HF
  go_wp2_with fail
  refine (HEA.out _ (HT2.out.keep (below_new w2 _))).mono ?_
  rintro e w3 ⟨rfl, hb⟩
  have hblk := (HK.out.below (below_new w2 _)).below hb
  have HT3 : Hid (Tabs _) := (HT2.out.keep (below_new w2 _)).keep hb
  have HB3 : Hid (Below _ _ _) := below_all (below_all HB2.out (below_new w2 _)) hb
  clear c0 c1 c2 c3 c4 hgl HK
  have c0 := hblk.cell 0 rfl
  have c1 := hblk.cell 1 rfl
  have c2 := hblk.cell 2 rfl
  have c3 := hblk.cell 3 rfl
  have c4 := hblk.cell 4 rfl
  have hgl := hblk.lt
  have HK : Hid (Blk _ _ _ _) := hblk
  clear hb HB2 HT2 hblk HEA
  go_wp2_with fail
  refine (HEI.out _ (HT3.out.keep (below_new w3 _))).mono ?_
  rintro e w4 ⟨rfl, hb⟩
  have HT4 : Hid (Tabs _) := (HT3.out.keep (below_new w3 _)).keep hb
  have HB4 : Hid (Below _ _ _) := below_all (below_all HB3.out (below_new w3 _)) hb
  clear hb HB3 HT3 HK c0 c1 c2 c3 c4 hgl HEI
  go_wp2_with fail
  refine (awake_any _ HT4.out).mono ?_
  rintro e w5 ⟨rfl, hb⟩
  have HB5 : Hid (Below _ _ _) := below_all HB4.out hb
  clear hb
  go_wp2
  go_ret
  first | exact ⟨rfl, HB5.out⟩ | exact ⟨ret_bool (by rw [HI0.out]; rfl), HB5.out⟩ | exact ⟨ret_bool (by simp; omega), HB5.out⟩

set_option maxHeartbeats 2000000 in
theorem width_one_nz (x : Nat) (a imm op ra rb rc ri fm wa wi : Int) (w : World) (h : Tabs w) (hfm : fm = 1) (ha : a < 0) (iz : imm = 0)
    (D : ∀ w, Tabs w → Calls Tryd.prog 4 #[.int .u32 x] w fun e w' => e = .returned (.tuple #[insV op ra rb rc ri, .int .i64 0]) ∧ Below w.heap.size w w')
    (F : ∀ w, Tabs w → Calls Tryd.prog 6 #[.int .i64 op] w fun e w' => e = .returned (.int .i64 fm) ∧ w' = w)
    (EA : ∀ w, Tabs w → Calls Tryd.prog 7 #[insV op a rb rc ri] w fun e w' => e = .returned (.tuple #[.int .u32 wa, .int .i64 21]) ∧ Below w.heap.size w w')
    (EI : ∀ w, Tabs w → Calls Tryd.prog 7 #[insV op ra rb rc imm] w fun e w' => e = .returned (.tuple #[.int .u32 wi, .int .i64 0]) ∧ Below w.heap.size w w') :
    Calls Tryd.prog 3 #[.int .u32 x, .int .i64 a, .int .i64 imm] w fun e w' => e = .returned (.bool true) ∧ Below w.heap.size w w' := by
  subst hfm
  subst iz
  have han : (a == 0) = false := by simp only [beq_eq_false_iff_ne]; omega
  unfold insV at *
  have HD : Hid (∀ w, Tabs w → Calls _ _ _ w _) := D
  have HF : Hid (∀ w, Tabs w → Calls _ _ _ w _) := F
  have HEA : Hid (∀ w, Tabs w → Calls _ _ _ w _) := EA
  have HEI : Hid (∀ w, Tabs w → Calls _ _ _ w _) := EI
  have HT : Hid (Tabs w) := h
  clear h D F EA EI
  go_enter Tryd.func3, Tryd.ntmps3
  go_wp2_with fail
  refine (HD.out _ HT.out).mono ?_
  rintro e w1 ⟨rfl, hb⟩
  have HB : Hid (Below _ _ _) := hb
  have HT1 : Hid (Tabs _) := HT.out.keep hb
  clear hb HT
  go_wp2_with fail
  refine (HF.out _ (HT1.out.keep (below_new w1 _))).mono ?_
  rintro e w2 ⟨rfl, hw⟩
  have HT2 : Hid (Tabs w2) := by rw [hw]; exact HT1.out.keep (below_new w1 _)
  have HB2 : Hid (Below w.heap.size w w2) := by rw [hw]; exact below_all HB.out (below_new w1 _)
  have hblk : Blk w2 w1.heap.size [.int .i64 op, .int .i64 ra, .int .i64 rb, .int .i64 rc, .int .i64 ri] 24 := by rw [hw]; exact Blk.new w1 _ 24
  obtain ⟨g, hg⟩ : ∃ g, g = w1.heap.size := ⟨_, rfl⟩
  rw [← hg] at hblk
  rw [← hg]
  have c0 := hblk.cell 0 rfl
  have c1 := hblk.cell 1 rfl
  have c2 := hblk.cell 2 rfl
  have c3 := hblk.cell 3 rfl
  have c4 := hblk.cell 4 rfl
  have hgl := hblk.lt
  have HK : Hid (Blk _ _ _ _) := hblk
  clear hg hw HB HT1 hblk HD HF
  go_wp2_with fail
  refine (HEA.out _ (HT2.out.keep (below_new w2 _))).mono ?_
  rintro e w3 ⟨rfl, hb⟩
  have hblk := (HK.out.below (below_new w2 _)).below hb
  have HT3 : Hid (Tabs _) := (HT2.out.keep (below_new w2 _)).keep hb
  have HB3 : Hid (Below _ _ _) := below_all (below_all HB2.out (below_new w2 _)) hb
  clear c0 c1 c2 c3 c4 hgl HK
  have c0 := hblk.cell 0 rfl
  have c1 := hblk.cell 1 rfl
  have c2 := hblk.cell 2 rfl
  have c3 := hblk.cell 3 rfl
  have c4 := hblk.cell 4 rfl
  have hgl := hblk.lt
  have HK : Hid (Blk _ _ _ _) := hblk
  clear hb HB2 HT2 hblk HEA
  go_wp2_with fail
  refine (HEI.out _ (HT3.out.keep (below_new w3 _))).mono ?_
  rintro e w4 ⟨rfl, hb⟩
  have HT4 : Hid (Tabs _) := (HT3.out.keep (below_new w3 _)).keep hb
  have HB4 : Hid (Below _ _ _) := below_all (below_all HB3.out (below_new w3 _)) hb
  clear hb HB3 HT3 HK c0 c1 c2 c3 c4 hgl HEI
  go_wp2_with fail
  refine (awake_any _ HT4.out).mono ?_
  rintro e w5 ⟨rfl, hb⟩
  have HB5 : Hid (Below _ _ _) := below_all HB4.out hb
  clear hb
  go_wp2
  go_ret
  first | exact ⟨rfl, HB5.out⟩ | exact ⟨ret_bool (by rw [HI0.out]; rfl), HB5.out⟩ | exact ⟨ret_bool (by simp; omega), HB5.out⟩

set_option maxHeartbeats 2000000 in
theorem width_one_nn (x : Nat) (a imm op ra rb rc ri fm wa wi : Int) (w : World) (h : Tabs w) (hfm : fm = 1) (ha : a < 0) (hi : imm < -131072)
    (D : ∀ w, Tabs w → Calls Tryd.prog 4 #[.int .u32 x] w fun e w' => e = .returned (.tuple #[insV op ra rb rc ri, .int .i64 0]) ∧ Below w.heap.size w w')
    (F : ∀ w, Tabs w → Calls Tryd.prog 6 #[.int .i64 op] w fun e w' => e = .returned (.int .i64 fm) ∧ w' = w)
    (EA : ∀ w, Tabs w → Calls Tryd.prog 7 #[insV op a rb rc ri] w fun e w' => e = .returned (.tuple #[.int .u32 wa, .int .i64 21]) ∧ Below w.heap.size w w')
    (EI : ∀ w, Tabs w → Calls Tryd.prog 7 #[insV op ra rb rc imm] w fun e w' => e = .returned (.tuple #[.int .u32 wi, .int .i64 21]) ∧ Below w.heap.size w w') :
    Calls Tryd.prog 3 #[.int .u32 x, .int .i64 a, .int .i64 imm] w fun e w' => e = .returned (.bool true) ∧ Below w.heap.size w w' := by
  subst hfm
  have han : (a == 0) = false := by simp only [beq_eq_false_iff_ne]; omega
  have HI0 : Hid ((imm == 0) = false) := by unfold Hid; simp only [beq_eq_false_iff_ne]; first | omega | simpa using hin
  unfold insV at *
  have HD : Hid (∀ w, Tabs w → Calls _ _ _ w _) := D
  have HF : Hid (∀ w, Tabs w → Calls _ _ _ w _) := F
  have HEA : Hid (∀ w, Tabs w → Calls _ _ _ w _) := EA
  have HEI : Hid (∀ w, Tabs w → Calls _ _ _ w _) := EI
  have HT : Hid (Tabs w) := h
  clear h D F EA EI
  go_enter Tryd.func3, Tryd.ntmps3
  go_wp2_with fail
  refine (HD.out _ HT.out).mono ?_
  rintro e w1 ⟨rfl, hb⟩
  have HB : Hid (Below _ _ _) := hb
  have HT1 : Hid (Tabs _) := HT.out.keep hb
  clear hb HT
  go_wp2_with fail
  refine (HF.out _ (HT1.out.keep (below_new w1 _))).mono ?_
  rintro e w2 ⟨rfl, hw⟩
  have HT2 : Hid (Tabs w2) := by rw [hw]; exact HT1.out.keep (below_new w1 _)
  have HB2 : Hid (Below w.heap.size w w2) := by rw [hw]; exact below_all HB.out (below_new w1 _)
  have hblk : Blk w2 w1.heap.size [.int .i64 op, .int .i64 ra, .int .i64 rb, .int .i64 rc, .int .i64 ri] 24 := by rw [hw]; exact Blk.new w1 _ 24
  obtain ⟨g, hg⟩ : ∃ g, g = w1.heap.size := ⟨_, rfl⟩
  rw [← hg] at hblk
  rw [← hg]
  have c0 := hblk.cell 0 rfl
  have c1 := hblk.cell 1 rfl
  have c2 := hblk.cell 2 rfl
  have c3 := hblk.cell 3 rfl
  have c4 := hblk.cell 4 rfl
  have hgl := hblk.lt
  have HK : Hid (Blk _ _ _ _) := hblk
  clear hg hw HB HT1 hblk HD HF
  go_wp2_with fail
  refine (HEA.out _ (HT2.out.keep (below_new w2 _))).mono ?_
  rintro e w3 ⟨rfl, hb⟩
  have hblk := (HK.out.below (below_new w2 _)).below hb
  have HT3 : Hid (Tabs _) := (HT2.out.keep (below_new w2 _)).keep hb
  have HB3 : Hid (Below _ _ _) := below_all (below_all HB2.out (below_new w2 _)) hb
  clear c0 c1 c2 c3 c4 hgl HK
  have c0 := hblk.cell 0 rfl
  have c1 := hblk.cell 1 rfl
  have c2 := hblk.cell 2 rfl
  have c3 := hblk.cell 3 rfl
  have c4 := hblk.cell 4 rfl
  have hgl := hblk.lt
  have HK : Hid (Blk _ _ _ _) := hblk
  clear hb HB2 HT2 hblk HEA
  go_wp2_with fail
  refine (HEI.out _ (HT3.out.keep (below_new w3 _))).mono ?_
  rintro e w4 ⟨rfl, hb⟩
  have HT4 : Hid (Tabs _) := (HT3.out.keep (below_new w3 _)).keep hb
  have HB4 : Hid (Below _ _ _) := below_all (below_all HB3.out (below_new w3 _)) hb
  clear hb HB3 HT3 HK c0 c1 c2 c3 c4 hgl HEI
  go_wp2_with fail
  refine (awake_any _ HT4.out).mono ?_
  rintro e w5 ⟨rfl, hb⟩
  have HB5 : Hid (Below _ _ _) := below_all HB4.out hb
  clear hb
  go_wp2
  go_ret
  first | exact ⟨rfl, HB5.out⟩ | exact ⟨ret_bool (by rw [HI0.out]; rfl), HB5.out⟩ | exact ⟨ret_bool (by simp; omega), HB5.out⟩

set_option maxHeartbeats 2000000 in
theorem width_one_np (x : Nat) (a imm op ra rb rc ri fm wa wi : Int) (w : World) (h : Tabs w) (hfm : fm = 1) (ha : a < 0) (hi : -131072 ≤ imm) (hin : (imm == 0) = false)
    (D : ∀ w, Tabs w → Calls Tryd.prog 4 #[.int .u32 x] w fun e w' => e = .returned (.tuple #[insV op ra rb rc ri, .int .i64 0]) ∧ Below w.heap.size w w')
    (F : ∀ w, Tabs w → Calls Tryd.prog 6 #[.int .i64 op] w fun e w' => e = .returned (.int .i64 fm) ∧ w' = w)
    (EA : ∀ w, Tabs w → Calls Tryd.prog 7 #[insV op a rb rc ri] w fun e w' => e = .returned (.tuple #[.int .u32 wa, .int .i64 21]) ∧ Below w.heap.size w w')
    (EI : ∀ w, Tabs w → Calls Tryd.prog 7 #[insV op ra rb rc imm] w fun e w' => e = .returned (.tuple #[.int .u32 wi, .int .i64 21]) ∧ Below w.heap.size w w') :
    Calls Tryd.prog 3 #[.int .u32 x, .int .i64 a, .int .i64 imm] w fun e w' => e = .returned (.bool true) ∧ Below w.heap.size w w' := by
  subst hfm
  have han : (a == 0) = false := by simp only [beq_eq_false_iff_ne]; omega
  have HI0 : Hid ((imm == 0) = false) := by unfold Hid; simp only [beq_eq_false_iff_ne]; first | omega | simpa using hin
  unfold insV at *
  have HD : Hid (∀ w, Tabs w → Calls _ _ _ w _) := D
  have HF : Hid (∀ w, Tabs w → Calls _ _ _ w _) := F
  have HEA : Hid (∀ w, Tabs w → Calls _ _ _ w _) := EA
  have HEI : Hid (∀ w, Tabs w → Calls _ _ _ w _) := EI
  have HT : Hid (Tabs w) := h
  clear h D F EA EI
  go_enter Tryd.func3, Tryd.ntmps3
  go_wp2_with fail
  refine (HD.out _ HT.out).mono ?_
  rintro e w1 ⟨rfl, hb⟩
  have HB : Hid (Below _ _ _) := hb
  have HT1 : Hid (Tabs _) := HT.out.keep hb
  clear hb HT
  go_wp2_with fail
  refine (HF.out _ (HT1.out.keep (below_new w1 _))).mono ?_
  rintro e w2 ⟨rfl, hw⟩
  have HT2 : Hid (Tabs w2) := by rw [hw]; exact HT1.out.keep (below_new w1 _)
  have HB2 : Hid (Below w.heap.size w w2) := by rw [hw]; exact below_all HB.out (below_new w1 _)
  have hblk : Blk w2 w1.heap.size [.int .i64 op, .int .i64 ra, .int .i64 rb, .int .i64 rc, .int .i64 ri] 24 := by rw [hw]; exact Blk.new w1 _ 24
  obtain ⟨g, hg⟩ : ∃ g, g = w1.heap.size := ⟨_, rfl⟩
  rw [← hg] at hblk
  rw [← hg]
  have c0 := hblk.cell 0 rfl
  have c1 := hblk.cell 1 rfl
  have c2 := hblk.cell 2 rfl
  have c3 := hblk.cell 3 rfl
  have c4 := hblk.cell 4 rfl
  have hgl := hblk.lt
  have HK : Hid (Blk _ _ _ _) := hblk
  clear hg hw HB HT1 hblk HD HF
  go_wp2_with fail
  refine (HEA.out _ (HT2.out.keep (below_new w2 _))).mono ?_
  rintro e w3 ⟨rfl, hb⟩
  have hblk := (HK.out.below (below_new w2 _)).below hb
  have HT3 : Hid (Tabs _) := (HT2.out.keep (below_new w2 _)).keep hb
  have HB3 : Hid (Below _ _ _) := below_all (below_all HB2.out (below_new w2 _)) hb
  clear c0 c1 c2 c3 c4 hgl HK
  have c0 := hblk.cell 0 rfl
  have c1 := hblk.cell 1 rfl
  have c2 := hblk.cell 2 rfl
  have c3 := hblk.cell 3 rfl
  have c4 := hblk.cell 4 rfl
  have hgl := hblk.lt
  have HK : Hid (Blk _ _ _ _) := hblk
  clear hb HB2 HT2 hblk HEA
  go_wp2_with fail
  refine (HEI.out _ (HT3.out.keep (below_new w3 _))).mono ?_
  rintro e w4 ⟨rfl, hb⟩
  have HT4 : Hid (Tabs _) := (HT3.out.keep (below_new w3 _)).keep hb
  have HB4 : Hid (Below _ _ _) := below_all (below_all HB3.out (below_new w3 _)) hb
  clear hb HB3 HT3 HK c0 c1 c2 c3 c4 hgl HEI
  go_wp2_with fail
  refine (awake_any _ HT4.out).mono ?_
  rintro e w5 ⟨rfl, hb⟩
  have HB5 : Hid (Below _ _ _) := below_all HB4.out hb
  clear hb
  go_wp2
  go_ret
  first | exact ⟨rfl, HB5.out⟩ | exact ⟨ret_bool (by rw [HI0.out]; rfl), HB5.out⟩ | exact ⟨ret_bool (by simp; omega), HB5.out⟩

set_option maxHeartbeats 2000000 in
theorem width_one_pz (x : Nat) (a imm op ra rb rc ri fm wa wi : Int) (w : World) (h : Tabs w) (hfm : fm = 1) (ha : 0 < a) (iz : imm = 0)
    (D : ∀ w, Tabs w → Calls Tryd.prog 4 #[.int .u32 x] w fun e w' => e = .returned (.tuple #[insV op ra rb rc ri, .int .i64 0]) ∧ Below w.heap.size w w')
    (F : ∀ w, Tabs w → Calls Tryd.prog 6 #[.int .i64 op] w fun e w' => e = .returned (.int .i64 fm) ∧ w' = w)
    (EA : ∀ w, Tabs w → Calls Tryd.prog 7 #[insV op a rb rc ri] w fun e w' => e = .returned (.tuple #[.int .u32 wa, .int .i64 21]) ∧ Below w.heap.size w w')
    (EI : ∀ w, Tabs w → Calls Tryd.prog 7 #[insV op ra rb rc imm] w fun e w' => e = .returned (.tuple #[.int .u32 wi, .int .i64 0]) ∧ Below w.heap.size w w') :
    Calls Tryd.prog 3 #[.int .u32 x, .int .i64 a, .int .i64 imm] w fun e w' => e = .returned (.bool true) ∧ Below w.heap.size w w' := by
  subst hfm
  subst iz
  have han : (a == 0) = false := by simp only [beq_eq_false_iff_ne]; omega
  unfold insV at *
  have HD : Hid (∀ w, Tabs w → Calls _ _ _ w _) := D
  have HF : Hid (∀ w, Tabs w → Calls _ _ _ w _) := F
  have HEA : Hid (∀ w, Tabs w → Calls _ _ _ w _) := EA
  have HEI : Hid (∀ w, Tabs w → Calls _ _ _ w _) := EI
  have HT : Hid (Tabs w) := h
  clear h D F EA EI
  go_enter Tryd.func3, Tryd.ntmps3
  go_wp2_with fail
  refine (HD.out _ HT.out).mono ?_
  rintro e w1 ⟨rfl, hb⟩
  have HB : Hid (Below _ _ _) := hb
  have HT1 : Hid (Tabs _) := HT.out.keep hb
  clear hb HT
  go_wp2_with fail
  refine (HF.out _ (HT1.out.keep (below_new w1 _))).mono ?_
  rintro e w2 ⟨rfl, hw⟩
  have HT2 : Hid (Tabs w2) := by rw [hw]; exact HT1.out.keep (below_new w1 _)
  have HB2 : Hid (Below w.heap.size w w2) := by rw [hw]; exact below_all HB.out (below_new w1 _)
  have hblk : Blk w2 w1.heap.size [.int .i64 op, .int .i64 ra, .int .i64 rb, .int .i64 rc, .int .i64 ri] 24 := by rw [hw]; exact Blk.new w1 _ 24
  obtain ⟨g, hg⟩ : ∃ g, g = w1.heap.size := ⟨_, rfl⟩
  rw [← hg] at hblk
  rw [← hg]
  have c0 := hblk.cell 0 rfl
  have c1 := hblk.cell 1 rfl
  have c2 := hblk.cell 2 rfl
  have c3 := hblk.cell 3 rfl
  have c4 := hblk.cell 4 rfl
  have hgl := hblk.lt
  have HK : Hid (Blk _ _ _ _) := hblk
  clear hg hw HB HT1 hblk HD HF
  go_wp2_with fail
  refine (HEA.out _ (HT2.out.keep (below_new w2 _))).mono ?_
  rintro e w3 ⟨rfl, hb⟩
  have hblk := (HK.out.below (below_new w2 _)).below hb
  have HT3 : Hid (Tabs _) := (HT2.out.keep (below_new w2 _)).keep hb
  have HB3 : Hid (Below _ _ _) := below_all (below_all HB2.out (below_new w2 _)) hb
  clear c0 c1 c2 c3 c4 hgl HK
  have c0 := hblk.cell 0 rfl
  have c1 := hblk.cell 1 rfl
  have c2 := hblk.cell 2 rfl
  have c3 := hblk.cell 3 rfl
  have c4 := hblk.cell 4 rfl
  have hgl := hblk.lt
  have HK : Hid (Blk _ _ _ _) := hblk
  clear hb HB2 HT2 hblk HEA
  go_wp2_with fail
  refine (HEI.out _ (HT3.out.keep (below_new w3 _))).mono ?_
  rintro e w4 ⟨rfl, hb⟩
  have HT4 : Hid (Tabs _) := (HT3.out.keep (below_new w3 _)).keep hb
  have HB4 : Hid (Below _ _ _) := below_all (below_all HB3.out (below_new w3 _)) hb
  clear hb HB3 HT3 HK c0 c1 c2 c3 c4 hgl HEI
  go_wp2_with fail
  refine (awake_any _ HT4.out).mono ?_
  rintro e w5 ⟨rfl, hb⟩
  have HB5 : Hid (Below _ _ _) := below_all HB4.out hb
  clear hb
  go_wp2
  go_ret
  first | exact ⟨rfl, HB5.out⟩ | exact ⟨ret_bool (by rw [HI0.out]; rfl), HB5.out⟩ | exact ⟨ret_bool (by simp; omega), HB5.out⟩

set_option maxHeartbeats 2000000 in
theorem width_one_pn (x : Nat) (a imm op ra rb rc ri fm wa wi : Int) (w : World) (h : Tabs w) (hfm : fm = 1) (ha : 0 < a) (hi : imm < -131072)
    (D : ∀ w, Tabs w → Calls Tryd.prog 4 #[.int .u32 x] w fun e w' => e = .returned (.tuple #[insV op ra rb rc ri, .int .i64 0]) ∧ Below w.heap.size w w')
    (F : ∀ w, Tabs w → Calls Tryd.prog 6 #[.int .i64 op] w fun e w' => e = .returned (.int .i64 fm) ∧ w' = w)
    (EA : ∀ w, Tabs w → Calls Tryd.prog 7 #[insV op a rb rc ri] w fun e w' => e = .returned (.tuple #[.int .u32 wa, .int .i64 21]) ∧ Below w.heap.size w w')
    (EI : ∀ w, Tabs w → Calls Tryd.prog 7 #[insV op ra rb rc imm] w fun e w' => e = .returned (.tuple #[.int .u32 wi, .int .i64 21]) ∧ Below w.heap.size w w') :
    Calls Tryd.prog 3 #[.int .u32 x, .int .i64 a, .int .i64 imm] w fun e w' => e = .returned (.bool true) ∧ Below w.heap.size w w' := by
  subst hfm
  have han : (a == 0) = false := by simp only [beq_eq_false_iff_ne]; omega
  have HI0 : Hid ((imm == 0) = false) := by unfold Hid; simp only [beq_eq_false_iff_ne]; first | omega | simpa using hin
  unfold insV at *
  have HD : Hid (∀ w, Tabs w → Calls _ _ _ w _) := D
  have HF : Hid (∀ w, Tabs w → Calls _ _ _ w _) := F
  have HEA : Hid (∀ w, Tabs w → Calls _ _ _ w _) := EA
  have HEI : Hid (∀ w, Tabs w → Calls _ _ _ w _) := EI
  have HT : Hid (Tabs w) := h
  clear h D F EA EI
  go_enter Tryd.func3, Tryd.ntmps3
  go_wp2_with fail
  refine (HD.out _ HT.out).mono ?_
  rintro e w1 ⟨rfl, hb⟩
  have HB : Hid (Below _ _ _) := hb
  have HT1 : Hid (Tabs _) := HT.out.keep hb
  clear hb HT
  go_wp2_with fail
  refine (HF.out _ (HT1.out.keep (below_new w1 _))).mono ?_
  rintro e w2 ⟨rfl, hw⟩
  have HT2 : Hid (Tabs w2) := by rw [hw]; exact HT1.out.keep (below_new w1 _)
  have HB2 : Hid (Below w.heap.size w w2) := by rw [hw]; exact below_all HB.out (below_new w1 _)
  have hblk : Blk w2 w1.heap.size [.int .i64 op, .int .i64 ra, .int .i64 rb, .int .i64 rc, .int .i64 ri] 24 := by rw [hw]; exact Blk.new w1 _ 24
  obtain ⟨g, hg⟩ : ∃ g, g = w1.heap.size := ⟨_, rfl⟩
  rw [← hg] at hblk
  rw [← hg]
  have c0 := hblk.cell 0 rfl
  have c1 := hblk.cell 1 rfl
  have c2 := hblk.cell 2 rfl
  have c3 := hblk.cell 3 rfl
  have c4 := hblk.cell 4 rfl
  have hgl := hblk.lt
  have HK : Hid (Blk _ _ _ _) := hblk
  clear hg hw HB HT1 hblk HD HF
  go_wp2_with fail
  refine (HEA.out _ (HT2.out.keep (below_new w2 _))).mono ?_
  rintro e w3 ⟨rfl, hb⟩
  have hblk := (HK.out.below (below_new w2 _)).below hb
  have HT3 : Hid (Tabs _) := (HT2.out.keep (below_new w2 _)).keep hb
  have HB3 : Hid (Below _ _ _) := below_all (below_all HB2.out (below_new w2 _)) hb
  clear c0 c1 c2 c3 c4 hgl HK
  have c0 := hblk.cell 0 rfl
  have c1 := hblk.cell 1 rfl
  have c2 := hblk.cell 2 rfl
  have c3 := hblk.cell 3 rfl
  have c4 := hblk.cell 4 rfl
  have hgl := hblk.lt
  have HK : Hid (Blk _ _ _ _) := hblk
  clear hb HB2 HT2 hblk HEA
  go_wp2_with fail
  refine (HEI.out _ (HT3.out.keep (below_new w3 _))).mono ?_
  rintro e w4 ⟨rfl, hb⟩
  have HT4 : Hid (Tabs _) := (HT3.out.keep (below_new w3 _)).keep hb
  have HB4 : Hid (Below _ _ _) := below_all (below_all HB3.out (below_new w3 _)) hb
  clear hb HB3 HT3 HK c0 c1 c2 c3 c4 hgl HEI
  go_wp2_with fail
  refine (awake_any _ HT4.out).mono ?_
  rintro e w5 ⟨rfl, hb⟩
  have HB5 : Hid (Below _ _ _) := below_all HB4.out hb
  clear hb
  go_wp2
  go_ret
  first | exact ⟨rfl, HB5.out⟩ | exact ⟨ret_bool (by rw [HI0.out]; rfl), HB5.out⟩ | exact ⟨ret_bool (by simp; omega), HB5.out⟩

set_option maxHeartbeats 2000000 in
theorem width_one_pp (x : Nat) (a imm op ra rb rc ri fm wa wi : Int) (w : World) (h : Tabs w) (hfm : fm = 1) (ha : 0 < a) (hi : -131072 ≤ imm) (hin : (imm == 0) = false)
    (D : ∀ w, Tabs w → Calls Tryd.prog 4 #[.int .u32 x] w fun e w' => e = .returned (.tuple #[insV op ra rb rc ri, .int .i64 0]) ∧ Below w.heap.size w w')
    (F : ∀ w, Tabs w → Calls Tryd.prog 6 #[.int .i64 op] w fun e w' => e = .returned (.int .i64 fm) ∧ w' = w)
    (EA : ∀ w, Tabs w → Calls Tryd.prog 7 #[insV op a rb rc ri] w fun e w' => e = .returned (.tuple #[.int .u32 wa, .int .i64 21]) ∧ Below w.heap.size w w')
    (EI : ∀ w, Tabs w → Calls Tryd.prog 7 #[insV op ra rb rc imm] w fun e w' => e = .returned (.tuple #[.int .u32 wi, .int .i64 21]) ∧ Below w.heap.size w w') :
    Calls Tryd.prog 3 #[.int .u32 x, .int .i64 a, .int .i64 imm] w fun e w' => e = .returned (.bool true) ∧ Below w.heap.size w w' := by
  subst hfm
  have han : (a == 0) = false := by simp only [beq_eq_false_iff_ne]; omega
  have HI0 : Hid ((imm == 0) = false) := by unfold Hid; simp only [beq_eq_false_iff_ne]; first | omega | simpa using hin
  unfold insV at *
  have HD : Hid (∀ w, Tabs w → Calls _ _ _ w _) := D
  have HF : Hid (∀ w, Tabs w → Calls _ _ _ w _) := F
  have HEA : Hid (∀ w, Tabs w → Calls _ _ _ w _) := EA
  have HEI : Hid (∀ w, Tabs w → Calls _ _ _ w _) := EI
  have HT : Hid (Tabs w) := h
  clear h D F EA EI
  go_enter Tryd.func3, Tryd.ntmps3
  go_wp2_with fail
  refine (HD.out _ HT.out).mono ?_
  rintro e w1 ⟨rfl, hb⟩
  have HB : Hid (Below _ _ _) := hb
  have HT1 : Hid (Tabs _) := HT.out.keep hb
  clear hb HT
  go_wp2_with fail
  refine (HF.out _ (HT1.out.keep (below_new w1 _))).mono ?_
  rintro e w2 ⟨rfl, hw⟩
  have HT2 : Hid (Tabs w2) := by rw [hw]; exact HT1.out.keep (below_new w1 _)
  have HB2 : Hid (Below w.heap.size w w2) := by rw [hw]; exact below_all HB.out (below_new w1 _)
  have hblk : Blk w2 w1.heap.size [.int .i64 op, .int .i64 ra, .int .i64 rb, .int .i64 rc, .int .i64 ri] 24 := by rw [hw]; exact Blk.new w1 _ 24
  obtain ⟨g, hg⟩ : ∃ g, g = w1.heap.size := ⟨_, rfl⟩
  rw [← hg] at hblk
  rw [← hg]
  have c0 := hblk.cell 0 rfl
  have c1 := hblk.cell 1 rfl
  have c2 := hblk.cell 2 rfl
  have c3 := hblk.cell 3 rfl
  have c4 := hblk.cell 4 rfl
  have hgl := hblk.lt
  have HK : Hid (Blk _ _ _ _) := hblk
  clear hg hw HB HT1 hblk HD HF
  go_wp2_with fail
  refine (HEA.out _ (HT2.out.keep (below_new w2 _))).mono ?_
  rintro e w3 ⟨rfl, hb⟩
  have hblk := (HK.out.below (below_new w2 _)).below hb
  have HT3 : Hid (Tabs _) := (HT2.out.keep (below_new w2 _)).keep hb
  have HB3 : Hid (Below _ _ _) := below_all (below_all HB2.out (below_new w2 _)) hb
  clear c0 c1 c2 c3 c4 hgl HK
  have c0 := hblk.cell 0 rfl
  have c1 := hblk.cell 1 rfl
  have c2 := hblk.cell 2 rfl
  have c3 := hblk.cell 3 rfl
  have c4 := hblk.cell 4 rfl
  have hgl := hblk.lt
  have HK : Hid (Blk _ _ _ _) := hblk
  clear hb HB2 HT2 hblk HEA
  go_wp2_with fail
  refine (HEI.out _ (HT3.out.keep (below_new w3 _))).mono ?_
  rintro e w4 ⟨rfl, hb⟩
  have HT4 : Hid (Tabs _) := (HT3.out.keep (below_new w3 _)).keep hb
  have HB4 : Hid (Below _ _ _) := below_all (below_all HB3.out (below_new w3 _)) hb
  clear hb HB3 HT3 HK c0 c1 c2 c3 c4 hgl HEI
  go_wp2_with fail
  refine (awake_any _ HT4.out).mono ?_
  rintro e w5 ⟨rfl, hb⟩
  have HB5 : Hid (Below _ _ _) := below_all HB4.out hb
  clear hb
  go_wp2
  go_ret
  first | exact ⟨rfl, HB5.out⟩ | exact ⟨ret_bool (by rw [HI0.out]; rfl), HB5.out⟩ | exact ⟨ret_bool (by simp; omega), HB5.out⟩

end Go.Proofs.YtegediccgnoecabDoor
