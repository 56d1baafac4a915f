import Derived.Test.YtegediccgnoecaaDoorRdWord
import Derived.Test.YtegediccgnoecaaDoorREncAll
namespace Go.Proofs.YtegediccgnoecaaDoor
open Go.RowKit
set_option linter.unusedVariables false

theorem dec_ok (x : Nat) (hx : x < 4294967296) (h : decOk x = true) (w : World) (ht : Tabs w) : Calls Tryd.prog 20 #[.int .u32 x] w fun e w' => e = .returned (.tuple #[insV (rdOp x) (rdA x) (rdB x) (rdC x) (rdI x), .int .i64 0]) ∧ Below w.heap.size w w' := by
  have := dec_any x hx w ht
  simpa only [decV, decE, h, if_true] using this
theorem dec_bad (x : Nat) (hx : x < 4294967296) (h : decOk x = false) (w : World) (ht : Tabs w) : Calls Tryd.prog 20 #[.int .u32 x] w fun e w' => e = .returned (.tuple #[insV 0 0 0 0 0, .int .i64 20]) ∧ Below w.heap.size w w' := by
  have := dec_any x hx w ht
  simpa [decV, decE, h, zeroV] using this
theorem enc_back (x : Nat) (h : decOk x = true) (w : World) (ht : Tabs w) : Calls Tryd.prog 18 #[insV (rdOp x) (rdA x) (rdB x) (rdC x) (rdI x)] w fun e w' => e = .returned (.tuple #[.int .u32 x, .int .i64 0]) ∧ Below w.heap.size w w' := by
  have := enc_any (rdOp x) (rdA x) (rdB x) (rdC x) (rdI x) w ht
  simp only [decOk, Bool.and_eq_true, beq_iff_eq] at h
  simpa only [encW, encE, h.1, h.2, if_true] using this
theorem enc_ok (op a b c imm : Int) (h : okI op a b c imm = true) (w : World) (ht : Tabs w) : Calls Tryd.prog 18 #[insV op a b c imm] w fun e w' => e = .returned (.tuple #[.int .u32 ((wordN op a b c imm : Nat) : Int), .int .i64 0]) ∧ Below w.heap.size w w' := by
  have := enc_any op a b c imm w ht
  simp only [encW, encE, h, if_true] at this
  rw [(rd_word op a b c imm h).1]
  exact this
theorem enc_bad (op a b c imm : Int) (h : okI op a b c imm = false) (w : World) (ht : Tabs w) : Calls Tryd.prog 18 #[insV op a b c imm] w fun e w' => e = .returned (.tuple #[.int .u32 0, .int .i64 21]) ∧ Below w.heap.size w w' := by
  have := enc_any op a b c imm w ht
  simpa [encW, encE, h] using this
theorem dec_back (op a b c imm : Int) (h : okI op a b c imm = true) (w : World) (ht : Tabs w) : Calls Tryd.prog 20 #[.int .u32 ((wordN op a b c imm : Nat) : Int)] w fun e w' => e = .returned (.tuple #[insV op a b c imm, .int .i64 0]) ∧ Below w.heap.size w w' := by
  obtain ⟨h1, h2, e1, e2, e3, e4, e5⟩ := rd_word op a b c imm h
  have hd : decOk (wordN op a b c imm) = true := by
    simp only [decOk, e1, e2, e3, e4, e5, h, Bool.true_and, beq_iff_eq]
    exact h1.symm
  have := dec_ok (wordN op a b c imm) h2 hd w ht
  rw [e1, e2, e3, e4, e5] at this
  exact this

theorem boxed_on {w1 w2 : World} {g : Nat} {l : List Value} {t : TypeId} (h : Blk w1 g l t) {o : Obj} (hb : Below (w1.alloc o).heap.size (w1.alloc o) w2) : Blk w2 g l t := (h.below (below_new w1 o)).below hb

set_option maxHeartbeats 2000000 in
theorem back_11 (x : Nat) (hx : x < 4294967296) (op a b c i : Int) (w : World) (h : Tabs w) (hd : decOk x = true) (ho : okI op a b c i = true) : Calls Tryd.prog 7 #[.int .u32 x, insV op a b c i] w fun e w' => e = .returned (.bool true) ∧ Below w.heap.size w w' := by
  have D := fun w h => dec_ok x hx hd w h
  have E := fun w h => enc_back x hd w h
  have E2 := fun w h => enc_ok op a b c i ho w h
  have D2 := fun w h => dec_back op a b c i ho w h
  clear hd ho
  generalize rdOp x = ro at *
  generalize rdA x = ra at *
  generalize rdB x = rb at *
  generalize rdC x = rc at *
  generalize rdI x = ri at *
  generalize wordN op a b c i = wd at *
  unfold insV at *
  have HD : Hid (∀ w h, Calls _ _ _ w _) := D
  have HE : Hid (∀ w h, Calls _ _ _ w _) := E
  have HE2 : Hid (∀ w h, Calls _ _ _ w _) := E2
  have HD2 : Hid (∀ w h, Calls _ _ _ w _) := D2
  have HT : Hid (Tabs w) := h
  clear h D E E2 D2
  go_enter Tryd.func7, Tryd.ntmps7
  go_wp2_with fail
  refine (HD.out _ (HT.out.keep (below_new w _))).mono ?_
  rintro e w1 ⟨rfl, hb⟩
  obtain ⟨hblk, hbel⟩ := boxed_kept (l := [_, _, _, _, _]) hb
  obtain ⟨g, hg⟩ : ∃ g, g = w.heap.size := ⟨_, rfl⟩
  rw [← hg] at hblk
  rw [← hg]
  have HB : Hid (_ ∧ _) := And.intro hblk hbel
  have HT1 : Hid (Tabs _) := HT.out.keep hbel
  clear hb hg hbel HT
  clear hblk
  go_wp2_with fail
  refine (HE.out _ (HT1.out.keep (below_new w1 _))).mono ?_
  rintro e w2 ⟨rfl, hb⟩
  have hblk := boxed_on HB.out.1 hb
  have hbel := below_all (below_all HB.out.2 (below_new w1 _)) hb
  have HT2 : Hid (Tabs _) := (HT1.out.keep (below_new w1 _)).keep hb
  have HB2 : Hid (_ ∧ _) := And.intro hblk hbel
  have c0 := hblk.cell 0 rfl
  have c1 := hblk.cell 1 rfl
  have c2 := hblk.cell 2 rfl
  have c3 := hblk.cell 3 rfl
  have c4 := hblk.cell 4 rfl
  have hgl := hblk.lt
  clear hb hbel HB HT1 hblk
  go_wp2_with fail
  refine (HE2.out _ HT2.out).mono ?_
  rintro e w3 ⟨rfl, hb⟩
  have hblk := HB2.out.1.below hb
  have hbel := below_all HB2.out.2 hb
  have HT3 : Hid (Tabs _) := HT2.out.keep hb
  have HB3 : Hid (_ ∧ _) := And.intro hblk hbel
  clear hb hbel HB2 HT2 hblk c0 c1 c2 c3 c4 hgl
  go_wp2_with fail
  refine (HD2.out _ HT3.out).mono ?_
  rintro e w4 ⟨rfl, hb⟩
  have hblk := HB3.out.1.below hb
  have hbel := below_all HB3.out.2 hb
  have HT4 : Hid (Tabs _) := HT3.out.keep hb
  have HB4 : Hid (Below _ _ _) := hbel
  have c0 := hblk.cell 0 rfl
  have c1 := hblk.cell 1 rfl
  have c2 := hblk.cell 2 rfl
  have c3 := hblk.cell 3 rfl
  have c4 := hblk.cell 4 rfl
  have hgl := hblk.lt
  clear hb hbel HB3 HT3 hblk
  go_wp2_with fail
  refine (awake_any _ (HT4.out.keep (below_new w4 _))).mono ?_
  rintro e w5 ⟨rfl, hb⟩
  have HB5 : Hid (Below _ _ _) := below_all (below_all HB4.out (below_new w4 _)) hb
  clear hb
  go_wp2
  go_ret
  exact ⟨rfl, HB5.out⟩

set_option maxHeartbeats 2000000 in
theorem back_10 (x : Nat) (hx : x < 4294967296) (op a b c i : Int) (w : World) (h : Tabs w) (hd : decOk x = true) (ho : okI op a b c i = false) : Calls Tryd.prog 7 #[.int .u32 x, insV op a b c i] w fun e w' => e = .returned (.bool true) ∧ Below w.heap.size w w' := by
  have D := fun w h => dec_ok x hx hd w h
  have E := fun w h => enc_back x hd w h
  have E2 := fun w h => enc_bad op a b c i ho w h
  clear hd ho
  generalize rdOp x = ro at *
  generalize rdA x = ra at *
  generalize rdB x = rb at *
  generalize rdC x = rc at *
  generalize rdI x = ri at *
  unfold insV at *
  have HD : Hid (∀ w h, Calls _ _ _ w _) := D
  have HE : Hid (∀ w h, Calls _ _ _ w _) := E
  have HE2 : Hid (∀ w h, Calls _ _ _ w _) := E2
  have HT : Hid (Tabs w) := h
  clear h D E E2
  go_enter Tryd.func7, Tryd.ntmps7
  go_wp2_with fail
  refine (HD.out _ (HT.out.keep (below_new w _))).mono ?_
  rintro e w1 ⟨rfl, hb⟩
  obtain ⟨hblk, hbel⟩ := boxed_kept (l := [_, _, _, _, _]) hb
  obtain ⟨g, hg⟩ : ∃ g, g = w.heap.size := ⟨_, rfl⟩
  rw [← hg] at hblk
  rw [← hg]
  have HB : Hid (_ ∧ _) := And.intro hblk hbel
  have HT1 : Hid (Tabs _) := HT.out.keep hbel
  clear hb hg hbel HT
  clear hblk
  go_wp2_with fail
  refine (HE.out _ (HT1.out.keep (below_new w1 _))).mono ?_
  rintro e w2 ⟨rfl, hb⟩
  have hblk := boxed_on HB.out.1 hb
  have hbel := below_all (below_all HB.out.2 (below_new w1 _)) hb
  have HT2 : Hid (Tabs _) := (HT1.out.keep (below_new w1 _)).keep hb
  have HB2 : Hid (_ ∧ _) := And.intro hblk hbel
  have c0 := hblk.cell 0 rfl
  have c1 := hblk.cell 1 rfl
  have c2 := hblk.cell 2 rfl
  have c3 := hblk.cell 3 rfl
  have c4 := hblk.cell 4 rfl
  have hgl := hblk.lt
  clear hb hbel HB HT1 hblk
  go_wp2_with fail
  refine (HE2.out _ HT2.out).mono ?_
  rintro e w3 ⟨rfl, hb⟩
  have hblk := HB2.out.1.below hb
  have hbel := below_all HB2.out.2 hb
  have HT3 : Hid (Tabs _) := HT2.out.keep hb
  have HB3 : Hid (_ ∧ _) := And.intro hblk hbel
  clear hb hbel HB2 HT2 hblk c0 c1 c2 c3 c4 hgl
  go_wp2_with fail
  refine (awake_any _ HT3.out).mono ?_
  rintro e w5 ⟨rfl, hb⟩
  have HB5 : Hid (Below _ _ _) := below_all HB3.out.2 hb
  clear hb
  go_wp2
  go_ret
  exact ⟨rfl, HB5.out⟩

set_option maxHeartbeats 2000000 in
theorem back_01 (x : Nat) (hx : x < 4294967296) (op a b c i : Int) (w : World) (h : Tabs w) (hd : decOk x = false) (ho : okI op a b c i = true) : Calls Tryd.prog 7 #[.int .u32 x, insV op a b c i] w fun e w' => e = .returned (.bool true) ∧ Below w.heap.size w w' := by
  have D := fun w h => dec_bad x hx hd w h
  have E2 := fun w h => enc_ok op a b c i ho w h
  have D2 := fun w h => dec_back op a b c i ho w h
  clear hd ho
  generalize wordN op a b c i = wd at *
  unfold insV at *
  have HD : Hid (∀ w h, Calls _ _ _ w _) := D
  have HE2 : Hid (∀ w h, Calls _ _ _ w _) := E2
  have HD2 : Hid (∀ w h, Calls _ _ _ w _) := D2
  have HT : Hid (Tabs w) := h
  clear h D E2 D2
  go_enter Tryd.func7, Tryd.ntmps7
  go_wp2_with fail
  refine (HD.out _ (HT.out.keep (below_new w _))).mono ?_
  rintro e w1 ⟨rfl, hb⟩
  obtain ⟨hblk, hbel⟩ := boxed_kept (l := [_, _, _, _, _]) hb
  obtain ⟨g, hg⟩ : ∃ g, g = w.heap.size := ⟨_, rfl⟩
  rw [← hg] at hblk
  rw [← hg]
  have HB : Hid (_ ∧ _) := And.intro hblk hbel
  have HT1 : Hid (Tabs _) := HT.out.keep hbel
  clear hb hg hbel HT
  have c0 := hblk.cell 0 rfl
  have c1 := hblk.cell 1 rfl
  have c2 := hblk.cell 2 rfl
  have c3 := hblk.cell 3 rfl
  have c4 := hblk.cell 4 rfl
  have hgl := hblk.lt
  clear hblk
  go_wp2_with fail
  refine (HE2.out _ (HT1.out.keep (below_new w1 _))).mono ?_
  rintro e w3 ⟨rfl, hb⟩
  have hblk := boxed_on HB.out.1 hb
  have hbel := below_all (below_all HB.out.2 (below_new w1 _)) hb
  have HT3 : Hid (Tabs _) := (HT1.out.keep (below_new w1 _)).keep hb
  have HB3 : Hid (_ ∧ _) := And.intro hblk hbel
  clear hb hbel HB HT1 hblk c0 c1 c2 c3 c4 hgl
  go_wp2_with fail
  refine (HD2.out _ HT3.out).mono ?_
  rintro e w4 ⟨rfl, hb⟩
  have hblk := HB3.out.1.below hb
  have hbel := below_all HB3.out.2 hb
  have HT4 : Hid (Tabs _) := HT3.out.keep hb
  have HB4 : Hid (Below _ _ _) := hbel
  have c0 := hblk.cell 0 rfl
  have c1 := hblk.cell 1 rfl
  have c2 := hblk.cell 2 rfl
  have c3 := hblk.cell 3 rfl
  have c4 := hblk.cell 4 rfl
  have hgl := hblk.lt
  clear hb hbel HB3 HT3 hblk
  go_wp2_with fail
  refine (awake_any _ (HT4.out.keep (below_new w4 _))).mono ?_
  rintro e w5 ⟨rfl, hb⟩
  have HB5 : Hid (Below _ _ _) := below_all (below_all HB4.out (below_new w4 _)) hb
  clear hb
  go_wp2
  go_ret
  exact ⟨rfl, HB5.out⟩

set_option maxHeartbeats 2000000 in
theorem back_00 (x : Nat) (hx : x < 4294967296) (op a b c i : Int) (w : World) (h : Tabs w) (hd : decOk x = false) (ho : okI op a b c i = false) : Calls Tryd.prog 7 #[.int .u32 x, insV op a b c i] w fun e w' => e = .returned (.bool true) ∧ Below w.heap.size w w' := by
  have D := fun w h => dec_bad x hx hd w h
  have E2 := fun w h => enc_bad op a b c i ho w h
  clear hd ho
  unfold insV at *
  have HD : Hid (∀ w h, Calls _ _ _ w _) := D
  have HE2 : Hid (∀ w h, Calls _ _ _ w _) := E2
  have HT : Hid (Tabs w) := h
  clear h D E2
  go_enter Tryd.func7, Tryd.ntmps7
  go_wp2_with fail
  refine (HD.out _ (HT.out.keep (below_new w _))).mono ?_
  rintro e w1 ⟨rfl, hb⟩
  obtain ⟨hblk, hbel⟩ := boxed_kept (l := [_, _, _, _, _]) hb
  obtain ⟨g, hg⟩ : ∃ g, g = w.heap.size := ⟨_, rfl⟩
  rw [← hg] at hblk
  rw [← hg]
  have HB : Hid (_ ∧ _) := And.intro hblk hbel
  have HT1 : Hid (Tabs _) := HT.out.keep hbel
  clear hb hg hbel HT
  have c0 := hblk.cell 0 rfl
  have c1 := hblk.cell 1 rfl
  have c2 := hblk.cell 2 rfl
  have c3 := hblk.cell 3 rfl
  have c4 := hblk.cell 4 rfl
  have hgl := hblk.lt
  clear hblk
  go_wp2_with fail
  refine (HE2.out _ (HT1.out.keep (below_new w1 _))).mono ?_
  rintro e w3 ⟨rfl, hb⟩
  have hblk := boxed_on HB.out.1 hb
  have hbel := below_all (below_all HB.out.2 (below_new w1 _)) hb
  have HT3 : Hid (Tabs _) := (HT1.out.keep (below_new w1 _)).keep hb
  have HB3 : Hid (_ ∧ _) := And.intro hblk hbel
  clear hb hbel HB HT1 hblk c0 c1 c2 c3 c4 hgl
  go_wp2_with fail
  refine (awake_any _ HT3.out).mono ?_
  rintro e w5 ⟨rfl, hb⟩
  have HB5 : Hid (Below _ _ _) := below_all HB3.out.2 hb
  clear hb
  go_wp2
  go_ret
  exact ⟨rfl, HB5.out⟩

theorem isaBack_any (x : Nat) (hx : x < 4294967296) (op a b c i : Int) (w : World) (h : Tabs w) : Calls Tryd.prog 7 #[.int .u32 x, insV op a b c i] w fun e w' => e = .returned (.bool true) ∧ Below w.heap.size w w' := by
  cases hd : decOk x <;> cases ho : okI op a b c i
  · exact back_00 x hx op a b c i w h hd ho
  · exact back_01 x hx op a b c i w h hd ho
  · exact back_10 x hx op a b c i w h hd ho
  · exact back_11 x hx op a b c i w h hd ho
end Go.Proofs.YtegediccgnoecaaDoor
