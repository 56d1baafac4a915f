import Derived.Test.YtipejahmjdamjaaGreatDoorDf
namespace Go.Proofs.YtipejahmjdamjaaGreatDoor
open Go.RowKit Go.Shelf
set_option linter.unusedVariables false
set_option maxRecDepth 6000

theorem small_any (w : World) : Calls Tryz.prog 42 #[] w fun e w' => e = .returned (.slice (some ⟨w.heap.size, 0, none⟩) 64 64) ∧ Blk w' w.heap.size (wvs smallL) 37 ∧ Keeps (fun _ => False) w w' := by
  obtain ⟨W1, hW1⟩ : ∃ W1, W1 = w.alloc (.cells (wvs (List.replicate 64 0)).toArray 37) := ⟨_, rfl⟩
  have HM : Hid ((Instr.makeSlice 22 (.int .i64 64) (.int .i64 64)).run Tryz.prog w = .ok (.slice (some ⟨w.heap.size, 0, none⟩) 64 64) W1) := by rw [hW1]; exact run_make_words 64 (by omega)
  have hB : Blk W1 w.heap.size (wvs (List.replicate 64 0)) 37 := by rw [hW1]; exact Blk.new w _ 37
  have hK : Keeps (fun _ => False) w W1 := by rw [hW1]; exact (Keeps.refl _ w).alloc _
  obtain ⟨g, eg⟩ : ∃ g, g = w.heap.size := ⟨_, rfl⟩
  rw [← eg] at HM hB ⊢
  have hB2 := ((((((((hB.setCell 0 (.int .u32 2147483656)).setCell 16 (.int .u32 2147483671)).setCell 17 (.int .u32 2147483673)).setCell 32 (.int .u32 205520901)).setCell 33 (.int .u32 1283457040)).setCell 34 (.int .u32 1346371600)).setCell 35 (.int .u32 2013265926)).setCell 48 (.int .u32 77))
  have hK2 : Keeps (· = g) W1 ((((((((W1.setCell ⟨g, 0, none⟩ (.int .u32 2147483656)).setCell ⟨g, 16, none⟩ (.int .u32 2147483671)).setCell ⟨g, 17, none⟩ (.int .u32 2147483673)).setCell ⟨g, 32, none⟩ (.int .u32 205520901)).setCell ⟨g, 33, none⟩ (.int .u32 1283457040)).setCell ⟨g, 34, none⟩ (.int .u32 1346371600)).setCell ⟨g, 35, none⟩ (.int .u32 2013265926)).setCell ⟨g, 48, none⟩ (.int .u32 77)) := (((((((((Keeps.refl (· = g) W1).setCell _ _ fun _ => rfl).setCell _ _ fun _ => rfl).setCell _ _ fun _ => rfl).setCell _ _ fun _ => rfl).setCell _ _ fun _ => rfl).setCell _ _ fun _ => rfl).setCell _ _ fun _ => rfl).setCell _ _ fun _ => rfl)
  have HE : Hid (Blk ((((((((W1.setCell ⟨g, 0, none⟩ (.int .u32 2147483656)).setCell ⟨g, 16, none⟩ (.int .u32 2147483671)).setCell ⟨g, 17, none⟩ (.int .u32 2147483673)).setCell ⟨g, 32, none⟩ (.int .u32 205520901)).setCell ⟨g, 33, none⟩ (.int .u32 1283457040)).setCell ⟨g, 34, none⟩ (.int .u32 1346371600)).setCell ⟨g, 35, none⟩ (.int .u32 2013265926)).setCell ⟨g, 48, none⟩ (.int .u32 77)) g (wvs smallL) 37 ∧ Keeps (fun _ => False) w ((((((((W1.setCell ⟨g, 0, none⟩ (.int .u32 2147483656)).setCell ⟨g, 16, none⟩ (.int .u32 2147483671)).setCell ⟨g, 17, none⟩ (.int .u32 2147483673)).setCell ⟨g, 32, none⟩ (.int .u32 205520901)).setCell ⟨g, 33, none⟩ (.int .u32 1283457040)).setCell ⟨g, 34, none⟩ (.int .u32 1346371600)).setCell ⟨g, 35, none⟩ (.int .u32 2013265926)).setCell ⟨g, 48, none⟩ (.int .u32 77))) := ⟨hB2, hK.trans hK2 fun k hk e => by omega⟩
  have c0 : W1.cell? ⟨g, 0, none⟩ = some (.int .u32 0) := hB.cell rfl
  have f0 := hB.frozen 0
  have c1 : W1.cell? ⟨g, 16, none⟩ = some (.int .u32 0) := hB.cell rfl
  have f1 := hB.frozen 16
  have c2 : W1.cell? ⟨g, 17, none⟩ = some (.int .u32 0) := hB.cell rfl
  have f2 := hB.frozen 17
  have c3 : W1.cell? ⟨g, 32, none⟩ = some (.int .u32 0) := hB.cell rfl
  have f3 := hB.frozen 32
  have c4 : W1.cell? ⟨g, 33, none⟩ = some (.int .u32 0) := hB.cell rfl
  have f4 := hB.frozen 33
  have c5 : W1.cell? ⟨g, 34, none⟩ = some (.int .u32 0) := hB.cell rfl
  have f5 := hB.frozen 34
  have c6 : W1.cell? ⟨g, 35, none⟩ = some (.int .u32 0) := hB.cell rfl
  have f6 := hB.frozen 35
  have c7 : W1.cell? ⟨g, 48, none⟩ = some (.int .u32 0) := hB.cell rfl
  have f7 := hB.frozen 48
  clear hW1 hB hK eg hB2 hK2
  go_enter Tryz.func42, Tryz.ntmps42
  go_wp2_with (at_make; refine wpList_make_run rfl (.const (.int .i64 64)) (.const (.int .i64 64)) 22 rfl (.int .i64 64) (.int .i64 64) (.slice (some ⟨g, 0, none⟩) 64 64) W1 rfl rfl HM.out ?_; refine Hid.out ?_)
  unfold Hid
  go_wp2
  go_ret
  exact ⟨rfl, HE.out⟩

end Go.Proofs.YtipejahmjdamjaaGreatDoor
namespace Go.Proofs.YtipejahmjdamjaaGreatDoor
open Go.RowKit Go.Shelf
set_option linter.unusedVariables false
set_option maxRecDepth 6000

theorem step_r1 (c tb cb b g : Nat) (FT FC : Nat → Prop) (w : World) (h : CoreAt w c tb cb (List.replicate 16 0) 0 [] (fun _ => []) FT FC) (hM : Mn w b g 4 smallL) (hap : ∀ k, (k = c ∨ FT k ∨ FC k) → k ≠ b ∧ k ≠ g) (hT : Is.Tabs w) (hg : 2 ≤ g) :
    Calls Tryz.prog 26 #[ptr c, ptr b, .int .i64 0, .int .u32 900] w fun e w' => e = .returned (.tuple #[.agg #[.int .i64 14, .int .i64 0, .int .i64 (-1), .int .u32 0, .int .u32 205520901, .bool false, .int .u32 0, .int .u32 0], .int .i64 0]) ∧ Stepped w w' c tb cb b g 4 FT FC rg1 1 smallL [⟨0, 2, 7⟩] (Ch.step 8 fun _ => []) :=
  step_any c tb cb b g 4 0 900 _ 0 _ _ FT FC smallL w h hM hap hT hg (by omega) (by omega) (R1 c b) (small_R1 c b)

theorem step_r2 (c tb cb b g : Nat) (FT FC : Nat → Prop) (w : World) (h : CoreAt w c tb cb rg1 1 [⟨0, 2, 7⟩] (Ch.step 8 fun _ => []) FT FC) (hM : Mn w b g 4 smallL) (hap : ∀ k, (k = c ∨ FT k ∨ FC k) → k ≠ b ∧ k ≠ g) (hT : Is.Tabs w) (hg : 2 ≤ g) :
    Calls Tryz.prog 26 #[ptr c, ptr b, .int .i64 0, .int .u32 914] w fun e w' => e = .returned (.tuple #[.agg #[.int .i64 15, .int .i64 0, .int .i64 (-1), .int .u32 1, .int .u32 1283457040, .bool true, .int .u32 16, .int .u32 77], .int .i64 0]) ∧ Stepped w w' c tb cb b g 4 FT FC rg2 2 smallL [⟨0, 2, 7⟩, ⟨1, 3, 1⟩] (Ch.step 12 (Ch.step 8 (Ch.step 8 fun _ => []))) :=
  step_any c tb cb b g 4 0 914 _ 1 _ _ FT FC smallL w h hM hap hT hg (by omega) (by omega) (R2 c b) (small_R2 c b)

/-- All that a step leaves, for the next one. -/
theorem Stepped.tabs {w w' : World} {c tb cb b g n : Nat} {FT FC : Nat → Prop} {rg : List UInt32} {pc : Nat} {xs : List UInt32} {ls : List Tl.Lf} {st : Nat → List Int} (h : Stepped w w' c tb cb b g n FT FC rg pc xs ls st) (hT : Is.Tabs w) (hc : ∀ k, (k = c ∨ FT k ∨ FC k) → 2 ≤ k) (hg : 2 ≤ g) : Is.Tabs w' :=
  tabs_kept hT h.kp fun k hk => by
    rcases hk with e | e | e | e
    · exact hc k (.inl e)
    · omega
    · exact hc k (.inr (.inl e))
    · exact hc k (.inr (.inr e))

theorem field_c2 (w : World) : (Instr.field 40 (.agg #[.int .u32 0, .int .u32 5, .int .u32 77, .int .u32 0, .int .u32 0, .int .u32 0, .int .u32 0, .int .u32 0, .int .u32 0, .int .u32 0, .int .u32 0, .int .u32 0, .int .u32 0, .int .u32 0, .int .u32 0, .int .u32 0, .int .u32 2]) 0).run Tryz.prog w = .ok (.agg #[.int .u32 0, .int .u32 5, .int .u32 77, .int .u32 0, .int .u32 0, .int .u32 0, .int .u32 0, .int .u32 0, .int .u32 0, .int .u32 0, .int .u32 0, .int .u32 0, .int .u32 0, .int .u32 0, .int .u32 0, .int .u32 0]) w := by kernel_rfl
theorem index_c2 (w : World) : (Instr.index 38 (.agg #[.int .u32 0, .int .u32 5, .int .u32 77, .int .u32 0, .int .u32 0, .int .u32 0, .int .u32 0, .int .u32 0, .int .u32 0, .int .u32 0, .int .u32 0, .int .u32 0, .int .u32 0, .int .u32 0, .int .u32 0, .int .u32 0]) (.int .i64 2)).run Tryz.prog w = .ok (.int .u32 77) w := by kernel_rfl

set_option maxHeartbeats 8000000 in
theorem awake_any (w : World) (hT : Is.Tabs w) : Calls Tryz.prog 12 #[] w fun e w' => e = .returned (.bool true) ∧ Keeps (fun _ => False) w w' := by
  have H1 : Hid (Calls _ _ _ _ _) := small_any w
  have HT : Hid (Is.Tabs w) := hT
  clear hT
  go_enter Tryz.func12, Tryz.ntmps12
  go_wp2_with fail
  refine H1.out.mono ?_
  rintro e w1 ⟨rfl, hB, hK1⟩
  have H2 : Hid (Calls Tryz.prog 8 #[.slice (some ⟨w.heap.size, 0, none⟩) 64 64] w1 fun e w' => ∃ b, e = .returned (.tuple #[ptr b, .int .i64 0]) ∧ Mn w' b w1.heap.size 4 smallL ∧ w1.heap.size ≤ b ∧ Keeps (fun _ => False) w1 w') := of_yes (some ⟨w.heap.size, 0, none⟩) 64 smallL 4 w1 (segW_of_blk hB) rfl (by omega) (by omega)
  have HK1 : Hid (Keeps (fun _ => False) w w1) := hK1
  clear hB hK1 H1
  go_wp2_with fail
  refine H2.out.mono ?_
  rintro e w2 ⟨b, rfl, hM, hb, hK2⟩
  obtain ⟨g, eg⟩ : ∃ g, g = w1.heap.size := ⟨_, rfl⟩
  rw [← eg] at hM
  have hT2 : Is.Tabs w2 := tabs_kept (tabs_kept HT.out HK1.out fun _ h => h.elim) hK2 fun _ h => h.elim
  have H3 : Hid (Calls _ _ _ _ _) := new_core w2 (tabs_two hT2)
  have HM : Hid (Mn w2 b g 4 smallL ∧ g = w1.heap.size ∧ w1.heap.size ≤ b ∧ Keeps (fun _ => False) w1 w2 ∧ Is.Tabs w2) := ⟨hM, eg, hb, hK2, hT2⟩
  clear hM eg hb hK2 hT2 H2
  go_wp2_with fail
  refine H3.out.mono ?_
  rintro e w3 ⟨c, tb, cb, FT, FC, rfl, hC, hn, hK3⟩
  obtain ⟨m1, m2, m3, m4, m5⟩ := HM.out
  have s1 := HK1.out.size
  have s2 := m4.size
  have s3 := tabs_two HT.out
  have hgb : b < w2.heap.size ∧ g < w2.heap.size := ⟨m1.mm.blk.lt, m1.mm.row.lt⟩
  have hap : ∀ k, (k = c ∨ FT k ∨ FC k) → k ≠ b ∧ k ≠ g := fun k hk => by have := hn k hk; exact ⟨by omega, by omega⟩
  have hT3 : Is.Tabs w3 := tabs_kept m5 hK3 fun _ h => h.elim
  have hM3 := m1.grown hK3
  have H4 : Hid (Calls _ _ _ _ _) := step_r1 c tb cb b g FT FC w3 hC hM3 hap hT3 (by omega)
  have H5 : Hid (CoreAt w3 c tb cb (List.replicate 16 0) 0 [] (fun _ => []) FT FC ∧ Is.Tabs w3 ∧ (∀ k, (k = c ∨ FT k ∨ FC k) → w.heap.size ≤ k) ∧ w.heap.size ≤ g ∧ Keeps (fun _ => False) w w3 ∧ 2 ≤ w.heap.size) := ⟨hC, hT3, fun k hk => by have := hn k hk; omega, by omega, (HK1.out.trans m4 fun _ _ h => h).trans hK3 fun _ _ h => h, s3⟩
  clear m1 m2 m3 m4 m5 s1 s2 s3 hgb hap hT3 hM3 hC hn hK3 H3
  go_wp2_with fail
  refine H4.out.mono ?_
  rintro e w4 ⟨rfl, hS⟩
  obtain ⟨⟨FT2, FC2, hC4, f1, f2, hap⟩, hM4, hK4⟩ := hS
  have hT4 : Is.Tabs w4 := Stepped.tabs ⟨⟨FT2, FC2, hC4, f1, f2, hap⟩, hM4, hK4⟩ H5.out.2.1 H5.out.1.two (by have := H5.out; omega)
  have hk : Keeps (fun _ => False) w4 (w4.alloc (.cells #[.int .i64 14, .int .i64 0, .int .i64 (-1), .int .u32 0, .int .u32 205520901, .bool false, .int .u32 0, .int .u32 0] 58)) := (Keeps.refl _ w4).alloc _
  have H6 : Hid (Calls _ _ _ _ _) := step_r2 c tb cb b g FT2 FC2 (w4.alloc (.cells #[.int .i64 14, .int .i64 0, .int .i64 (-1), .int .u32 0, .int .u32 205520901, .bool false, .int .u32 0, .int .u32 0] 58)) (hC4.kept hk fun _ _ h => h) (hM4.grown hk) hap (tabs_kept hT4 hk fun _ h => h.elim) (by have := H5.out; omega)
  have H7 : Hid (Keeps (fun _ => False) w w4 ∧ (∀ k, (k = c ∨ k = g ∨ FT2 k ∨ FC2 k) → w.heap.size ≤ k) ∧ w4.heap.size < (w4.alloc (.cells #[.int .i64 14, .int .i64 0, .int .i64 (-1), .int .u32 0, .int .u32 205520901, .bool false, .int .u32 0, .int .u32 0] 58)).heap.size) := by
    obtain ⟨p1, p2, p3, p4, p5, p6⟩ := H5.out
    have z := p5.size
    refine ⟨p5.trans hK4 fun k hk e => ?_, fun k hk => ?_, by simp⟩
    · rcases e with e | e | e | e
      · have := p3 k (.inl e); omega
      · omega
      · have := p3 k (.inr (.inl e)); omega
      · have := p3 k (.inr (.inr e)); omega
    · rcases hk with e | e | e | e
      · exact p3 k (.inl e)
      · omega
      · rcases f1 k e with e | e
        · exact p3 k (.inr (.inl e))
        · omega
      · rcases f2 k e with e | e
        · exact p3 k (.inr (.inr e))
        · omega
  have HA : Hid (Blk (w4.alloc (.cells #[.int .i64 14, .int .i64 0, .int .i64 (-1), .int .u32 0, .int .u32 205520901, .bool false, .int .u32 0, .int .u32 0] 58)) w4.heap.size [.int .i64 14, .int .i64 0, .int .i64 (-1), .int .u32 0, .int .u32 205520901, .bool false, .int .u32 0, .int .u32 0] 58 ∧ ¬ (fun k => k = c ∨ k = g ∨ FT2 k ∨ FC2 k) w4.heap.size) := ⟨Blk.new w4 _ 58, fun e => by
    have e1 := hC4.blk.lt
    have e2 := hM4.mm.row.lt
    rcases e with e | e | e | e
    · omega
    · omega
    · have := hC4.tl.lt _ e; omega
    · have := hC4.ca.lt _ e; omega⟩
  clear hC4 f1 f2 hap hM4 hK4 hT4 hk H4
  go_wp2_with fail
  refine H6.out.mono ?_
  rintro e w5 ⟨rfl, hS⟩
  obtain ⟨⟨FT3, FC3, hC5, f1, f2, hap⟩, hM5, hK5⟩ := hS
  have hb5 := HA.out.1.kept hK5 HA.out.2
  have hb6 := hb5.alloc (.cells #[.int .i64 15, .int .i64 0, .int .i64 (-1), .int .u32 1, .int .u32 1283457040, .bool true, .int .u32 16, .int .u32 77] 58)
  have c0 : (w5.alloc (.cells #[.int .i64 15, .int .i64 0, .int .i64 (-1), .int .u32 1, .int .u32 1283457040, .bool true, .int .u32 16, .int .u32 77] 58)).cell? ⟨w4.heap.size, 0, none⟩ = some (.int .i64 14) := hb6.cell rfl
  have hk : Keeps (fun _ => False) w5 (w5.alloc (.cells #[.int .i64 15, .int .i64 0, .int .i64 (-1), .int .u32 1, .int .u32 1283457040, .bool true, .int .u32 16, .int .u32 77] 58)) := (Keeps.refl _ w5).alloc _
  have H8 : Hid (Calls Tryz.prog 19 #[ptr c] (w5.alloc (.cells #[.int .i64 15, .int .i64 0, .int .i64 (-1), .int .u32 1, .int .u32 1283457040, .bool true, .int .u32 16, .int .u32 77] 58)) fun e w' => e = .returned (.agg #[.int .u32 0, .int .u32 5, .int .u32 77, .int .u32 0, .int .u32 0, .int .u32 0, .int .u32 0, .int .u32 0, .int .u32 0, .int .u32 0, .int .u32 0, .int .u32 0, .int .u32 0, .int .u32 0, .int .u32 0, .int .u32 0, .int .u32 2]) ∧ Keeps (fun _ => False) (w5.alloc (.cells #[.int .i64 15, .int .i64 0, .int .i64 (-1), .int .u32 1, .int .u32 1283457040, .bool true, .int .u32 16, .int .u32 77] 58)) w') := context_any c tb cb rg2 2 _ _ FT3 FC3 _ (hC5.kept hk fun _ _ h => h)
  have H9 : Hid (Keeps (fun _ => False) w (w5.alloc (.cells #[.int .i64 15, .int .i64 0, .int .i64 (-1), .int .u32 1, .int .u32 1283457040, .bool true, .int .u32 16, .int .u32 77] 58))) := by
    obtain ⟨p1, p2, p3⟩ := H7.out
    have z := p1.size
    exact ((p1.alloc _).trans hK5 fun k hk e => by have := p2 k e; omega).alloc _
  clear hC5 f1 f2 hap hM5 hK5 hb5 hb6 hk H6
  go_wp2_with fail
  refine H8.out.mono ?_
  rintro e w6 ⟨rfl, hK6⟩
  have HE : Hid (Keeps (fun _ => False) w w6) := H9.out.trans hK6 fun _ _ h => h
  clear hK6 H8 H9 c0
  have hf := field_c2 w6
  have hi := index_c2 w6
  go_wp2
  go_ret
  exact ⟨rfl, HE.out⟩

end Go.Proofs.YtipejahmjdamjaaGreatDoor
