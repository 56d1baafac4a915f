import Derived.Test.YtmkeccibminnhaaRb
namespace Go.Proofs.Ytmkeccibminnhaa
open Go.RowKit
set_option linter.unusedVariables false
set_option maxRecDepth 6000

set_option maxHeartbeats 2000000 in
theorem rregion_any (b g p : Nat) (B : List UInt8) (w : World) (h : Rd w b g B p 0) :
    Calls Try.prog 91 #[.agg #[.pointer (some ⟨b, 0, none⟩)]] w fun e w' => ((∃ (x : Rgn) (q : Nat), rdRgn B p = .ok (x, q) ∧ e = .returned x.v ∧ x.Fine ∧ Rd w' b g B q 0) ∨ (∃ q, rdRgn B p = .error q ∧ e = gone q 110)) ∧ Keeps (· = b) w w' := by
  obtain ⟨c, hc⟩ : ∃ c, c = w.heap.size := ⟨_, rfl⟩
  have HR : Hid (Rd w b g B p 0) := h
  have hb : c ≠ b := by have := h.blk.lt; omega
  have hb1 : c + 1 ≠ b := by have := h.blk.lt; omega
  have HW : Hid (w.heap.size ≤ c) := by rw [hc]; exact Nat.le_refl _
  clear h
  go_enter Try.func91, Try.ntmps91
  go_wp2
  rw [← hc]
  obtain ⟨W, hW⟩ : ∃ W, W = (w.alloc (.cells #[.pointer (some ⟨b, 0, none⟩)] 99)).alloc (.cells #[.int .i64 0, .int .i64 0, .int .i64 0, .int .i64 0] 105) := ⟨_, rfl⟩
  have hB : Blk W c [.pointer (some ⟨b, 0, none⟩)] 99 := by rw [hW, hc]; exact (Blk.new w _ _).alloc _
  have hD : Blk W (c + 1) [.int .i64 0, .int .i64 0, .int .i64 0, .int .i64 0] 105 := by rw [hW, hc]; have := Blk.new (w.alloc (.cells #[.pointer (some ⟨b, 0, none⟩)] 99)) #[.int .i64 0, .int .i64 0, .int .i64 0, .int .i64 0] 105; simpa using this
  have hG0 : Gon w W b g B p := by rw [hW]; exact ⟨HR.out.kept (((Keeps.refl (fun _ => False) w).alloc _).alloc _) (fun e => e) (fun e => e), ((Keeps.refl _ w).alloc _).alloc _⟩
  have p0 := hB.cell (i := 0) rfl
  rw [← hW]
  have HB1 : Hid (Blk W.drew c [.pointer (some ⟨b, 0, none⟩)] 99) := hB.drew
  have HD1 : Hid (Blk W.drew (c + 1) [.int .i64 0, .int .i64 0, .int .i64 0, .int .i64 0] 105) := hD.drew
  have HG1 : Hid (Gon w W.drew b g B p) := hG0.drew
  have HC1 : Hid (rdRgn B p = (rdNum B p).bind _) := rfl
  have HGB : Hid (g < c) := by rw [hc]; exact HR.out.bytes.lt
  clear hW hB hD hG0 HR hc
  refine wp_region_panicTo (fun e w' => ((∃ (x : Rgn) (q : Nat), rdRgn B p = .ok (x, q) ∧ e = .returned x.v ∧ x.Fine ∧ Rd w' b g B q 0) ∨ (∃ q, rdRgn B p = .error q ∧ e = gone q 110)) ∧ Keeps (· = b) w w') (fun c a w h1 h2 => ⟨h1, h2⟩) ?_
  go_region_held2 (fun w' => w'.cell? ⟨c, 0, none⟩ = some (.pointer (some ⟨b, 0, none⟩))) (first | exact hS | go_keep)
    (first
      | (go_at_call 68; refine (number_step HG4.out).mono ?_; rintro e w5 ⟨⟨n4, q4, hr, rfl, hG⟩ | ⟨q, hr, rfl, hK⟩, hK2⟩; rotate_left; exact ⟨rfl, .inr ⟨q, bind_err HC4.out hr, rfl⟩, hK⟩; have hS : w5.cell? ⟨c, 0, none⟩ = some (.pointer (some ⟨b, 0, none⟩)) := (HB4.out.kept hK2 hb).cell (i := 0) rfl; have HN4 : Hid (0 ≤ n4 ∧ n4 < 4294967296) := rdNum_bd hr; have HC' := bind_ok HC4.out hr; have HC5 : Hid (rdRgn B p = _) := HC'; have HB5 : Hid (Blk w5 c [.pointer (some ⟨b, 0, none⟩)] 99) := HB4.out.kept hK2 hb; have HD' := HD4.out.kept hK2 hb1; have HD5 : Hid (Blk w5 (c + 1) [.int .i64 0, .int .i64 0, .int .i64 0, .int .i64 0] 105) := HD'; have HG5 : Hid (Gon w w5 b g B q4) := hG; have z0 := HD'.cell (i := 0) rfl; have f0 := HD'.frozen 0; have z1 := HD'.cell (i := 1) rfl; have f1 := HD'.frozen 1; have z2 := HD'.cell (i := 2) rfl; have f2 := HD'.frozen 2; have z3 := HD'.cell (i := 3) rfl; have f3 := HD'.frozen 3; clear hr hG hK2 HC' HD' HC4 HB4 HD4 HG4)
      | (go_at_call 68; refine (number_step HG3.out).mono ?_; rintro e w4 ⟨⟨n3, q3, hr, rfl, hG⟩ | ⟨q, hr, rfl, hK⟩, hK2⟩; rotate_left; exact ⟨rfl, .inr ⟨q, bind_err HC3.out hr, rfl⟩, hK⟩; have hS : w4.cell? ⟨c, 0, none⟩ = some (.pointer (some ⟨b, 0, none⟩)) := (HB3.out.kept hK2 hb).cell (i := 0) rfl; have HN3 : Hid (0 ≤ n3 ∧ n3 < 4294967296) := rdNum_bd hr; have HC' := bind_ok HC3.out hr; have HC4 : Hid (rdRgn B p = _) := HC'; have HB4 : Hid (Blk w4 c [.pointer (some ⟨b, 0, none⟩)] 99) := HB3.out.kept hK2 hb; have HD' := HD3.out.kept hK2 hb1; have HD4 : Hid (Blk w4 (c + 1) [.int .i64 0, .int .i64 0, .int .i64 0, .int .i64 0] 105) := HD'; have HG4 : Hid (Gon w w4 b g B q3) := hG; skip; clear hr hG hK2 HC' HD' HC3 HB3 HD3 HG3)
      | (go_at_call 68; refine (number_step HG2.out).mono ?_; rintro e w3 ⟨⟨n2, q2, hr, rfl, hG⟩ | ⟨q, hr, rfl, hK⟩, hK2⟩; rotate_left; exact ⟨rfl, .inr ⟨q, bind_err HC2.out hr, rfl⟩, hK⟩; have hS : w3.cell? ⟨c, 0, none⟩ = some (.pointer (some ⟨b, 0, none⟩)) := (HB2.out.kept hK2 hb).cell (i := 0) rfl; have HN2 : Hid (0 ≤ n2 ∧ n2 < 4294967296) := rdNum_bd hr; have HC' := bind_ok HC2.out hr; have HC3 : Hid (rdRgn B p = _) := HC'; have HB3 : Hid (Blk w3 c [.pointer (some ⟨b, 0, none⟩)] 99) := HB2.out.kept hK2 hb; have HD' := HD2.out.kept hK2 hb1; have HD3 : Hid (Blk w3 (c + 1) [.int .i64 0, .int .i64 0, .int .i64 0, .int .i64 0] 105) := HD'; have HG3 : Hid (Gon w w3 b g B q2) := hG; skip; clear hr hG hK2 HC' HD' HC2 HB2 HD2 HG2)
      | (go_at_call 68; refine (number_step HG1.out).mono ?_; rintro e w2 ⟨⟨n1, q1, hr, rfl, hG⟩ | ⟨q, hr, rfl, hK⟩, hK2⟩; rotate_left; exact ⟨rfl, .inr ⟨q, bind_err HC1.out hr, rfl⟩, hK⟩; have hS : w2.cell? ⟨c, 0, none⟩ = some (.pointer (some ⟨b, 0, none⟩)) := (HB1.out.kept hK2 hb).cell (i := 0) rfl; have HN1 : Hid (0 ≤ n1 ∧ n1 < 4294967296) := rdNum_bd hr; have HC' := bind_ok HC1.out hr; have HC2 : Hid (rdRgn B p = _) := HC'; have HB2 : Hid (Blk w2 c [.pointer (some ⟨b, 0, none⟩)] 99) := HB1.out.kept hK2 hb; have HD' := HD1.out.kept hK2 hb1; have HD2 : Hid (Blk w2 (c + 1) [.int .i64 0, .int .i64 0, .int .i64 0, .int .i64 0] 105) := HD'; have HG2 : Hid (Gon w w2 b g B q1) := hG; skip; clear hr hG hK2 HC' HD' HC1 HB1 HD1 HG1))
  refine PanicTo.normal ?_
  have HE : Hid (Blk ((((w5.setCell ⟨c + 1, 0, none⟩ (.int .i64 n1)).setCell ⟨c + 1, 1, none⟩ (.int .i64 n2)).setCell ⟨c + 1, 2, none⟩ (.int .i64 n3)).setCell ⟨c + 1, 3, none⟩ (.int .i64 n4)) (c + 1) [.int .i64 n1, .int .i64 n2, .int .i64 n3, .int .i64 n4] 105) := ((((HD5.out.setCell 0 (.int .i64 n1)).setCell 1 (.int .i64 n2)).setCell 2 (.int .i64 n3)).setCell 3 (.int .i64 n4))
  have HKF : Hid (Keeps (· = b) w ((((w5.setCell ⟨c + 1, 0, none⟩ (.int .i64 n1)).setCell ⟨c + 1, 1, none⟩ (.int .i64 n2)).setCell ⟨c + 1, 2, none⟩ (.int .i64 n3)).setCell ⟨c + 1, 3, none⟩ (.int .i64 n4))) := ((((HG5.out.kp.setCell ⟨c + 1, 0, none⟩ (.int .i64 n1) (fun h => by have := HW.out; simp at h; omega)).setCell ⟨c + 1, 1, none⟩ (.int .i64 n2) (fun h => by have := HW.out; simp at h; omega)).setCell ⟨c + 1, 2, none⟩ (.int .i64 n3) (fun h => by have := HW.out; simp at h; omega)).setCell ⟨c + 1, 3, none⟩ (.int .i64 n4) (fun h => by have := HW.out; simp at h; omega))
  have HRF : Hid (Rd ((((w5.setCell ⟨c + 1, 0, none⟩ (.int .i64 n1)).setCell ⟨c + 1, 1, none⟩ (.int .i64 n2)).setCell ⟨c + 1, 2, none⟩ (.int .i64 n3)).setCell ⟨c + 1, 3, none⟩ (.int .i64 n4)) b g B q4 0) := HG5.out.rd.kept ((((((((Keeps.refl (· = c + 1) w5).setCell ⟨c + 1, 0, none⟩ (.int .i64 n1) (fun _ => rfl))).setCell ⟨c + 1, 1, none⟩ (.int .i64 n2) (fun _ => rfl))).setCell ⟨c + 1, 2, none⟩ (.int .i64 n3) (fun _ => rfl))).setCell ⟨c + 1, 3, none⟩ (.int .i64 n4) (fun _ => rfl)) (fun e => hb1 e.symm) (fun e => by have := HG5.out.rd.ne; have := HGB.out; omega)
  obtain ⟨F, hF⟩ : ∃ F, F = ((((w5.setCell ⟨c + 1, 0, none⟩ (.int .i64 n1)).setCell ⟨c + 1, 1, none⟩ (.int .i64 n2)).setCell ⟨c + 1, 2, none⟩ (.int .i64 n3)).setCell ⟨c + 1, 3, none⟩ (.int .i64 n4)) := ⟨_, rfl⟩
  rw [← hF] at HE HKF HRF ⊢
  clear z0 f0 z1 f1 z2 f2 z3 f3 hF p0 hS HB5 HD5 HG5
  go_wp2
  refine bodyPost_ret (results_cell_row rfl _ _ (c + 1) 105 _ (0, 0) _ rfl HE.out Try.underlying105 rfl (by kernel_rfl)) rfl ?_
  refine ⟨.inl ⟨⟨n1, n2, n3, n4⟩, q4, HC5.out, rfl, ⟨i64_of HN1.out, i64_of HN2.out, i64_of HN3.out, i64_of HN4.out⟩, HRF.out⟩, HKF.out⟩

set_option maxHeartbeats 2000000 in
theorem rport_any (b g p : Nat) (B : List UInt8) (w : World) (h : Rd w b g B p 0) :
    Calls Try.prog 93 #[.agg #[.pointer (some ⟨b, 0, none⟩)]] w fun e w' => ((∃ (x : Prt) (q : Nat), rdPrt B p = .ok (x, q) ∧ e = .returned x.v ∧ x.Fine ∧ Rd w' b g B q 0) ∨ (∃ q, rdPrt B p = .error q ∧ e = gone q 110)) ∧ Keeps (· = b) w w' := by
  obtain ⟨c, hc⟩ : ∃ c, c = w.heap.size := ⟨_, rfl⟩
  have HR : Hid (Rd w b g B p 0) := h
  have hb : c ≠ b := by have := h.blk.lt; omega
  have hb1 : c + 1 ≠ b := by have := h.blk.lt; omega
  have HW : Hid (w.heap.size ≤ c) := by rw [hc]; exact Nat.le_refl _
  clear h
  go_enter Try.func93, Try.ntmps93
  go_wp2
  rw [← hc]
  obtain ⟨W, hW⟩ : ∃ W, W = (w.alloc (.cells #[.pointer (some ⟨b, 0, none⟩)] 99)).alloc (.cells #[.int .i64 0, .bool false] 107) := ⟨_, rfl⟩
  have hB : Blk W c [.pointer (some ⟨b, 0, none⟩)] 99 := by rw [hW, hc]; exact (Blk.new w _ _).alloc _
  have hD : Blk W (c + 1) [.int .i64 0, .bool false] 107 := by rw [hW, hc]; have := Blk.new (w.alloc (.cells #[.pointer (some ⟨b, 0, none⟩)] 99)) #[.int .i64 0, .bool false] 107; simpa using this
  have hG0 : Gon w W b g B p := by rw [hW]; exact ⟨HR.out.kept (((Keeps.refl (fun _ => False) w).alloc _).alloc _) (fun e => e) (fun e => e), ((Keeps.refl _ w).alloc _).alloc _⟩
  have p0 := hB.cell (i := 0) rfl
  rw [← hW]
  have HB1 : Hid (Blk W.drew c [.pointer (some ⟨b, 0, none⟩)] 99) := hB.drew
  have HD1 : Hid (Blk W.drew (c + 1) [.int .i64 0, .bool false] 107) := hD.drew
  have HG1 : Hid (Gon w W.drew b g B p) := hG0.drew
  have HC1 : Hid (rdPrt B p = (rdNum B p).bind _) := rfl
  have HGB : Hid (g < c) := by rw [hc]; exact HR.out.bytes.lt
  clear hW hB hD hG0 HR hc
  refine wp_region_panicTo (fun e w' => ((∃ (x : Prt) (q : Nat), rdPrt B p = .ok (x, q) ∧ e = .returned x.v ∧ x.Fine ∧ Rd w' b g B q 0) ∨ (∃ q, rdPrt B p = .error q ∧ e = gone q 110)) ∧ Keeps (· = b) w w') (fun c a w h1 h2 => ⟨h1, h2⟩) ?_
  go_region_held2 (fun w' => w'.cell? ⟨c, 0, none⟩ = some (.pointer (some ⟨b, 0, none⟩))) (first | exact hS | go_keep)
    (first
      | (go_at_call 98; refine (source_step HG2.out).mono ?_; rintro e w3 ⟨⟨n2, q2, hr, rfl, hG⟩ | ⟨q, hr, rfl, hK⟩, hK2⟩; rotate_left; exact ⟨rfl, .inr ⟨q, bind_err HC2.out hr, rfl⟩, hK⟩; have hS : w3.cell? ⟨c, 0, none⟩ = some (.pointer (some ⟨b, 0, none⟩)) := (HB2.out.kept hK2 hb).cell (i := 0) rfl; have HC' := bind_ok HC2.out hr; have HC3 : Hid (rdPrt B p = _) := HC'; have HB3 : Hid (Blk w3 c [.pointer (some ⟨b, 0, none⟩)] 99) := HB2.out.kept hK2 hb; have HD' := HD2.out.kept hK2 hb1; have HD3 : Hid (Blk w3 (c + 1) [.int .i64 0, .bool false] 107) := HD'; have HG3 : Hid (Gon w w3 b g B q2) := hG; have z0 := HD'.cell (i := 0) rfl; have f0 := HD'.frozen 0; have z1 := HD'.cell (i := 1) rfl; have f1 := HD'.frozen 1; clear hr hG hK2 HC' HD' HC2 HB2 HD2 HG2)
      | (go_at_call 68; refine (number_step HG1.out).mono ?_; rintro e w2 ⟨⟨n1, q1, hr, rfl, hG⟩ | ⟨q, hr, rfl, hK⟩, hK2⟩; rotate_left; exact ⟨rfl, .inr ⟨q, bind_err HC1.out hr, rfl⟩, hK⟩; have hS : w2.cell? ⟨c, 0, none⟩ = some (.pointer (some ⟨b, 0, none⟩)) := (HB1.out.kept hK2 hb).cell (i := 0) rfl; have HN1 : Hid (0 ≤ n1 ∧ n1 < 4294967296) := rdNum_bd hr; have HC' := bind_ok HC1.out hr; have HC2 : Hid (rdPrt B p = _) := HC'; have HB2 : Hid (Blk w2 c [.pointer (some ⟨b, 0, none⟩)] 99) := HB1.out.kept hK2 hb; have HD' := HD1.out.kept hK2 hb1; have HD2 : Hid (Blk w2 (c + 1) [.int .i64 0, .bool false] 107) := HD'; have HG2 : Hid (Gon w w2 b g B q1) := hG; skip; clear hr hG hK2 HC' HD' HC1 HB1 HD1 HG1))
  refine PanicTo.normal ?_
  have HE : Hid (Blk ((w3.setCell ⟨c + 1, 0, none⟩ (.int .i64 n1)).setCell ⟨c + 1, 1, none⟩ (.bool n2)) (c + 1) [.int .i64 n1, .bool n2] 107) := ((HD3.out.setCell 0 (.int .i64 n1)).setCell 1 (.bool n2))
  have HKF : Hid (Keeps (· = b) w ((w3.setCell ⟨c + 1, 0, none⟩ (.int .i64 n1)).setCell ⟨c + 1, 1, none⟩ (.bool n2))) := ((HG3.out.kp.setCell ⟨c + 1, 0, none⟩ (.int .i64 n1) (fun h => by have := HW.out; simp at h; omega)).setCell ⟨c + 1, 1, none⟩ (.bool n2) (fun h => by have := HW.out; simp at h; omega))
  have HRF : Hid (Rd ((w3.setCell ⟨c + 1, 0, none⟩ (.int .i64 n1)).setCell ⟨c + 1, 1, none⟩ (.bool n2)) b g B q2 0) := HG3.out.rd.kept ((((Keeps.refl (· = c + 1) w3).setCell ⟨c + 1, 0, none⟩ (.int .i64 n1) (fun _ => rfl))).setCell ⟨c + 1, 1, none⟩ (.bool n2) (fun _ => rfl)) (fun e => hb1 e.symm) (fun e => by have := HG3.out.rd.ne; have := HGB.out; omega)
  obtain ⟨F, hF⟩ : ∃ F, F = ((w3.setCell ⟨c + 1, 0, none⟩ (.int .i64 n1)).setCell ⟨c + 1, 1, none⟩ (.bool n2)) := ⟨_, rfl⟩
  rw [← hF] at HE HKF HRF ⊢
  clear z0 f0 z1 f1 hF p0 hS HB3 HD3 HG3
  go_wp2
  refine bodyPost_ret (results_cell_row rfl _ _ (c + 1) 107 _ (0, 0) _ rfl HE.out Try.underlying107 rfl (by kernel_rfl)) rfl ?_
  refine ⟨.inl ⟨⟨n1, n2⟩, q2, HC3.out, rfl, i64_of HN1.out, HRF.out⟩, HKF.out⟩

end Go.Proofs.Ytmkeccibminnhaa
