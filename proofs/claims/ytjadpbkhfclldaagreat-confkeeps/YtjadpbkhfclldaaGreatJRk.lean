import Derived.Test.YtjadpbkhfclldaaGreatJRg
namespace Go.Proofs.YtjadpbkhfclldaaGreat
open Go.RowKit
set_option linter.unusedVariables false
set_option maxRecDepth 6000
set_option linter.unusedSimpArgs false

theorem Tryz.size47 : (Tryz.prog.info? 47).map (·.size) = some 8 := by kernel_rfl
theorem all69 (s : ByteArray) (n1 n2 n3 n4 n5 : Int) (a1 : Option Addr) (m1 c1 : Nat) (a2 : Option Addr) (m2 c2 : Nat) : (#[.string s, .int .i64 n1, .int .i64 n2, .int .i64 n3, .int .i64 n4, .int .i64 n5, .slice a1 m1 c1, .slice a2 m2 c2] : Array Value).all (·.oneCell') = true := by kernel_rfl
theorem store69 (w : World) (g : Nat) (old : List Value) (h : Blk w g old 47) (ho : old.length = 8) (s : ByteArray) (n1 n2 n3 n4 n5 : Int) (a1 : Option Addr) (m1 c1 : Nat) (a2 : Option Addr) (m2 c2 : Nat) : (storeVar 47 ⟨g, 0, none⟩ (.agg #[.string s, .int .i64 n1, .int .i64 n2, .int .i64 n3, .int .i64 n4, .int .i64 n5, .slice a1 m1 c1, .slice a2 m2 c2])).run Tryz.prog w = .ok () (w.setRow g #[.string s, .int .i64 n1, .int .i64 n2, .int .i64 n3, .int .i64 n4, .int .i64 n5, .slice a1 m1 c1, .slice a2 m2 c2]) :=
  run_storeVar_row w g 47 47 old.toArray _ h Tryz.size47 (by simp [ho]) (all69 ..)

theorem txtV_len (B : List UInt8) (p : Nat) : (txtV B p 0 255).length ≤ 255 := by
  unfold txtV
  split
  · rename_i h
    unfold txtE at h
    split at h
    · omega
    · split at h
      · omega
      · split at h
        · omega
        · rw [List.length_take]; omega
  · simp

set_option maxHeartbeats 4000000 in
theorem rpartition_any (b g p : Nat) (B : List UInt8) (w : World) (h : Rd w b g B p 0) :
    Calls Tryz.prog 80 #[.agg #[.pointer (some ⟨b, 0, none⟩)]] w fun e w' => ((∃ (x : Par) (q : Nat), rdPar B p = .ok (x.pure, q) ∧ e = .returned x.v ∧ eParR.Ok w' x ∧ (∀ k ∈ eParR.bl x, w.heap.size ≤ k ∧ k < w'.heap.size) ∧ Rd w' b g B q 0) ∨ (∃ q, rdPar B p = .error q ∧ e = gone q 110)) ∧ Keeps (· = b) w w' := by
  obtain ⟨c, hc⟩ : ∃ c, c = w.heap.size := ⟨_, rfl⟩
  have HR : Hid (Rd w b g B p 0) := h
  have hb : c ≠ b := by have := h.blk.lt; omega
  have hb1 : c + 1 ≠ b := by have := h.blk.lt; omega
  have HBC : Hid (b < c) := by rw [hc]; exact h.blk.lt
  have HW : Hid (c = w.heap.size) := hc
  clear h
  go_enter Tryz.func80, Tryz.ntmps80
  go_wp2
  rw [← hc]
  obtain ⟨W, hW⟩ : ∃ W, W = (w.alloc (.cells #[.pointer (some ⟨b, 0, none⟩)] 126)).alloc (.cells #[.string ⟨#[]⟩, .int .i64 0, .int .i64 0, .int .i64 0, .int .i64 0, .int .i64 0, .slice none 0 0, .slice none 0 0] 47) := ⟨_, rfl⟩
  have hB : Blk W c [.pointer (some ⟨b, 0, none⟩)] 126 := by rw [hW, hc]; exact (Blk.new w _ _).alloc _
  have hD : Blk W (c + 1) [.string ⟨#[]⟩, .int .i64 0, .int .i64 0, .int .i64 0, .int .i64 0, .int .i64 0, .slice none 0 0, .slice none 0 0] 47 := by rw [hW, hc]; have := Blk.new (w.alloc (.cells #[.pointer (some ⟨b, 0, none⟩)] 126)) #[.string ⟨#[]⟩, .int .i64 0, .int .i64 0, .int .i64 0, .int .i64 0, .int .i64 0, .slice none 0 0, .slice none 0 0] 47; simpa using this
  have hG0 : Gon w W b g B p := by rw [hW]; exact ⟨HR.out.kept (((Keeps.refl (fun _ => False) w).alloc _).alloc _) (fun e => e) (fun e => e), ((Keeps.refl _ w).alloc _).alloc _⟩
  have p0 := hB.cell (i := 0) rfl
  rw [← hW]
  obtain ⟨w1, hw1⟩ : ∃ w1, w1 = W.drew := ⟨_, rfl⟩
  have HB1 : Hid (Blk W.drew c [.pointer (some ⟨b, 0, none⟩)] 126) := hB.drew
  have HD1 : Hid (Blk W.drew (c + 1) [.string ⟨#[]⟩, .int .i64 0, .int .i64 0, .int .i64 0, .int .i64 0, .int .i64 0, .slice none 0 0, .slice none 0 0] 47) := hD.drew
  have HG1 : Hid (Gon w W.drew b g B p) := hG0.drew
  have HC1 : Hid (rdPar B p = (rdText B p).bind _) := rfl
  have HGB : Hid (g < c) := by rw [hc]; exact HR.out.bytes.lt
  clear hW hB hD hG0 HR hc hw1
  obtain ⟨SV, hSV⟩ : ∃ SV : ByteArray, (⟨(txtV B p 0 255).toArray⟩ : ByteArray) = SV := ⟨_, rfl⟩
  have HTX : Hid ((⟨(txtV B p 0 255).toArray⟩ : ByteArray) = SV) := hSV
  clear hSV
  refine wp_region_panicTo (fun e w' => ((∃ (x : Par) (q : Nat), rdPar B p = .ok (x.pure, q) ∧ e = .returned x.v ∧ eParR.Ok w' x ∧ (∀ k ∈ eParR.bl x, w.heap.size ≤ k ∧ k < w'.heap.size) ∧ Rd w' b g B q 0) ∨ (∃ q, rdPar B p = .error q ∧ e = gone q 110)) ∧ Keeps (· = b) w w') (fun c a w h1 h2 => ⟨h1, h2⟩) ?_
  have p1 : W.drew.cell? ⟨c, 0, none⟩ = some (.pointer (some ⟨b, 0, none⟩)) := HB1.out.cell (i := 0) rfl
  refine wp_region_held_drew (S := fun w' => w'.cell? ⟨c, 0, none⟩ = some (.pointer (some ⟨b, 0, none⟩))) (by kernel_rfl) p1 (fun hHeld => ?_)
  simp only [List.size_toArray, List.length_cons, List.length_nil, Nat.reduceAdd, Array.replicate_succ, Array.replicate_zero, List.push_toArray, List.append_toArray, List.nil_append, List.cons_append]
  refine wpAnyH_take (i := 0) (v := .agg #[.pointer (some ⟨b, 0, none⟩)]) rfl (by kernel_rfl) (by kernel_rfl) (by kernel_rfl) (fun _ _ _ h => h) (Or.inl ⟨by rfl, by (intro w hSw; (try dsimp only at hSw); go_simp)⟩) hHeld ?_
  simp only [Act.put, List.setIfInBounds_toArray, List.set_cons_zero, List.set_cons_succ]
  refine wpAnyH_take (i := 1) (v := .pointer (some ⟨c, 0, none⟩)) rfl (by kernel_rfl) (by kernel_rfl) (by kernel_rfl) (fun _ _ _ h => h) (Or.inl ⟨by rfl, by (intro w hSw; (try dsimp only at hSw); go_simp)⟩) hHeld ?_
  simp only [Act.put, List.setIfInBounds_toArray, List.set_cons_zero, List.set_cons_succ]
  refine wpAnyH_take (i := 2) (v := .pointer (some ⟨b, 0, none⟩)) rfl (by kernel_rfl) (by kernel_rfl) (by kernel_rfl) (fun _ _ _ h => h) (Or.inl ⟨by rfl, by (intro w hSw; (try dsimp only at hSw); go_simp)⟩) hHeld ?_
  simp only [Act.put, List.setIfInBounds_toArray, List.set_cons_zero, List.set_cons_succ]
  refine wpAnyH_take (i := 5) (v := .agg #[.pointer (some ⟨b, 0, none⟩)]) rfl (by kernel_rfl) (by kernel_rfl) (by kernel_rfl) (fun _ _ _ h => h) (Or.inl ⟨by rfl, by (intro w hSw; (try dsimp only at hSw); go_simp)⟩) hHeld ?_
  simp only [Act.put, List.setIfInBounds_toArray, List.set_cons_zero, List.set_cons_succ]
  refine wpAnyH_take (i := 7) (v := .agg #[.pointer (some ⟨b, 0, none⟩)]) rfl (by kernel_rfl) (by kernel_rfl) (by kernel_rfl) (fun _ _ _ h => h) (Or.inl ⟨by rfl, by (intro w hSw; (try dsimp only at hSw); go_simp)⟩) hHeld ?_
  simp only [Act.put, List.setIfInBounds_toArray, List.set_cons_zero, List.set_cons_succ]
  refine wpAnyH_take (i := 9) (v := .agg #[.pointer (some ⟨b, 0, none⟩)]) rfl (by kernel_rfl) (by kernel_rfl) (by kernel_rfl) (fun _ _ _ h => h) (Or.inl ⟨by rfl, by (intro w hSw; (try dsimp only at hSw); go_simp)⟩) hHeld ?_
  simp only [Act.put, List.setIfInBounds_toArray, List.set_cons_zero, List.set_cons_succ]
  refine wpAnyH_take (i := 11) (v := .agg #[.pointer (some ⟨b, 0, none⟩)]) rfl (by kernel_rfl) (by kernel_rfl) (by kernel_rfl) (fun _ _ _ h => h) (Or.inl ⟨by rfl, by (intro w hSw; (try dsimp only at hSw); go_simp)⟩) hHeld ?_
  simp only [Act.put, List.setIfInBounds_toArray, List.set_cons_zero, List.set_cons_succ]
  refine wpAnyH_take (i := 13) (v := .agg #[.pointer (some ⟨b, 0, none⟩)]) rfl (by kernel_rfl) (by kernel_rfl) (by kernel_rfl) (fun _ _ _ h => h) (Or.inl ⟨by rfl, by (intro w hSw; (try dsimp only at hSw); go_simp)⟩) hHeld ?_
  simp only [Act.put, List.setIfInBounds_toArray, List.set_cons_zero, List.set_cons_succ]
  refine wpAnyH_take (i := 15) (v := .agg #[.pointer (some ⟨b, 0, none⟩)]) rfl (by kernel_rfl) (by kernel_rfl) (by kernel_rfl) (fun _ _ _ h => h) (Or.inl ⟨by rfl, by (intro w hSw; (try dsimp only at hSw); go_simp)⟩) hHeld ?_
  simp only [Act.put, List.setIfInBounds_toArray, List.set_cons_zero, List.set_cons_succ]
  refine wpAnyH_take (i := 17) (v := .agg #[.pointer (some ⟨b, 0, none⟩)]) rfl (by kernel_rfl) (by kernel_rfl) (by kernel_rfl) (fun _ _ _ h => h) (Or.inl ⟨by rfl, by (intro w hSw; (try dsimp only at hSw); go_simp)⟩) hHeld ?_
  simp only [Act.put, List.setIfInBounds_toArray, List.set_cons_zero, List.set_cons_succ]
  refine wpAnyH_ready (rs := [3]) (by kernel_rfl) (by simp) ?_
  refine AllReadyH.cons rfl (fun K hK => ?_) AllReadyH.nil
  go_simp
  refine (rText_any b g _ 0 255 B _ HG1.out.rd).mono ?_
  rintro e w2 ⟨rfl, hR2, hK2⟩
  have HR2 : Hid (Rd w2 b g B (txtP B p 0 255) (txtE B p 0 255) ∧ Keeps (· = b) w w2) := ⟨hR2, HG1.out.kp.trans hK2 fun _ _ e => e⟩
  have HC2 := HC1
  rw [HTX.out]
  have hS : w2.cell? ⟨c, 0, none⟩ = some (.pointer (some ⟨b, 0, none⟩)) := (HB1.out.kept hK2 hb).cell (i := 0) rfl
  have HB2 : Hid (Blk w2 c [.pointer (some ⟨b, 0, none⟩)] 126) := HB1.out.kept hK2 hb
  have HD' := HD1.out.kept hK2 hb1
  have HD2 : Hid (Blk w2 (c + 1) [.string ⟨#[]⟩, .int .i64 0, .int .i64 0, .int .i64 0, .int .i64 0, .int .i64 0, .slice none 0 0, .slice none 0 0] 47) := HD'
  have HKK1 : Hid (Keeps (· = b) _ w2) := hK2
  skip
  clear hK2 HD' HB1 HD1
  clear hR2 HG1 HC1
  refine hK.out _ _ hS (fun hHeld => ?_)
  simp only [Act.put, List.setIfInBounds_toArray, List.set_cons_zero, List.set_cons_succ]
  refine wpAnyH_ready (rs := [4]) (by kernel_rfl) (by simp) ?_
  refine AllReadyH.cons rfl (fun K hK => ?_) AllReadyH.nil
  go_simp
  refine (itemT_any b g _ B _ _ _ HR2.out.1).mono ?_
  rintro e w3 ⟨⟨he, rfl⟩ | ⟨he, rfl⟩, hK3⟩
  rotate_left
  exact ⟨rfl, .inr ⟨p, bind_err HC2.out ((rdText_of B p).elim (fun h => absurd h.1 he) (fun h => h.2.1)), by rw [(rdText_of B p).elim (fun h => absurd h.1 he) (fun h => h.2.2)]⟩, HR2.out.2.trans hK3 fun _ _ e => e.elim⟩
  have hK2 : Keeps (· = b) w2 w3 := hK3.mono fun _ _ e => e.elim
  have hr := (rdText_of B p).elim (fun h => h.2) (fun h => absurd he h.1)
  have HC' := bind_ok HC2.out hr
  have HC3 : Hid (rdPar B p = _) := HC'
  have HG3 : Hid (Gon w w3 b g B (txtP B p 0 255)) := ⟨by have := HR2.out.1.kept hK3 (fun e => e) (fun e => e); rw [he] at this; exact this, HR2.out.2.trans hK2 fun _ _ e => e⟩
  have hS : w3.cell? ⟨c, 0, none⟩ = some (.pointer (some ⟨b, 0, none⟩)) := (HB2.out.kept hK2 hb).cell (i := 0) rfl
  have HB3 : Hid (Blk w3 c [.pointer (some ⟨b, 0, none⟩)] 126) := HB2.out.kept hK2 hb
  have HD' := HD2.out.kept hK2 hb1
  have HD3 : Hid (Blk w3 (c + 1) [.string ⟨#[]⟩, .int .i64 0, .int .i64 0, .int .i64 0, .int .i64 0, .int .i64 0, .slice none 0 0, .slice none 0 0] 47) := HD'
  have HKK2 : Hid (Keeps (· = b) _ w3) := hK2
  skip
  clear hK2 HD' HB2 HD2
  clear hr he hK3 HC' HC2 HR2
  refine hK.out _ _ hS (fun hHeld => ?_)
  simp only [Act.put, List.setIfInBounds_toArray, List.set_cons_zero, List.set_cons_succ]
  refine wpAnyH_ready (rs := [6]) (by kernel_rfl) (by simp) ?_
  refine AllReadyH.cons rfl (fun K hK => ?_) AllReadyH.nil
  go_simp
  refine (number_step HG3.out).mono ?_
  rintro e w4 ⟨⟨n3, q3, hr, rfl, hG⟩ | ⟨q, hr, rfl, hK⟩, hK2⟩
  rotate_left
  exact ⟨rfl, .inr ⟨q, bind_err HC3.out hr, rfl⟩, hK⟩
  have HN3 : Hid (0 ≤ n3 ∧ n3 < 4294967296) := rdNum_bd hr
  have HC' := bind_ok HC3.out hr
  have HC4 : Hid (rdPar B p = _) := HC'
  have HG4 : Hid (Gon w w4 b g B q3) := hG
  have hS : w4.cell? ⟨c, 0, none⟩ = some (.pointer (some ⟨b, 0, none⟩)) := (HB3.out.kept hK2 hb).cell (i := 0) rfl
  have HB4 : Hid (Blk w4 c [.pointer (some ⟨b, 0, none⟩)] 126) := HB3.out.kept hK2 hb
  have HD' := HD3.out.kept hK2 hb1
  have HD4 : Hid (Blk w4 (c + 1) [.string ⟨#[]⟩, .int .i64 0, .int .i64 0, .int .i64 0, .int .i64 0, .int .i64 0, .slice none 0 0, .slice none 0 0] 47) := HD'
  have HKK3 : Hid (Keeps (· = b) _ w4) := hK2
  skip
  clear hK2 HD' HB3 HD3
  clear hr hG HC' HC3 HG3
  refine hK.out _ _ hS (fun hHeld => ?_)
  simp only [Act.put, List.setIfInBounds_toArray, List.set_cons_zero, List.set_cons_succ]
  refine wpAnyH_ready (rs := [8]) (by kernel_rfl) (by simp) ?_
  refine AllReadyH.cons rfl (fun K hK => ?_) AllReadyH.nil
  go_simp
  refine (number_step HG4.out).mono ?_
  rintro e w5 ⟨⟨n4, q4, hr, rfl, hG⟩ | ⟨q, hr, rfl, hK⟩, hK2⟩
  rotate_left
  exact ⟨rfl, .inr ⟨q, bind_err HC4.out hr, rfl⟩, hK⟩
  have HN4 : Hid (0 ≤ n4 ∧ n4 < 4294967296) := rdNum_bd hr
  have HC' := bind_ok HC4.out hr
  have HC5 : Hid (rdPar B p = _) := HC'
  have HG5 : Hid (Gon w w5 b g B q4) := hG
  have hS : w5.cell? ⟨c, 0, none⟩ = some (.pointer (some ⟨b, 0, none⟩)) := (HB4.out.kept hK2 hb).cell (i := 0) rfl
  have HB5 : Hid (Blk w5 c [.pointer (some ⟨b, 0, none⟩)] 126) := HB4.out.kept hK2 hb
  have HD' := HD4.out.kept hK2 hb1
  have HD5 : Hid (Blk w5 (c + 1) [.string ⟨#[]⟩, .int .i64 0, .int .i64 0, .int .i64 0, .int .i64 0, .int .i64 0, .slice none 0 0, .slice none 0 0] 47) := HD'
  have HKK4 : Hid (Keeps (· = b) _ w5) := hK2
  skip
  clear hK2 HD' HB4 HD4
  clear hr hG HC' HC4 HG4
  refine hK.out _ _ hS (fun hHeld => ?_)
  simp only [Act.put, List.setIfInBounds_toArray, List.set_cons_zero, List.set_cons_succ]
  refine wpAnyH_ready (rs := [10]) (by kernel_rfl) (by simp) ?_
  refine AllReadyH.cons rfl (fun K hK => ?_) AllReadyH.nil
  go_simp
  refine (number_step HG5.out).mono ?_
  rintro e w6 ⟨⟨n5, q5, hr, rfl, hG⟩ | ⟨q, hr, rfl, hK⟩, hK2⟩
  rotate_left
  exact ⟨rfl, .inr ⟨q, bind_err HC5.out hr, rfl⟩, hK⟩
  have HN5 : Hid (0 ≤ n5 ∧ n5 < 4294967296) := rdNum_bd hr
  have HC' := bind_ok HC5.out hr
  have HC6 : Hid (rdPar B p = _) := HC'
  have HG6 : Hid (Gon w w6 b g B q5) := hG
  have hS : w6.cell? ⟨c, 0, none⟩ = some (.pointer (some ⟨b, 0, none⟩)) := (HB5.out.kept hK2 hb).cell (i := 0) rfl
  have HB6 : Hid (Blk w6 c [.pointer (some ⟨b, 0, none⟩)] 126) := HB5.out.kept hK2 hb
  have HD' := HD5.out.kept hK2 hb1
  have HD6 : Hid (Blk w6 (c + 1) [.string ⟨#[]⟩, .int .i64 0, .int .i64 0, .int .i64 0, .int .i64 0, .int .i64 0, .slice none 0 0, .slice none 0 0] 47) := HD'
  have HKK5 : Hid (Keeps (· = b) _ w6) := hK2
  skip
  clear hK2 HD' HB5 HD5
  clear hr hG HC' HC5 HG5
  refine hK.out _ _ hS (fun hHeld => ?_)
  simp only [Act.put, List.setIfInBounds_toArray, List.set_cons_zero, List.set_cons_succ]
  refine wpAnyH_ready (rs := [12]) (by kernel_rfl) (by simp) ?_
  refine AllReadyH.cons rfl (fun K hK => ?_) AllReadyH.nil
  go_simp
  refine (number_step HG6.out).mono ?_
  rintro e w7 ⟨⟨n6, q6, hr, rfl, hG⟩ | ⟨q, hr, rfl, hK⟩, hK2⟩
  rotate_left
  exact ⟨rfl, .inr ⟨q, bind_err HC6.out hr, rfl⟩, hK⟩
  have HN6 : Hid (0 ≤ n6 ∧ n6 < 4294967296) := rdNum_bd hr
  have HC' := bind_ok HC6.out hr
  have HC7 : Hid (rdPar B p = _) := HC'
  have HG7 : Hid (Gon w w7 b g B q6) := hG
  have hS : w7.cell? ⟨c, 0, none⟩ = some (.pointer (some ⟨b, 0, none⟩)) := (HB6.out.kept hK2 hb).cell (i := 0) rfl
  have HB7 : Hid (Blk w7 c [.pointer (some ⟨b, 0, none⟩)] 126) := HB6.out.kept hK2 hb
  have HD' := HD6.out.kept hK2 hb1
  have HD7 : Hid (Blk w7 (c + 1) [.string ⟨#[]⟩, .int .i64 0, .int .i64 0, .int .i64 0, .int .i64 0, .int .i64 0, .slice none 0 0, .slice none 0 0] 47) := HD'
  have HKK6 : Hid (Keeps (· = b) _ w7) := hK2
  skip
  clear hK2 HD' HB6 HD6
  clear hr hG HC' HC6 HG6
  refine hK.out _ _ hS (fun hHeld => ?_)
  simp only [Act.put, List.setIfInBounds_toArray, List.set_cons_zero, List.set_cons_succ]
  refine wpAnyH_ready (rs := [14]) (by kernel_rfl) (by simp) ?_
  refine AllReadyH.cons rfl (fun K hK => ?_) AllReadyH.nil
  go_simp
  refine (number_step HG7.out).mono ?_
  rintro e w8 ⟨⟨n7, q7, hr, rfl, hG⟩ | ⟨q, hr, rfl, hK⟩, hK2⟩
  rotate_left
  exact ⟨rfl, .inr ⟨q, bind_err HC7.out hr, rfl⟩, hK⟩
  have HN7 : Hid (0 ≤ n7 ∧ n7 < 4294967296) := rdNum_bd hr
  have HC' := bind_ok HC7.out hr
  have HC8 : Hid (rdPar B p = _) := HC'
  have HG8 : Hid (Gon w w8 b g B q7) := hG
  have hS : w8.cell? ⟨c, 0, none⟩ = some (.pointer (some ⟨b, 0, none⟩)) := (HB7.out.kept hK2 hb).cell (i := 0) rfl
  have HB8 : Hid (Blk w8 c [.pointer (some ⟨b, 0, none⟩)] 126) := HB7.out.kept hK2 hb
  have HD' := HD7.out.kept hK2 hb1
  have HD8 : Hid (Blk w8 (c + 1) [.string ⟨#[]⟩, .int .i64 0, .int .i64 0, .int .i64 0, .int .i64 0, .int .i64 0, .slice none 0 0, .slice none 0 0] 47) := HD'
  have HKK7 : Hid (Keeps (· = b) _ w8) := hK2
  skip
  clear hK2 HD' HB7 HD7
  clear hr hG HC' HC7 HG7
  refine hK.out _ _ hS (fun hHeld => ?_)
  simp only [Act.put, List.setIfInBounds_toArray, List.set_cons_zero, List.set_cons_succ]
  refine wpAnyH_ready (rs := [16]) (by kernel_rfl) (by simp) ?_
  refine AllReadyH.cons rfl (fun K hK => ?_) AllReadyH.nil
  go_simp
  refine (readRgns_any b g _ B _ HG8.out.rd).mono ?_
  rintro e w9 ⟨⟨l8, q8, ad8, cp8, hr, rfl, hL, hR⟩ | ⟨q, hr, rfl⟩, hK2⟩
  rotate_left
  exact ⟨rfl, .inr ⟨q, bind_err HC8.out hr, rfl⟩, HG8.out.kp.trans hK2 fun _ _ e => e⟩
  have HC' := bind_ok HC8.out hr
  have HC9 : Hid (rdPar B p = _) := HC'
  have HG9 : Hid (Gon w w9 b g B q8) := ⟨hR, HG8.out.kp.trans hK2 fun _ _ e => e⟩
  have HL8 : Hid (LstR eRgn w9 w8.heap.size ad8 cp8 l8 ∧ c + 2 ≤ w8.heap.size) := ⟨hL, HD8.out.lt⟩
  obtain ⟨N8, hN8⟩ : ∃ N, l8.length = N := ⟨_, rfl⟩
  rw [hN8]
  have HM8 : Hid (l8.length = N8) := hN8
  clear hN8
  have hS : w9.cell? ⟨c, 0, none⟩ = some (.pointer (some ⟨b, 0, none⟩)) := (HB8.out.kept hK2 hb).cell (i := 0) rfl
  have HB9 : Hid (Blk w9 c [.pointer (some ⟨b, 0, none⟩)] 126) := HB8.out.kept hK2 hb
  have HD' := HD8.out.kept hK2 hb1
  have HD9 : Hid (Blk w9 (c + 1) [.string ⟨#[]⟩, .int .i64 0, .int .i64 0, .int .i64 0, .int .i64 0, .int .i64 0, .slice none 0 0, .slice none 0 0] 47) := HD'
  have HKK8 : Hid (Keeps (· = b) _ w9) := hK2
  skip
  clear hK2 HD' HB8 HD8
  clear hr hL hR HC' HC8 HG8
  refine hK.out _ _ hS (fun hHeld => ?_)
  simp only [Act.put, List.setIfInBounds_toArray, List.set_cons_zero, List.set_cons_succ]
  refine wpAnyH_ready (rs := [18]) (by kernel_rfl) (by simp) ?_
  refine AllReadyH.cons rfl (fun K hK => ?_) AllReadyH.nil
  go_simp
  refine (readPrts_any b g _ B _ HG9.out.rd).mono ?_
  rintro e w10 ⟨⟨l9, q9, ad9, cp9, hr, rfl, hL, hR⟩ | ⟨q, hr, rfl⟩, hK2⟩
  rotate_left
  exact ⟨rfl, .inr ⟨q, bind_err HC9.out hr, rfl⟩, HG9.out.kp.trans hK2 fun _ _ e => e⟩
  have HC' := bind_ok HC9.out hr
  have HC10 : Hid (rdPar B p = _) := HC'
  have HG10 : Hid (Gon w w10 b g B q9) := ⟨hR, HG9.out.kp.trans hK2 fun _ _ e => e⟩
  have HL9 : Hid (LstR ePrt w10 w9.heap.size ad9 cp9 l9 ∧ c + 2 ≤ w9.heap.size) := ⟨hL, HD9.out.lt⟩
  obtain ⟨N9, hN9⟩ : ∃ N, l9.length = N := ⟨_, rfl⟩
  rw [hN9]
  have HM9 : Hid (l9.length = N9) := hN9
  clear hN9
  have hS : w10.cell? ⟨c, 0, none⟩ = some (.pointer (some ⟨b, 0, none⟩)) := (HB9.out.kept hK2 hb).cell (i := 0) rfl
  have HB10 : Hid (Blk w10 c [.pointer (some ⟨b, 0, none⟩)] 126) := HB9.out.kept hK2 hb
  have HD' := HD9.out.kept hK2 hb1
  have HD10 : Hid (Blk w10 (c + 1) [.string ⟨#[]⟩, .int .i64 0, .int .i64 0, .int .i64 0, .int .i64 0, .int .i64 0, .slice none 0 0, .slice none 0 0] 47) := HD'
  have HKK9 : Hid (Keeps (· = b) _ w10) := hK2
  have hS2 : (w10.setRow (c + 1) #[.string SV, .int .i64 n3, .int .i64 n4, .int .i64 n5, .int .i64 n6, .int .i64 n7, .slice ad8 N8 cp8, .slice ad9 N9 cp9]).cell? ⟨c, 0, none⟩ = some (.pointer (some ⟨b, 0, none⟩)) := (HB10.out.setRow_ne (by omega) _).cell (i := 0) rfl
  clear hK2 HD' HB9 HD9
  clear hr hL hR HC' HC9 HG9
  refine hK.out _ _ hS (fun hHeld => ?_)
  simp only [Act.put, List.setIfInBounds_toArray, List.set_cons_zero, List.set_cons_succ]
  refine wpAnyH_take (i := 19) (v := .agg #[.string SV, .int .i64 n3, .int .i64 n4, .int .i64 n5, .int .i64 n6, .int .i64 n7, .slice ad8 N8 cp8, .slice ad9 N9 cp9]) rfl (by kernel_rfl) (by kernel_rfl) (by kernel_rfl) (fun _ _ _ h => h) (Or.inl ⟨by rfl, by (intro w hSw; (try dsimp only at hSw); go_simp)⟩) hHeld ?_
  simp only [Act.put, List.setIfInBounds_toArray, List.set_cons_zero, List.set_cons_succ]
  refine wpAnyH_ready (rs := [20]) (by kernel_rfl) (by simp) ?_
  refine AllReadyH.cons rfl (fun K hK => ?_) AllReadyH.nil
  rw [if_pos (by rfl)]
  refine wp_store_row 47 _ _ rfl (c + 1) #[.string SV, .int .i64 n3, .int .i64 n4, .int .i64 n5, .int .i64 n6, .int .i64 n7, .slice ad8 N8 cp8, .slice ad9 N9 cp9] rfl rfl 47 _ HD10.out Tryz.size47 rfl (all69 ..) ?_
  refine hK.out _ _ hS2 (fun hHeld => ?_)
  simp only [Act.put, List.setIfInBounds_toArray, List.set_cons_zero, List.set_cons_succ]
  refine wpAnyH_done (by kernel_rfl) ?_ _
  refine PanicTo.normal ?_
  have HE : Hid (Blk (w10.setRow (c + 1) #[.string SV, .int .i64 n3, .int .i64 n4, .int .i64 n5, .int .i64 n6, .int .i64 n7, .slice ad8 N8 cp8, .slice ad9 N9 cp9]) (c + 1) [.string SV, .int .i64 n3, .int .i64 n4, .int .i64 n5, .int .i64 n6, .int .i64 n7, .slice ad8 N8 cp8, .slice ad9 N9 cp9] 47) := HD10.out.setRow [.string SV, .int .i64 n3, .int .i64 n4, .int .i64 n5, .int .i64 n6, .int .i64 n7, .slice ad8 N8 cp8, .slice ad9 N9 cp9]
  have HKL : Hid (Keeps (· = c + 1) w10 (w10.setRow (c + 1) #[.string SV, .int .i64 n3, .int .i64 n4, .int .i64 n5, .int .i64 n6, .int .i64 n7, .slice ad8 N8 cp8, .slice ad9 N9 cp9])) := (Keeps.refl (· = c + 1) w10).setRow (c + 1) _ (fun _ => rfl)
  obtain ⟨F, hF⟩ : ∃ F, F = (w10.setRow (c + 1) #[.string SV, .int .i64 n3, .int .i64 n4, .int .i64 n5, .int .i64 n6, .int .i64 n7, .slice ad8 N8 cp8, .slice ad9 N9 cp9]) := ⟨_, rfl⟩
  rw [← hF] at HE HKL ⊢
  have HKF : Hid (Keeps (· = b) w F) := HG10.out.kp.trans HKL.out fun k hk e => by have := HW.out; omega
  have HRF : Hid (Rd F b g B q9 0) := HG10.out.rd.kept HKL.out (fun e => hb1 e.symm) (fun e => by have := HGB.out; omega)
  clear hF p0 p1 hS hS2 hHeld HB10 HD10 HG10
  have HQ8 : Hid (LstR eRgn F w8.heap.size ad8 cp8 l8) := (HL8.out.1.kept HKK9.out (fun k e => by have := HL8.out.2; have := HBC.out; omega)).kept HKL.out (fun k e => by have := HL8.out.2; omega)
  have HQ9 : Hid (LstR ePrt F w9.heap.size ad9 cp9 l9) := HL9.out.1.kept HKL.out (fun k e => by have := HL9.out.2; omega)
  go_wp2
  refine bodyPost_ret (results_cell_row rfl _ _ (c + 1) 47 _ (0, 0) _ rfl HE.out Tryz.underlying47 rfl (by kernel_rfl)) rfl ?_
  have hns : ∀ m ∈ ([n3, n4, n5, n6, n7] : List Int), I64 m := by
    intro m hm
    simp only [List.mem_cons, List.not_mem_nil, or_false] at hm
    rcases hm with rfl | rfl | rfl | rfl | rfl
    · exact i64_of HN3.out
    · exact i64_of HN4.out
    · exact i64_of HN5.out
    · exact i64_of HN6.out
    · exact i64_of HN7.out
  refine ⟨.inl ⟨⟨SV, n3, n4, n5, n6, n7, ad8, cp8, l8, ad9, cp9, l9⟩, q9, ?_, ?_, ⟨⟨HQ8.out.seg, HQ8.out.len, HQ8.out.ok, HQ9.out.seg, HQ9.out.len, HQ9.out.ok, hns, ?_⟩, HQ8.out.own, HQ9.out.own, fun k h1 h2 => by have := HL8.out.1.olt k h1; have := HQ9.out.olo k h2; omega⟩, ?_, HRF.out⟩, HKF.out⟩
  · have := HC10.out; rw [HTX.out] at this; exact this
  · rw [← HM8.out, ← HM9.out]
  · rw [← HTX.out]
    have := txtV_len B p
    show (txtV B p 0 255).length ≤ _
    omega
  · intro k hk
    rcases List.mem_append.1 hk with hk | hk
    · refine ⟨Nat.le_trans ?_ (HQ8.out.olo k hk), HQ8.out.olt k hk⟩
      have := HL8.out.2; have := HW.out; omega
    · refine ⟨Nat.le_trans ?_ (HQ9.out.olo k hk), HQ9.out.olt k hk⟩
      have := HL9.out.2; have := HW.out; omega

end Go.Proofs.YtjadpbkhfclldaaGreat
