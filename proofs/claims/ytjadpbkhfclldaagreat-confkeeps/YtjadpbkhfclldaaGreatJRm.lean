import Derived.Test.YtjadpbkhfclldaaGreatKc
import Derived.Test.YtjadpbkhfclldaaGreatJRj
import Derived.Test.YtjadpbkhfclldaaGreatJRh
namespace Go.Proofs.YtjadpbkhfclldaaGreat
open Go.RowKit
set_option linter.unusedVariables false
set_option maxRecDepth 6000
set_option linter.unusedSimpArgs false

theorem all26 (n1 n2 n3 n4 : Int) (a1 : Option Addr) (m1 c1 : Nat) (a2 : Option Addr) (m2 c2 : Nat) (a3 : Option Addr) (m3 c3 : Nat) : (#[.int .i64 n1, .int .i64 n2, .int .i64 n3, .int .i64 n4, .slice a1 m1 c1, .slice a2 m2 c2, .slice a3 m3 c3] : Array Value).all (·.oneCell') = true := by kernel_rfl
theorem store26 (w : World) (g : Nat) (old : List Value) (h : Blk w g old 26) (ho : old.length = 7) (n1 n2 n3 n4 : Int) (a1 : Option Addr) (m1 c1 : Nat) (a2 : Option Addr) (m2 c2 : Nat) (a3 : Option Addr) (m3 c3 : Nat) : (storeVar 26 ⟨g, 0, none⟩ (.agg #[.int .i64 n1, .int .i64 n2, .int .i64 n3, .int .i64 n4, .slice a1 m1 c1, .slice a2 m2 c2, .slice a3 m3 c3])).run Tryz.prog w = .ok () (w.setRow g #[.int .i64 n1, .int .i64 n2, .int .i64 n3, .int .i64 n4, .slice a1 m1 c1, .slice a2 m2 c2, .slice a3 m3 c3]) :=
  run_storeVar_row w g 26 26 old.toArray _ h Tryz.size26 (by simp [ho]) (all26 ..)

/-- A configuration that was read. -/
structure Cfg.Lsts (x : Cfg) (w : World) (lo : Nat) : Prop where
  cs : Lst eCore w lo x.ca x.cc x.cs
  ps : Lst ePar w lo x.pa x.pc x.ps
  hs : Lst eChn w lo x.ha x.hc x.hs
  ns : ∀ n ∈ x.ns, I64 n

/-- One that was read and is one's own. -/
structure Cfg.LstsR (x : Cfg) (w : World) (lo : Nat) : Prop where
  cs : LstR eCoreR w lo x.ca x.cc x.cs
  ps : LstR eParR w lo x.pa x.pc x.ps
  hs : LstR eChn w lo x.ha x.hc x.hs
  ns : ∀ n ∈ x.ns, I64 n
  d1 : ∀ k, Lall eCoreR x.ca x.cs k → ¬ Lall eParR x.pa x.ps k
  d2 : ∀ k, Lall eCoreR x.ca x.cs k → ¬ Lall eChn x.ha x.hs k
  d3 : ∀ k, Lall eParR x.pa x.ps k → ¬ Lall eChn x.ha x.hs k
theorem Cfg.LstsR.lsts {x : Cfg} {w : World} {lo : Nat} (h : x.LstsR w lo) : x.Lsts w lo := ⟨h.cs.core, h.ps.par, ⟨h.hs.seg, h.hs.len, h.hs.low, h.hs.ok, h.hs.toLst.bl⟩, h.ns⟩
theorem Cfg.LstsR.kept {S : Nat → Prop} {x : Cfg} {w w' : World} {lo : Nat} (h : x.LstsR w lo) (hK : Keeps S w w') (hS : ∀ k, S k → k < lo) : x.LstsR w' lo := ⟨h.cs.kept hK hS, h.ps.kept hK hS, h.hs.kept hK hS, h.ns, h.d1, h.d2, h.d3⟩
theorem Cfg.LstsR.mono {x : Cfg} {w : World} {lo lo' : Nat} (h : x.LstsR w lo) (hl : lo' ≤ lo) : x.LstsR w lo' := ⟨h.cs.mono hl, h.ps.mono hl, h.hs.mono hl, h.ns, h.d1, h.d2, h.d3⟩

set_option maxHeartbeats 4000000 in
theorem rconfig_any (b g p : Nat) (B : List UInt8) (w : World) (h : Rd w b g B p 0) :
    Calls Tryz.prog 67 #[.agg #[.pointer (some ⟨b, 0, none⟩)]] w fun e w' => ((∃ (x : Cfg) (q : Nat), rdCfg B p = .ok (x.pure, q) ∧ e = .returned x.v ∧ x.LstsR w' w.heap.size ∧ Rd w' b g B q 0) ∨ (∃ q, rdCfg B p = .error q ∧ e = gone q 110)) ∧ Keeps (· = b) w w' := by
  obtain ⟨c, hc⟩ : ∃ c, c = w.heap.size := ⟨_, rfl⟩
  have HR : Hid (Rd w b g B p 0) := h
  have hb : c ≠ b := by have := h.blk.lt; omega
  have hb1 : c + 1 ≠ b := by have := h.blk.lt; omega
  have HBC : Hid (b < c) := by rw [hc]; exact h.blk.lt
  have HW : Hid (c = w.heap.size) := hc
  clear h
  go_enter Tryz.func67, Tryz.ntmps67
  go_wp2
  rw [← hc]
  obtain ⟨W, hW⟩ : ∃ W, W = (w.alloc (.cells #[.pointer (some ⟨b, 0, none⟩)] 126)).alloc (.cells #[.int .i64 0, .int .i64 0, .int .i64 0, .int .i64 0, .slice none 0 0, .slice none 0 0, .slice none 0 0] 26) := ⟨_, rfl⟩
  have hB : Blk W c [.pointer (some ⟨b, 0, none⟩)] 126 := by rw [hW, hc]; exact (Blk.new w _ _).alloc _
  have hD : Blk W (c + 1) [.int .i64 0, .int .i64 0, .int .i64 0, .int .i64 0, .slice none 0 0, .slice none 0 0, .slice none 0 0] 26 := by rw [hW, hc]; have := Blk.new (w.alloc (.cells #[.pointer (some ⟨b, 0, none⟩)] 126)) #[.int .i64 0, .int .i64 0, .int .i64 0, .int .i64 0, .slice none 0 0, .slice none 0 0, .slice none 0 0] 26; simpa using this
  have hG0 : Gon w W b g B p := by rw [hW]; exact ⟨HR.out.kept (((Keeps.refl (fun _ => False) w).alloc _).alloc _) (fun e => e) (fun e => e), ((Keeps.refl _ w).alloc _).alloc _⟩
  have p0 := hB.cell (i := 0) rfl
  rw [← hW]
  obtain ⟨w1, hw1⟩ : ∃ w1, w1 = W.drew := ⟨_, rfl⟩
  have HB1 : Hid (Blk W.drew c [.pointer (some ⟨b, 0, none⟩)] 126) := hB.drew
  have HD1 : Hid (Blk W.drew (c + 1) [.int .i64 0, .int .i64 0, .int .i64 0, .int .i64 0, .slice none 0 0, .slice none 0 0, .slice none 0 0] 26) := hD.drew
  have HG1 : Hid (Gon w W.drew b g B p) := hG0.drew
  have HC1 : Hid (rdCfg B p = (rdNum B p).bind _) := rfl
  have HGB : Hid (g < c) := by rw [hc]; exact HR.out.bytes.lt
  clear hW hB hD hG0 HR hc hw1
  refine wp_region_panicTo (fun e w' => ((∃ (x : Cfg) (q : Nat), rdCfg B p = .ok (x.pure, q) ∧ e = .returned x.v ∧ x.LstsR w' w.heap.size ∧ Rd w' b g B q 0) ∨ (∃ q, rdCfg B p = .error q ∧ e = gone q 110)) ∧ Keeps (· = b) w w') (fun c a w h1 h2 => ⟨h1, h2⟩) ?_
  have p1 : W.drew.cell? ⟨c, 0, none⟩ = some (.pointer (some ⟨b, 0, none⟩)) := HB1.out.cell (i := 0) rfl
  refine wp_region_held_drew (S := fun w' => w'.cell? ⟨c, 0, none⟩ = some (.pointer (some ⟨b, 0, none⟩))) (by kernel_rfl) p1 (fun hHeld => ?_)
  simp only [List.size_toArray, List.length_cons, List.length_nil, Nat.reduceAdd, Array.replicate_succ, Array.replicate_zero, List.push_toArray, List.append_toArray, List.nil_append, List.cons_append]
  refine wpAnyH_take (i := 0) (v := .agg #[.pointer (some ⟨b, 0, none⟩)]) rfl (by kernel_rfl) (by kernel_rfl) (by kernel_rfl) (fun _ _ _ h => h) (Or.inl ⟨by rfl, by (intro w hSw; (try dsimp only at hSw); go_simp)⟩) hHeld ?_
  simp only [Act.put, List.setIfInBounds_toArray, List.set_cons_zero, List.set_cons_succ]
  refine wpAnyH_take (i := 2) (v := .agg #[.pointer (some ⟨b, 0, none⟩)]) rfl (by kernel_rfl) (by kernel_rfl) (by kernel_rfl) (fun _ _ _ h => h) (Or.inl ⟨by rfl, by (intro w hSw; (try dsimp only at hSw); go_simp)⟩) hHeld ?_
  simp only [Act.put, List.setIfInBounds_toArray, List.set_cons_zero, List.set_cons_succ]
  refine wpAnyH_take (i := 4) (v := .agg #[.pointer (some ⟨b, 0, none⟩)]) rfl (by kernel_rfl) (by kernel_rfl) (by kernel_rfl) (fun _ _ _ h => h) (Or.inl ⟨by rfl, by (intro w hSw; (try dsimp only at hSw); go_simp)⟩) hHeld ?_
  simp only [Act.put, List.setIfInBounds_toArray, List.set_cons_zero, List.set_cons_succ]
  refine wpAnyH_take (i := 6) (v := .agg #[.pointer (some ⟨b, 0, none⟩)]) rfl (by kernel_rfl) (by kernel_rfl) (by kernel_rfl) (fun _ _ _ h => h) (Or.inl ⟨by rfl, by (intro w hSw; (try dsimp only at hSw); go_simp)⟩) hHeld ?_
  simp only [Act.put, List.setIfInBounds_toArray, List.set_cons_zero, List.set_cons_succ]
  refine wpAnyH_take (i := 8) (v := .agg #[.pointer (some ⟨b, 0, none⟩)]) rfl (by kernel_rfl) (by kernel_rfl) (by kernel_rfl) (fun _ _ _ h => h) (Or.inl ⟨by rfl, by (intro w hSw; (try dsimp only at hSw); go_simp)⟩) hHeld ?_
  simp only [Act.put, List.setIfInBounds_toArray, List.set_cons_zero, List.set_cons_succ]
  refine wpAnyH_take (i := 10) (v := .agg #[.pointer (some ⟨b, 0, none⟩)]) rfl (by kernel_rfl) (by kernel_rfl) (by kernel_rfl) (fun _ _ _ h => h) (Or.inl ⟨by rfl, by (intro w hSw; (try dsimp only at hSw); go_simp)⟩) hHeld ?_
  simp only [Act.put, List.setIfInBounds_toArray, List.set_cons_zero, List.set_cons_succ]
  refine wpAnyH_take (i := 12) (v := .agg #[.pointer (some ⟨b, 0, none⟩)]) rfl (by kernel_rfl) (by kernel_rfl) (by kernel_rfl) (fun _ _ _ h => h) (Or.inl ⟨by rfl, by (intro w hSw; (try dsimp only at hSw); go_simp)⟩) hHeld ?_
  simp only [Act.put, List.setIfInBounds_toArray, List.set_cons_zero, List.set_cons_succ]
  refine wpAnyH_ready (rs := [1]) (by kernel_rfl) (by simp) ?_
  refine AllReadyH.cons rfl (fun K hK => ?_) AllReadyH.nil
  go_simp
  refine (number_step HG1.out).mono ?_
  rintro e w2 ⟨⟨n1, q1, hr, rfl, hG⟩ | ⟨q, hr, rfl, hK⟩, hK2⟩
  rotate_left
  exact ⟨rfl, .inr ⟨q, bind_err HC1.out hr, rfl⟩, hK⟩
  have HN1 : Hid (0 ≤ n1 ∧ n1 < 4294967296) := rdNum_bd hr
  have HC' := bind_ok HC1.out hr
  have HC2 : Hid (rdCfg B p = _) := HC'
  have HG2 : Hid (Gon w w2 b g B q1) := hG
  have hS : w2.cell? ⟨c, 0, none⟩ = some (.pointer (some ⟨b, 0, none⟩)) := (HB1.out.kept hK2 hb).cell (i := 0) rfl
  have HB2 : Hid (Blk w2 c [.pointer (some ⟨b, 0, none⟩)] 126) := HB1.out.kept hK2 hb
  have HD' := HD1.out.kept hK2 hb1
  have HD2 : Hid (Blk w2 (c + 1) [.int .i64 0, .int .i64 0, .int .i64 0, .int .i64 0, .slice none 0 0, .slice none 0 0, .slice none 0 0] 26) := HD'
  have HKK1 : Hid (Keeps (· = b) _ w2) := hK2
  skip
  clear hK2 HD' HB1 HD1
  clear hr hG HC' HC1 HG1
  refine hK.out _ _ hS (fun hHeld => ?_)
  simp only [Act.put, List.setIfInBounds_toArray, List.set_cons_zero, List.set_cons_succ]
  refine wpAnyH_ready (rs := [3]) (by kernel_rfl) (by simp) ?_
  refine AllReadyH.cons rfl (fun K hK => ?_) AllReadyH.nil
  go_simp
  refine (number_step HG2.out).mono ?_
  rintro e w3 ⟨⟨n2, q2, hr, rfl, hG⟩ | ⟨q, hr, rfl, hK⟩, hK2⟩
  rotate_left
  exact ⟨rfl, .inr ⟨q, bind_err HC2.out hr, rfl⟩, hK⟩
  have HN2 : Hid (0 ≤ n2 ∧ n2 < 4294967296) := rdNum_bd hr
  have HC' := bind_ok HC2.out hr
  have HC3 : Hid (rdCfg B p = _) := HC'
  have HG3 : Hid (Gon w w3 b g B q2) := hG
  have hS : w3.cell? ⟨c, 0, none⟩ = some (.pointer (some ⟨b, 0, none⟩)) := (HB2.out.kept hK2 hb).cell (i := 0) rfl
  have HB3 : Hid (Blk w3 c [.pointer (some ⟨b, 0, none⟩)] 126) := HB2.out.kept hK2 hb
  have HD' := HD2.out.kept hK2 hb1
  have HD3 : Hid (Blk w3 (c + 1) [.int .i64 0, .int .i64 0, .int .i64 0, .int .i64 0, .slice none 0 0, .slice none 0 0, .slice none 0 0] 26) := HD'
  have HKK2 : Hid (Keeps (· = b) _ w3) := hK2
  skip
  clear hK2 HD' HB2 HD2
  clear hr hG HC' HC2 HG2
  refine hK.out _ _ hS (fun hHeld => ?_)
  simp only [Act.put, List.setIfInBounds_toArray, List.set_cons_zero, List.set_cons_succ]
  refine wpAnyH_ready (rs := [5]) (by kernel_rfl) (by simp) ?_
  refine AllReadyH.cons rfl (fun K hK => ?_) AllReadyH.nil
  go_simp
  refine (number_step HG3.out).mono ?_
  rintro e w4 ⟨⟨n3, q3, hr, rfl, hG⟩ | ⟨q, hr, rfl, hK⟩, hK2⟩
  rotate_left
  exact ⟨rfl, .inr ⟨q, bind_err HC3.out hr, rfl⟩, hK⟩
  have HN3 : Hid (0 ≤ n3 ∧ n3 < 4294967296) := rdNum_bd hr
  have HC' := bind_ok HC3.out hr
  have HC4 : Hid (rdCfg B p = _) := HC'
  have HG4 : Hid (Gon w w4 b g B q3) := hG
  have hS : w4.cell? ⟨c, 0, none⟩ = some (.pointer (some ⟨b, 0, none⟩)) := (HB3.out.kept hK2 hb).cell (i := 0) rfl
  have HB4 : Hid (Blk w4 c [.pointer (some ⟨b, 0, none⟩)] 126) := HB3.out.kept hK2 hb
  have HD' := HD3.out.kept hK2 hb1
  have HD4 : Hid (Blk w4 (c + 1) [.int .i64 0, .int .i64 0, .int .i64 0, .int .i64 0, .slice none 0 0, .slice none 0 0, .slice none 0 0] 26) := HD'
  have HKK3 : Hid (Keeps (· = b) _ w4) := hK2
  skip
  clear hK2 HD' HB3 HD3
  clear hr hG HC' HC3 HG3
  refine hK.out _ _ hS (fun hHeld => ?_)
  simp only [Act.put, List.setIfInBounds_toArray, List.set_cons_zero, List.set_cons_succ]
  refine wpAnyH_ready (rs := [7]) (by kernel_rfl) (by simp) ?_
  refine AllReadyH.cons rfl (fun K hK => ?_) AllReadyH.nil
  go_simp
  refine (number_step HG4.out).mono ?_
  rintro e w5 ⟨⟨n4, q4, hr, rfl, hG⟩ | ⟨q, hr, rfl, hK⟩, hK2⟩
  rotate_left
  exact ⟨rfl, .inr ⟨q, bind_err HC4.out hr, rfl⟩, hK⟩
  have HN4 : Hid (0 ≤ n4 ∧ n4 < 4294967296) := rdNum_bd hr
  have HC' := bind_ok HC4.out hr
  have HC5 : Hid (rdCfg B p = _) := HC'
  have HG5 : Hid (Gon w w5 b g B q4) := hG
  have hS : w5.cell? ⟨c, 0, none⟩ = some (.pointer (some ⟨b, 0, none⟩)) := (HB4.out.kept hK2 hb).cell (i := 0) rfl
  have HB5 : Hid (Blk w5 c [.pointer (some ⟨b, 0, none⟩)] 126) := HB4.out.kept hK2 hb
  have HD' := HD4.out.kept hK2 hb1
  have HD5 : Hid (Blk w5 (c + 1) [.int .i64 0, .int .i64 0, .int .i64 0, .int .i64 0, .slice none 0 0, .slice none 0 0, .slice none 0 0] 26) := HD'
  have HKK4 : Hid (Keeps (· = b) _ w5) := hK2
  skip
  clear hK2 HD' HB4 HD4
  clear hr hG HC' HC4 HG4
  refine hK.out _ _ hS (fun hHeld => ?_)
  simp only [Act.put, List.setIfInBounds_toArray, List.set_cons_zero, List.set_cons_succ]
  refine wpAnyH_ready (rs := [9]) (by kernel_rfl) (by simp) ?_
  refine AllReadyH.cons rfl (fun K hK => ?_) AllReadyH.nil
  go_simp
  refine (readCores_any b g _ B _ HG5.out.rd).mono ?_
  rintro e w6 ⟨⟨l5, q5, ad5, cp5, hr, rfl, hL, hR⟩ | ⟨q, hr, rfl⟩, hK2⟩
  rotate_left
  exact ⟨rfl, .inr ⟨q, bind_err HC5.out hr, rfl⟩, HG5.out.kp.trans hK2 fun _ _ e => e⟩
  have HC' := bind_ok HC5.out hr
  have HC6 : Hid (rdCfg B p = _) := HC'
  have HG6 : Hid (Gon w w6 b g B q5) := ⟨hR, HG5.out.kp.trans hK2 fun _ _ e => e⟩
  have HL5 : Hid (LstR eCoreR w6 w5.heap.size ad5 cp5 l5 ∧ c + 2 ≤ w5.heap.size) := ⟨hL, HD5.out.lt⟩
  obtain ⟨N5, hN5⟩ : ∃ N, l5.length = N := ⟨_, rfl⟩
  rw [hN5]
  have HM5 : Hid (l5.length = N5) := hN5
  clear hN5
  have hS : w6.cell? ⟨c, 0, none⟩ = some (.pointer (some ⟨b, 0, none⟩)) := (HB5.out.kept hK2 hb).cell (i := 0) rfl
  have HB6 : Hid (Blk w6 c [.pointer (some ⟨b, 0, none⟩)] 126) := HB5.out.kept hK2 hb
  have HD' := HD5.out.kept hK2 hb1
  have HD6 : Hid (Blk w6 (c + 1) [.int .i64 0, .int .i64 0, .int .i64 0, .int .i64 0, .slice none 0 0, .slice none 0 0, .slice none 0 0] 26) := HD'
  have HKK5 : Hid (Keeps (· = b) _ w6) := hK2
  skip
  clear hK2 HD' HB5 HD5
  clear hr hL hR HC' HC5 HG5
  refine hK.out _ _ hS (fun hHeld => ?_)
  simp only [Act.put, List.setIfInBounds_toArray, List.set_cons_zero, List.set_cons_succ]
  refine wpAnyH_ready (rs := [11]) (by kernel_rfl) (by simp) ?_
  refine AllReadyH.cons rfl (fun K hK => ?_) AllReadyH.nil
  go_simp
  refine (readPars_any b g _ B _ HG6.out.rd).mono ?_
  rintro e w7 ⟨⟨l6, q6, ad6, cp6, hr, rfl, hL, hR⟩ | ⟨q, hr, rfl⟩, hK2⟩
  rotate_left
  exact ⟨rfl, .inr ⟨q, bind_err HC6.out hr, rfl⟩, HG6.out.kp.trans hK2 fun _ _ e => e⟩
  have HC' := bind_ok HC6.out hr
  have HC7 : Hid (rdCfg B p = _) := HC'
  have HG7 : Hid (Gon w w7 b g B q6) := ⟨hR, HG6.out.kp.trans hK2 fun _ _ e => e⟩
  have HL6 : Hid (LstR eParR w7 w6.heap.size ad6 cp6 l6 ∧ c + 2 ≤ w6.heap.size) := ⟨hL, HD6.out.lt⟩
  obtain ⟨N6, hN6⟩ : ∃ N, l6.length = N := ⟨_, rfl⟩
  rw [hN6]
  have HM6 : Hid (l6.length = N6) := hN6
  clear hN6
  have hS : w7.cell? ⟨c, 0, none⟩ = some (.pointer (some ⟨b, 0, none⟩)) := (HB6.out.kept hK2 hb).cell (i := 0) rfl
  have HB7 : Hid (Blk w7 c [.pointer (some ⟨b, 0, none⟩)] 126) := HB6.out.kept hK2 hb
  have HD' := HD6.out.kept hK2 hb1
  have HD7 : Hid (Blk w7 (c + 1) [.int .i64 0, .int .i64 0, .int .i64 0, .int .i64 0, .slice none 0 0, .slice none 0 0, .slice none 0 0] 26) := HD'
  have HKK6 : Hid (Keeps (· = b) _ w7) := hK2
  skip
  clear hK2 HD' HB6 HD6
  clear hr hL hR HC' HC6 HG6
  refine hK.out _ _ hS (fun hHeld => ?_)
  simp only [Act.put, List.setIfInBounds_toArray, List.set_cons_zero, List.set_cons_succ]
  refine wpAnyH_ready (rs := [13]) (by kernel_rfl) (by simp) ?_
  refine AllReadyH.cons rfl (fun K hK => ?_) AllReadyH.nil
  go_simp
  refine (readChns_any b g _ B _ HG7.out.rd).mono ?_
  rintro e w8 ⟨⟨l7, q7, ad7, cp7, hr, rfl, hL, hR⟩ | ⟨q, hr, rfl⟩, hK2⟩
  rotate_left
  exact ⟨rfl, .inr ⟨q, bind_err HC7.out hr, rfl⟩, HG7.out.kp.trans hK2 fun _ _ e => e⟩
  have HC' := bind_ok HC7.out hr
  have HC8 : Hid (rdCfg B p = _) := HC'
  have HG8 : Hid (Gon w w8 b g B q7) := ⟨hR, HG7.out.kp.trans hK2 fun _ _ e => e⟩
  have HL7 : Hid (LstR eChn w8 w7.heap.size ad7 cp7 l7 ∧ c + 2 ≤ w7.heap.size) := ⟨hL, HD7.out.lt⟩
  obtain ⟨N7, hN7⟩ : ∃ N, l7.length = N := ⟨_, rfl⟩
  rw [hN7]
  have HM7 : Hid (l7.length = N7) := hN7
  clear hN7
  have hS : w8.cell? ⟨c, 0, none⟩ = some (.pointer (some ⟨b, 0, none⟩)) := (HB7.out.kept hK2 hb).cell (i := 0) rfl
  have HB8 : Hid (Blk w8 c [.pointer (some ⟨b, 0, none⟩)] 126) := HB7.out.kept hK2 hb
  have HD' := HD7.out.kept hK2 hb1
  have HD8 : Hid (Blk w8 (c + 1) [.int .i64 0, .int .i64 0, .int .i64 0, .int .i64 0, .slice none 0 0, .slice none 0 0, .slice none 0 0] 26) := HD'
  have HKK7 : Hid (Keeps (· = b) _ w8) := hK2
  have hS2 : (w8.setRow (c + 1) #[.int .i64 n1, .int .i64 n2, .int .i64 n3, .int .i64 n4, .slice ad5 N5 cp5, .slice ad6 N6 cp6, .slice ad7 N7 cp7]).cell? ⟨c, 0, none⟩ = some (.pointer (some ⟨b, 0, none⟩)) := (HB8.out.setRow_ne (by omega) _).cell (i := 0) rfl
  clear hK2 HD' HB7 HD7
  clear hr hL hR HC' HC7 HG7
  refine hK.out _ _ hS (fun hHeld => ?_)
  simp only [Act.put, List.setIfInBounds_toArray, List.set_cons_zero, List.set_cons_succ]
  refine wpAnyH_take (i := 14) (v := .agg #[.int .i64 n1, .int .i64 n2, .int .i64 n3, .int .i64 n4, .slice ad5 N5 cp5, .slice ad6 N6 cp6, .slice ad7 N7 cp7]) rfl (by kernel_rfl) (by kernel_rfl) (by kernel_rfl) (fun _ _ _ h => h) (Or.inl ⟨by rfl, by (intro w hSw; (try dsimp only at hSw); go_simp)⟩) hHeld ?_
  simp only [Act.put, List.setIfInBounds_toArray, List.set_cons_zero, List.set_cons_succ]
  refine wpAnyH_ready (rs := [15]) (by kernel_rfl) (by simp) ?_
  refine AllReadyH.cons rfl (fun K hK => ?_) AllReadyH.nil
  rw [if_pos (by rfl)]
  refine wp_store_row 26 _ _ rfl (c + 1) #[.int .i64 n1, .int .i64 n2, .int .i64 n3, .int .i64 n4, .slice ad5 N5 cp5, .slice ad6 N6 cp6, .slice ad7 N7 cp7] rfl rfl 26 _ HD8.out Tryz.size26 rfl (all26 ..) ?_
  refine hK.out _ _ hS2 (fun hHeld => ?_)
  simp only [Act.put, List.setIfInBounds_toArray, List.set_cons_zero, List.set_cons_succ]
  refine wpAnyH_done (by kernel_rfl) ?_ _
  refine PanicTo.normal ?_
  have HE : Hid (Blk (w8.setRow (c + 1) #[.int .i64 n1, .int .i64 n2, .int .i64 n3, .int .i64 n4, .slice ad5 N5 cp5, .slice ad6 N6 cp6, .slice ad7 N7 cp7]) (c + 1) [.int .i64 n1, .int .i64 n2, .int .i64 n3, .int .i64 n4, .slice ad5 N5 cp5, .slice ad6 N6 cp6, .slice ad7 N7 cp7] 26) := HD8.out.setRow [.int .i64 n1, .int .i64 n2, .int .i64 n3, .int .i64 n4, .slice ad5 N5 cp5, .slice ad6 N6 cp6, .slice ad7 N7 cp7]
  have HKL : Hid (Keeps (· = c + 1) w8 (w8.setRow (c + 1) #[.int .i64 n1, .int .i64 n2, .int .i64 n3, .int .i64 n4, .slice ad5 N5 cp5, .slice ad6 N6 cp6, .slice ad7 N7 cp7])) := (Keeps.refl (· = c + 1) w8).setRow (c + 1) _ (fun _ => rfl)
  obtain ⟨F, hF⟩ : ∃ F, F = (w8.setRow (c + 1) #[.int .i64 n1, .int .i64 n2, .int .i64 n3, .int .i64 n4, .slice ad5 N5 cp5, .slice ad6 N6 cp6, .slice ad7 N7 cp7]) := ⟨_, rfl⟩
  rw [← hF] at HE HKL ⊢
  have HKF : Hid (Keeps (· = b) w F) := HG8.out.kp.trans HKL.out fun k hk e => by have := HW.out; omega
  have HRF : Hid (Rd F b g B q7 0) := HG8.out.rd.kept HKL.out (fun e => hb1 e.symm) (fun e => by have := HGB.out; omega)
  clear hF p0 p1 hS hS2 hHeld HB8 HD8 HG8
  have HQ5 : Hid (LstR eCoreR F w5.heap.size ad5 cp5 l5) := ((HL5.out.1.kept HKK6.out (fun k e => by have := HL5.out.2; have := HBC.out; omega)).kept HKK7.out (fun k e => by have := HL5.out.2; have := HBC.out; omega)).kept HKL.out (fun k e => by have := HL5.out.2; omega)
  have HQ6 : Hid (LstR eParR F w6.heap.size ad6 cp6 l6) := (HL6.out.1.kept HKK7.out (fun k e => by have := HL6.out.2; have := HBC.out; omega)).kept HKL.out (fun k e => by have := HL6.out.2; omega)
  have HQ7 : Hid (LstR eChn F w7.heap.size ad7 cp7 l7) := HL7.out.1.kept HKL.out (fun k e => by have := HL7.out.2; omega)
  go_wp2
  refine bodyPost_ret (results_cell_row rfl _ _ (c + 1) 26 _ (0, 0) _ rfl HE.out Tryz.underlying26 rfl (by kernel_rfl)) rfl ?_
  refine ⟨.inl ⟨⟨n1, n2, n3, n4, ad5, cp5, l5, ad6, cp6, l6, ad7, cp7, l7⟩, q7, HC8.out, ?_, ⟨?_, ?_, ?_, ?_, fun k h1 h2 => by have := (HL5.out.1.range h1).2; have := (HQ6.out.range h2).1; omega, fun k h1 h2 => by have := (HL5.out.1.range h1).2; have := (HQ7.out.range h2).1; have := HKK6.out.size; omega, fun k h1 h2 => by have := (HL6.out.1.range h1).2; have := (HQ7.out.range h2).1; omega⟩, HRF.out⟩, HKF.out⟩
  · rw [← HM5.out, ← HM6.out, ← HM7.out]
  · exact HQ5.out.mono (by have := HL5.out.2; have := HW.out; omega)
  · exact HQ6.out.mono (by have := HL6.out.2; have := HW.out; omega)
  · exact HQ7.out.mono (by have := HL7.out.2; have := HW.out; omega)
  · intro m hm
    simp only [Cfg.ns, List.mem_cons, List.not_mem_nil, or_false] at hm
    rcases hm with rfl | rfl | rfl | rfl
    · exact i64_of HN1.out
    · exact i64_of HN2.out
    · exact i64_of HN3.out
    · exact i64_of HN4.out

end Go.Proofs.YtjadpbkhfclldaaGreat
