import Derived.Test.YtjadpbkhfclldaaGreatJGi
import Derived.Test.YtjadpbkhfclldaaGreatKt
namespace Go.Proofs.YtjadpbkhfclldaaGreat
open Go.RowKit
set_option linter.unusedVariables false
set_option maxRecDepth 6000
set_option linter.unusedSimpArgs false

theorem CCfgP.open {B : List UInt8} {b g o cap N p : Nat} {e : Ending} {w' : World} (h : CCfgP B (p, false) b g o cap N e w') : ∃ (m1 m2 m3 m4 : Int) (ca : Option Addr) (L1 cc : Nat) (pa : Option Addr) (L2 pc : Nat) (ha : Option Addr) (L3 hc : Nat) (q : Nat) (bad : Bool),
    e = .returned (.agg #[.int .i64 m1, .int .i64 m2, .int .i64 m3, .int .i64 m4, .slice ca L1 cc, .slice pa L2 pc, .slice ha L3 hc]) ∧ Cu w' b g o cap B q bad ∧ ∃ x : Cfg, cCfg B (p, false) = (x.pure, q, bad) ∧ x.vs = [.int .i64 m1, .int .i64 m2, .int .i64 m3, .int .i64 m4, .slice ca L1 cc, .slice pa L2 pc, .slice ha L3 hc] ∧ x.Lsts w' N := by
  obtain ⟨x, ⟨q, bad⟩, h1, rfl, h3, h4⟩ := h
  obtain ⟨n1, n2, n3, n4, ca, cc, cs, pa, pc, ps, ha, hc, hs⟩ := x
  exact ⟨n1, n2, n3, n4, ca, cs.length, cc, pa, ps.length, pc, ha, hs.length, hc, q, bad, rfl, h4, _, h1, rfl, h3⟩

set_option maxHeartbeats 4000000 in
theorem refDecode_go (B : List UInt8) (g o cap : Nat) (w : World) (hs : Seg w (some ⟨g, o, none⟩) B) (hcap : B.length ≤ cap ∧ cap ≤ maxLen) (hB : B.length ≤ 16384) (h4 : 4 ≤ B.length) (hg : g < w.heap.size) (hm : (B.drop 0).take 4 = [66, 75, 67, 49]) :
    Calls Tryz.prog 29 #[.slice (some ⟨g, o, none⟩) B.length cap] w (DecP w B) := by
  have HD : Hid (rdMark B 0 = .ok ((), 4) ∧ B.length ≤ 16384) := ⟨(mark_of h4).1 hm, hB⟩
  obtain ⟨C, hC⟩ : ∃ C, C = w.heap.size := ⟨_, rfl⟩
  obtain ⟨W1, hW1⟩ : ∃ W1, W1 = (w.alloc (.cells #[.int .i64 0, .int .i64 0, .int .i64 0, .int .i64 0, .slice none 0 0, .slice none 0 0, .slice none 0 0] 26)).alloc (.cells #[.slice (some ⟨g, o, none⟩) B.length cap, .int .i64 0, .bool false] 103) := ⟨_, rfl⟩
  have h1 := begun B.length (some ⟨g, o, none⟩) cap w W1 hW1 C hC
  have hcu : Cu W1 (C + 1) g o cap B 0 false := ⟨h1.2.1, hs.keptB h1.2.2 fun _ _ _ e => e, fun _ => by omega, hcap, by omega⟩
  have ht := take_any' (C + 1) g o cap 0 4 false B W1 hcu (by omega)
  have e1 : cuB B 0 false 4 = false := by unfold cuB; simp; omega
  have e2 : cuP B 0 false 4 = 4 := by unfold cuP; simp; omega
  rw [e1, e2] at ht
  simp only [Bool.false_eq_true, if_false] at ht
  rw [hm] at ht
  have HT : Hid (Calls _ _ _ _ _) := ht
  obtain ⟨L, hL⟩ : ∃ L, B.length = L := ⟨_, rfl⟩
  have HS : Hid (Seg w (some ⟨g, o, none⟩) B ∧ B.length = L ∧ cap ≤ maxLen ∧ g < C) := ⟨hs, hL, hcap.2, by omega⟩
  rw [hL] at hB hW1 h1 hcap ⊢
  have hl' : ¬ (16384 : Int) < L := by omega
  have hc1' : (L : Int) ≤ cap := by omega
  have hc2' : (cap : Int) ≤ 9223372036854775807 := by have := hcap.2; unfold maxLen at this; omega
  have H1 : Hid (_ ∧ _ ∧ _) := h1
  have HC : Hid (C = w.heap.size) := hC
  clear hs hcap hB h4 hg hm hcu ht e1 e2 hL h1
  go_enter Tryz.func29, Tryz.ntmps29
  go_wp2_with fail
  rw [← hC, ← hW1]
  clear hW1 hC
  refine HT.out.mono ?_
  rintro e w2 ⟨⟨a, c, rfl, hs2, _, _⟩, hC2, hK2⟩
  have HCV : Hid ((convert 28 9 (.slice a 4 c)).run Tryz.prog w2 = .ok (.string ⟨#[66, 75, 67, 49]⟩) w2) := run_text_seg (w := w2) a c [66, 75, 67, 49] hs2
  have H2 : Hid (Blk w2 C zCfgR 26 ∧ Keeps (fun _ => False) w w2 ∧ Cu w2 (C + 1) g o cap B 4 false) := ⟨H1.out.1.kept hK2 (by omega), H1.out.2.2.trans hK2 fun k hk e => by have := HC.out; omega, hC2⟩
  clear HT hK2 H1 hs2 hC2
  go_wp2_with (refine wpList_convert_run rfl (.tmp 17) 28 9 rfl (.slice a 4 c) _ w2 rfl HCV.out ?_)
  clear HCV
  refine (cconfig_any (C + 1) g o cap (4, false) B w2 H2.out.2.2).mono ?_
  rintro e w3 ⟨hP, hK3⟩
  obtain ⟨m1, m2, m3, m4, ca, L1, cc, pa, L2, pc, ha, L3, hc, q, bad, rfl, hC3, hx⟩ := hP.open
  clear hP
  obtain ⟨V, s2, hn, hV⟩ := cNum4 B (q, bad)
  obtain ⟨q2, bad2⟩ := s2
  obtain ⟨T, hT⟩ : ∃ T, T = w3.heap.size := ⟨_, rfl⟩
  obtain ⟨W4, hW4⟩ : ∃ W4, W4 = w3.alloc (.cells #[.int .i64 m1, .int .i64 m2, .int .i64 m3, .int .i64 m4, .slice ca L1 cc, .slice pa L2 pc, .slice ha L3 hc] 26) := ⟨_, rfl⟩
  have hKW : Keeps (fun _ => False) w3 W4 := by rw [hW4]; exact (Keeps.refl _ _).alloc _
  have hCT : C + 1 < T := by rw [hT]; exact hC3.blk.lt
  have hB4 : Blk W4 T [.int .i64 m1, .int .i64 m2, .int .i64 m3, .int .i64 m4, .slice ca L1 cc, .slice pa L2 pc, .slice ha L3 hc] 26 := by rw [hW4, hT]; exact Blk.new _ _ _
  have hC4 : Cu W4 (C + 1) g o cap B q bad := hC3.kept hKW (fun e => e) (fun e => e)
  have HN : Hid (Calls Tryz.prog 52 #[.pointer (some ⟨C + 1, 0, none⟩), .int .i64 (4 : Nat)] W4 _) := num_call (s := (q, bad)) hC4 (by omega) hn
  have x1 := hC4.blk.cell (i := 1) rfl
  have H4 : Hid (C + 1 < T ∧ Blk W4 T [.int .i64 m1, .int .i64 m2, .int .i64 m3, .int .i64 m4, .slice ca L1 cc, .slice pa L2 pc, .slice ha L3 hc] 26 ∧ Keeps (fun _ => False) w W4 ∧ Blk W4 C zCfgR 26 ∧ (∃ x : Cfg, cCfg B (4, false) = (x.pure, q, bad) ∧ x.vs = [.int .i64 m1, .int .i64 m2, .int .i64 m3, .int .i64 m4, .slice ca L1 cc, .slice pa L2 pc, .slice ha L3 hc] ∧ x.Lsts W4 w2.heap.size) ∧ C + 1 < w2.heap.size ∧ cNum B 4 (q, bad) = (V, q2, bad2) ∧ V < 4294967296) := by
    refine ⟨hCT, hB4, (H2.out.2.1.trans hK3 fun k hk e => by have := HC.out; omega).trans hKW fun _ _ e => e, (H2.out.1.kept hK3 (by omega)).kept hKW fun e => e, ?_, H2.out.2.2.blk.lt, hn, hV⟩
    obtain ⟨x, hx1, hx2, hx3⟩ := hx
    exact ⟨x, hx1, hx2, hx3.cs.kept hKW (fun _ e => e.elim), hx3.ps.kept hKW (fun _ e => e.elim), hx3.hs.kept hKW (fun _ e => e.elim), hx3.ns⟩
  clear hKW hCT hB4 hC4 hx hK3 hC3 hn hV H2
  rw [hW4] at x1
  go_wp2_with fail
  rw [← hW4, ← hT]
  clear hW4 hT x1
  refine HN.out.mono ?_
  rintro e w5 ⟨rfl, hC5, hK5⟩
  have hC5 : Cu w5 (C + 1) g o cap B q2 bad2 := hC5
  have y1 := hC5.blk.cell (i := 1) rfl
  have y2 := hC5.blk.cell (i := 2) rfl
  have H5 : Hid (C + 1 < T ∧ Blk w5 T [.int .i64 m1, .int .i64 m2, .int .i64 m3, .int .i64 m4, .slice ca L1 cc, .slice pa L2 pc, .slice ha L3 hc] 26 ∧ Keeps (fun _ => False) w w5 ∧ Blk w5 C zCfgR 26 ∧ (∃ x : Cfg, cCfg B (4, false) = (x.pure, q, bad) ∧ x.vs = [.int .i64 m1, .int .i64 m2, .int .i64 m3, .int .i64 m4, .slice ca L1 cc, .slice pa L2 pc, .slice ha L3 hc] ∧ x.Lsts w5 w2.heap.size) ∧ C + 1 < w2.heap.size ∧ cNum B 4 (q, bad) = (V, q2, bad2) ∧ V < 4294967296 ∧ Cu w5 (C + 1) g o cap B q2 bad2) := by
    have h4 := H4.out
    refine ⟨h4.1, h4.2.1.kept hK5 (by omega), h4.2.2.1.trans hK5 fun k hk e => by have := HC.out; omega, h4.2.2.2.1.kept hK5 (by omega), ?_, h4.2.2.2.2.2.1, h4.2.2.2.2.2.2.1, h4.2.2.2.2.2.2.2, hC5⟩
    obtain ⟨x, hx1, hx2, hx3⟩ := h4.2.2.2.2.1
    have hlo : ∀ k, k = C + 1 → k < w2.heap.size := fun k e => by have := h4.2.2.2.2.2.1; omega
    exact ⟨x, hx1, hx2, hx3.cs.kept hK5 hlo, hx3.ps.kept hK5 hlo, hx3.hs.kept hK5 hlo, hx3.ns⟩
  clear HN H4 hC5 hK5
  cases bad2
  · have hdn : q2 = q + 4 ∧ q2 ≤ L := by
      obtain ⟨x, hx1, _⟩ := H5.out.2.2.2.2.1
      have := (decC_of HD.out.1 hx1 H5.out.2.2.2.2.2.2.1).2 rfl
      have := HS.out.2.1
      omega
    by_cases hq : q2 < L
    · have hq' : (q2 : Int) < L := by omega
      have HE : Hid (dec B = .error (q2, 110)) := by
        obtain ⟨x, hx1, _⟩ := H5.out.2.2.2.2.1
        exact ((decC_of HD.out.1 hx1 H5.out.2.2.2.2.2.2.1).2 rfl).2.2.1 (by have := HS.out.2.1; omega)
      clear hdn
      go_wp2
      have hb4 := H5.out.2.2.2.2.2.2.2.2.blk.drew
      have hc4 := H5.out.2.2.2.1.drew
      refine wp_region_held_drew (S := fun w' => w'.cell? ⟨C + 1, 1, none⟩ = some (.int .i64 q2)) (by kernel_rfl) (hb4.cell (i := 1) rfl) (fun hHeld => ?_)
      simp only [List.size_toArray, List.length_cons, List.length_nil, Nat.reduceAdd, Array.replicate_succ, Array.replicate_zero, List.push_toArray, List.append_toArray, List.nil_append, List.cons_append]
      refine wpAnyH_take (i := 0) (oi := { dst := some 45, op := .build 26 #[], type := 26, pos := "ref.go:307", after := #[], guard := none }) (v := .agg #[.int .i64 0, .int .i64 0, .int .i64 0, .int .i64 0, .slice none 0 0, .slice none 0 0, .slice none 0 0]) rfl (by kernel_rfl) (by kernel_rfl) (by kernel_rfl) (fun _ _ _ h => h) (Or.inl ⟨by rfl, by (intro w hSw; (try dsimp only at hSw); go_simp)⟩) hHeld ?_
      simp only [Act.put, List.setIfInBounds_toArray, List.set_cons_zero, List.set_cons_succ]
      refine wpAnyH_take (i := 1) (oi := { dst := some 46, op := .move (.tmp 5), type := 101, pos := "ref.go:307", after := #[{ on := 5, ground := .gcOnly .lateStores }], guard := none }) (v := .pointer (some ⟨C + 1, 0, none⟩)) rfl (by kernel_rfl) (by kernel_rfl) (by kernel_rfl) (fun _ _ _ h => h) (Or.inl ⟨by rfl, by (intro w hSw; (try dsimp only at hSw); go_simp)⟩) hHeld ?_
      simp only [Act.put, List.setIfInBounds_toArray, List.set_cons_zero, List.set_cons_succ]
      refine wpAnyH_take (i := 2) (oi := { dst := some 47, op := .nilCheck (.tmp 46), type := 0, pos := "ref.go:307", after := #[{ on := 1, ground := .data }, { on := 5, ground := .gcOnly .lateStores }], guard := none }) (v := .pointer (some ⟨C + 1, 0, none⟩)) rfl (by kernel_rfl) (by kernel_rfl) (by kernel_rfl) (fun _ _ _ h => h) (Or.inl ⟨by rfl, by (intro w hSw; (try dsimp only at hSw); go_simp)⟩) hHeld ?_
      simp only [Act.put, List.setIfInBounds_toArray, List.set_cons_zero, List.set_cons_succ]
      refine wpAnyH_take (i := 3) (oi := { dst := some 48, op := .fieldAddr 103 (.tmp 47) 1, type := 0, pos := "ref.go:307", after := #[{ on := 2, ground := .data }, { on := 5, ground := .gcOnly .lateStores }], guard := none }) (v := .pointer (some ⟨C + 1, 1, none⟩)) rfl (by kernel_rfl) (by kernel_rfl) (by kernel_rfl) (fun _ _ _ h => h) (Or.inl ⟨by rfl, by (intro w hSw; (try dsimp only at hSw); go_simp)⟩) hHeld ?_
      simp only [Act.put, List.setIfInBounds_toArray, List.set_cons_zero, List.set_cons_succ]
      refine wpAnyH_take (i := 4) (oi := { dst := some 49, op := .load 3 (.tmp 48), type := 3, pos := "ref.go:307", after := #[{ on := 3, ground := .data }, { on := 5, ground := .gcOnly .lateStores }], guard := none }) (v := .int .i64 q2) rfl (by kernel_rfl) (by kernel_rfl) (by kernel_rfl) (fun _ _ _ h => h) (Or.inl ⟨by rfl, by (intro w hSw; (try dsimp only at hSw); go_simp)⟩) hHeld ?_
      simp only [Act.put, List.setIfInBounds_toArray, List.set_cons_zero, List.set_cons_succ]
      refine wpAnyH_ready (rs := [5]) (by kernel_rfl) (by simp) ?_
      refine AllReadyH.cons (o := { dst := none, op := .store 26 (.tmp 2) (.tmp 45), type := 0, pos := "ref.go:307", after := #[{ on := 0, ground := .data }, { on := 0, ground := .phase }, { on := 1, ground := .textOnly .lateStores }, { on := 2, ground := .textOnly .lateStores }, { on := 3, ground := .textOnly .lateStores }, { on := 4, ground := .textOnly .lateStores }], guard := none }) rfl (fun K hK => ?_) AllReadyH.nil
      rw [if_pos (by rfl)]
      refine wp_store_row 26 _ _ rfl C #[.int .i64 0, .int .i64 0, .int .i64 0, .int .i64 0, .slice none 0 0, .slice none 0 0, .slice none 0 0] (by rfl) (by rfl) 26 _ hc4 Tryz.size26 rfl (all26 ..) ?_
      have hb5 := hb4.setRow_ne (k := C) (by omega) #[.int .i64 0, .int .i64 0, .int .i64 0, .int .i64 0, .slice none 0 0, .slice none 0 0, .slice none 0 0]
      refine hK.out _ _ (hb5.cell (i := 1) rfl) (fun hHeld => ?_)
      simp only [Act.put, List.setIfInBounds_toArray, List.set_cons_zero, List.set_cons_succ]
      refine wpAnyH_take (i := 6) (oi := { dst := some 3, op := .assign (.tmp 49), type := 3, pos := "ref.go:307", after := #[{ on := 4, ground := .data }, { on := 5, ground := .chain }, { on := 0, ground := .phase }, { on := 1, ground := .phase }, { on := 2, ground := .phase }, { on := 3, ground := .phase }, { on := 4, ground := .phase }, { on := 5, ground := .phase }], guard := none }) (v := .int .i64 q2) rfl (by kernel_rfl) (by kernel_rfl) (by kernel_rfl) (fun _ _ _ h => h) (Or.inl ⟨by rfl, by (intro w hSw; (try dsimp only at hSw); go_simp)⟩) hHeld ?_
      simp only [Act.put, List.setIfInBounds_toArray, List.set_cons_zero, List.set_cons_succ]
      refine wpAnyH_take (i := 7) (oi := { dst := some 4, op := .assign (.const (.int .i64 110)), type := 29, pos := "ref.go:307", after := #[{ on := 6, ground := .chain }, { on := 0, ground := .phase }, { on := 1, ground := .phase }, { on := 2, ground := .phase }, { on := 3, ground := .phase }, { on := 4, ground := .phase }, { on := 5, ground := .phase }, { on := 6, ground := .phase }], guard := none }) (v := .int .i64 110) rfl (by kernel_rfl) (by kernel_rfl) (by kernel_rfl) (fun _ _ _ h => h) (Or.inl ⟨by rfl, by (intro w hSw; (try dsimp only at hSw); go_simp)⟩) hHeld ?_
      simp only [Act.put, List.setIfInBounds_toArray, List.set_cons_zero, List.set_cons_succ]
      refine wpAnyH_done (by kernel_rfl) ?_ _
      have H9 : Hid (Blk (w5.drew.setRow C #[.int .i64 0, .int .i64 0, .int .i64 0, .int .i64 0, .slice none 0 0, .slice none 0 0, .slice none 0 0]) C zCfgR 26 ∧ Keeps (fun _ => False) w (w5.drew.setRow C #[.int .i64 0, .int .i64 0, .int .i64 0, .int .i64 0, .slice none 0 0, .slice none 0 0, .slice none 0 0])) := ⟨hc4.setRow zCfgR, H5.out.2.2.1.drew.setRow C _ (fun h => by have := HC.out; omega)⟩
      clear hb4 hc4 hb5
      go_wp2
      refine bodyPost_ret (results_cell_three rfl _ _ C 26 _ (0, 0) _ rfl H9.out.1 Tryz.underlying26 rfl Tryz.size26) rfl ?_
      exact ⟨H9.out.2, .inr ⟨HD.out.2, .inr ⟨q2, 110, HE.out, rfl⟩⟩⟩
    · have hq' : ¬ (q2 : Int) < L := by omega
      have hqL : (q : Int) ≤ cap := by omega
      have HQ : Hid (q2 = q + 4 ∧ q2 = L) := ⟨hdn.1, by omega⟩
      have hsg : Seg w5 (some ⟨g, o, none⟩) (B.take q) := seg_take w5 _ B (H5.out.2.2.2.2.2.2.2.2.seg) q
      have htl : (B.take q).length = q := by rw [List.length_take]; have := HS.out.2.1; omega
      have hsm := refSum_any (some ⟨g, o, none⟩) cap (B.take q) w5 hsg (by rw [htl]; have := HS.out.2.2.1; unfold maxLen at *; omega)
      rw [htl] at hsm
      obtain ⟨U, hU⟩ : ∃ U, sumN (B.take q) = U := ⟨_, rfl⟩
      rw [hU] at hsm
      have HSm : Hid (Calls _ _ _ _ _) := hsm
      have hU2 : U < 4294967296 := by rw [← hU]; exact sumN_lt _
      have hcu : IntKind.i64.wrap (U : Int) = U := by rw [IntKind.wrap_i64]; omega
      have HU : Hid (sumN (B.take q) = U ∧ U < 4294967296) := ⟨hU, hU2⟩
      clear hdn hsg htl hsm hU hU2
      go_wp2_with fail
      refine HSm.out.mono ?_
      rintro e w6 ⟨rfl, hw6⟩
      obtain rfl := hw6.symm
      clear hw6 HSm
      by_cases hs : V = U
      · have HE : Hid (∃ x : Cfg, dec B = .ok x.pure ∧ x.vs = [.int .i64 m1, .int .i64 m2, .int .i64 m3, .int .i64 m4, .slice ca L1 cc, .slice pa L2 pc, .slice ha L3 hc] ∧ x.Lsts w5 w2.heap.size) := by
          obtain ⟨x, hx1, hx2, hx3⟩ := H5.out.2.2.2.2.1
          exact ⟨x, (((decC_of HD.out.1 hx1 H5.out.2.2.2.2.2.2.1).2 rfl).2.2.2 (by have := HS.out.2.1; have := HQ.out; omega)).1 (by rw [HU.out.1]; exact hs), hx2, hx3⟩
        subst hs
        clear y1 y2
        obtain ⟨w7, hw7⟩ : ∃ w7, w7 = w5.setRow C #[.int .i64 m1, .int .i64 m2, .int .i64 m3, .int .i64 m4, .slice ca L1 cc, .slice pa L2 pc, .slice ha L3 hc] := ⟨_, rfl⟩
        have hK7 : Keeps (· = C) w5 w7 := by rw [hw7]; exact (Keeps.refl _ _).setRow C _ fun _ => rfl
        have H7 : Hid (Blk w7 C [.int .i64 m1, .int .i64 m2, .int .i64 m3, .int .i64 m4, .slice ca L1 cc, .slice pa L2 pc, .slice ha L3 hc] 26 ∧ Keeps (fun _ => False) w w7 ∧ ∃ x : Cfg, dec B = .ok x.pure ∧ x.vs = [.int .i64 m1, .int .i64 m2, .int .i64 m3, .int .i64 m4, .slice ca L1 cc, .slice pa L2 pc, .slice ha L3 hc] ∧ x.Lsts w7 w.heap.size) := by
          obtain ⟨x, hx1, hx2, hx3⟩ := HE.out
          have hlo : ∀ k, k = C → k < w2.heap.size := fun k e => by have := H5.out.2.2.2.2.2.1; omega
          have hsz : w.heap.size ≤ w2.heap.size := by have := H5.out.2.2.2.2.2.1; have := HC.out; omega
          exact ⟨by rw [hw7]; exact H5.out.2.2.2.1.setRow [.int .i64 m1, .int .i64 m2, .int .i64 m3, .int .i64 m4, .slice ca L1 cc, .slice pa L2 pc, .slice ha L3 hc], H5.out.2.2.1.trans hK7 fun k hk e => by have := HC.out; omega, x, hx1, hx2, (hx3.cs.kept hK7 hlo).mono hsz, (hx3.ps.kept hK7 hlo).mono hsz, (hx3.hs.kept hK7 hlo).mono hsz, hx3.ns⟩
        clear hK7
        go_wp2_with (first | (refine wpList_load_row rfl 26 (.tmp 6) rfl T (by rfl) 26 _ (0, 0) _ H5.out.2.1 Tryz.underlying26 rfl Tryz.size26 ?_) | (refine wpList_store_row rfl 26 (.tmp 2) (.tmp 59) rfl C #[.int .i64 m1, .int .i64 m2, .int .i64 m3, .int .i64 m4, .slice ca L1 cc, .slice pa L2 pc, .slice ha L3 hc] (by rfl) (by rfl) 26 _ H5.out.2.2.2.1 Tryz.size26 rfl (all26 ..) ?_))
        rw [← hw7]
        refine bodyPost_ret (results_cell_three rfl _ _ C 26 _ (0, 0) _ rfl H7.out.1 Tryz.underlying26 rfl Tryz.size26) rfl ?_
        obtain ⟨x, hx1, hx2, hx3⟩ := H7.out.2.2
        refine ⟨H7.out.2.1, .inr ⟨HD.out.2, .inl ⟨x, hx1, ?_, hx3⟩⟩⟩
        have : x.v = .agg x.vs.toArray := rfl
        rw [this, hx2]; rfl
      · have HE : Hid (dec B = .error (q, 111)) := by
          obtain ⟨x, hx1, hx2, hx3⟩ := H5.out.2.2.2.2.1
          exact (((decC_of HD.out.1 hx1 H5.out.2.2.2.2.2.2.1).2 rfl).2.2.2 (by have := HS.out.2.1; have := HQ.out; omega)).2 (by rw [HU.out.1]; exact hs)
        have hs' : ((V : Int) != (U : Int)) = true := by simp; omega
        clear y1 y2 hs
        go_wp2_with (refine wpList_store_row rfl 26 (.tmp 2) (.tmp 57) rfl C #[.int .i64 0, .int .i64 0, .int .i64 0, .int .i64 0, .slice none 0 0, .slice none 0 0, .slice none 0 0] (by rfl) (by rfl) 26 _ H5.out.2.2.2.1 Tryz.size26 rfl (all26 ..) ?_)
        refine bodyPost_ret (results_cell_three rfl _ _ C 26 _ (0, 0) _ rfl (H5.out.2.2.2.1.setRow zCfgR) Tryz.underlying26 rfl Tryz.size26) rfl ?_
        exact ⟨H5.out.2.2.1.setRow _ _ (fun h => by have := HC.out; omega), .inr ⟨HD.out.2, .inr ⟨q, 111, HE.out, rfl⟩⟩⟩
  · have HE : Hid (dec B = .error (q2, 110)) := by
      obtain ⟨x, hx1, _⟩ := H5.out.2.2.2.2.1
      exact (decC_of HD.out.1 hx1 H5.out.2.2.2.2.2.2.1).1 rfl
    go_wp2
    have hb4 := H5.out.2.2.2.2.2.2.2.2.blk.drew
    have hc4 := H5.out.2.2.2.1.drew
    refine wp_region_held_drew (S := fun w' => w'.cell? ⟨C + 1, 1, none⟩ = some (.int .i64 q2)) (by kernel_rfl) (hb4.cell (i := 1) rfl) (fun hHeld => ?_)
    simp only [List.size_toArray, List.length_cons, List.length_nil, Nat.reduceAdd, Array.replicate_succ, Array.replicate_zero, List.push_toArray, List.append_toArray, List.nil_append, List.cons_append]
    refine wpAnyH_take (i := 0) (oi := { dst := some 33, op := .build 26 #[], type := 26, pos := "ref.go:304", after := #[], guard := none }) (v := .agg #[.int .i64 0, .int .i64 0, .int .i64 0, .int .i64 0, .slice none 0 0, .slice none 0 0, .slice none 0 0]) rfl (by kernel_rfl) (by kernel_rfl) (by kernel_rfl) (fun _ _ _ h => h) (Or.inl ⟨by rfl, by (intro w hSw; (try dsimp only at hSw); go_simp)⟩) hHeld ?_
    simp only [Act.put, List.setIfInBounds_toArray, List.set_cons_zero, List.set_cons_succ]
    refine wpAnyH_take (i := 1) (oi := { dst := some 34, op := .move (.tmp 5), type := 101, pos := "ref.go:304", after := #[{ on := 5, ground := .gcOnly .lateStores }], guard := none }) (v := .pointer (some ⟨C + 1, 0, none⟩)) rfl (by kernel_rfl) (by kernel_rfl) (by kernel_rfl) (fun _ _ _ h => h) (Or.inl ⟨by rfl, by (intro w hSw; (try dsimp only at hSw); go_simp)⟩) hHeld ?_
    simp only [Act.put, List.setIfInBounds_toArray, List.set_cons_zero, List.set_cons_succ]
    refine wpAnyH_take (i := 2) (oi := { dst := some 35, op := .nilCheck (.tmp 34), type := 0, pos := "ref.go:304", after := #[{ on := 1, ground := .data }, { on := 5, ground := .gcOnly .lateStores }], guard := none }) (v := .pointer (some ⟨C + 1, 0, none⟩)) rfl (by kernel_rfl) (by kernel_rfl) (by kernel_rfl) (fun _ _ _ h => h) (Or.inl ⟨by rfl, by (intro w hSw; (try dsimp only at hSw); go_simp)⟩) hHeld ?_
    simp only [Act.put, List.setIfInBounds_toArray, List.set_cons_zero, List.set_cons_succ]
    refine wpAnyH_take (i := 3) (oi := { dst := some 36, op := .fieldAddr 103 (.tmp 35) 1, type := 0, pos := "ref.go:304", after := #[{ on := 2, ground := .data }, { on := 5, ground := .gcOnly .lateStores }], guard := none }) (v := .pointer (some ⟨C + 1, 1, none⟩)) rfl (by kernel_rfl) (by kernel_rfl) (by kernel_rfl) (fun _ _ _ h => h) (Or.inl ⟨by rfl, by (intro w hSw; (try dsimp only at hSw); go_simp)⟩) hHeld ?_
    simp only [Act.put, List.setIfInBounds_toArray, List.set_cons_zero, List.set_cons_succ]
    refine wpAnyH_take (i := 4) (oi := { dst := some 37, op := .load 3 (.tmp 36), type := 3, pos := "ref.go:304", after := #[{ on := 3, ground := .data }, { on := 5, ground := .gcOnly .lateStores }], guard := none }) (v := .int .i64 q2) rfl (by kernel_rfl) (by kernel_rfl) (by kernel_rfl) (fun _ _ _ h => h) (Or.inl ⟨by rfl, by (intro w hSw; (try dsimp only at hSw); go_simp)⟩) hHeld ?_
    simp only [Act.put, List.setIfInBounds_toArray, List.set_cons_zero, List.set_cons_succ]
    refine wpAnyH_ready (rs := [5]) (by kernel_rfl) (by simp) ?_
    refine AllReadyH.cons (o := { dst := none, op := .store 26 (.tmp 2) (.tmp 33), type := 0, pos := "ref.go:304", after := #[{ on := 0, ground := .data }, { on := 0, ground := .phase }, { on := 1, ground := .textOnly .lateStores }, { on := 2, ground := .textOnly .lateStores }, { on := 3, ground := .textOnly .lateStores }, { on := 4, ground := .textOnly .lateStores }], guard := none }) rfl (fun K hK => ?_) AllReadyH.nil
    rw [if_pos (by rfl)]
    refine wp_store_row 26 _ _ rfl C #[.int .i64 0, .int .i64 0, .int .i64 0, .int .i64 0, .slice none 0 0, .slice none 0 0, .slice none 0 0] (by rfl) (by rfl) 26 _ hc4 Tryz.size26 rfl (all26 ..) ?_
    have hb5 := hb4.setRow_ne (k := C) (by omega) #[.int .i64 0, .int .i64 0, .int .i64 0, .int .i64 0, .slice none 0 0, .slice none 0 0, .slice none 0 0]
    refine hK.out _ _ (hb5.cell (i := 1) rfl) (fun hHeld => ?_)
    simp only [Act.put, List.setIfInBounds_toArray, List.set_cons_zero, List.set_cons_succ]
    refine wpAnyH_take (i := 6) (oi := { dst := some 3, op := .assign (.tmp 37), type := 3, pos := "ref.go:304", after := #[{ on := 4, ground := .data }, { on := 5, ground := .chain }, { on := 0, ground := .phase }, { on := 1, ground := .phase }, { on := 2, ground := .phase }, { on := 3, ground := .phase }, { on := 4, ground := .phase }, { on := 5, ground := .phase }], guard := none }) (v := .int .i64 q2) rfl (by kernel_rfl) (by kernel_rfl) (by kernel_rfl) (fun _ _ _ h => h) (Or.inl ⟨by rfl, by (intro w hSw; (try dsimp only at hSw); go_simp)⟩) hHeld ?_
    simp only [Act.put, List.setIfInBounds_toArray, List.set_cons_zero, List.set_cons_succ]
    refine wpAnyH_take (i := 7) (oi := { dst := some 4, op := .assign (.const (.int .i64 110)), type := 29, pos := "ref.go:304", after := #[{ on := 6, ground := .chain }, { on := 0, ground := .phase }, { on := 1, ground := .phase }, { on := 2, ground := .phase }, { on := 3, ground := .phase }, { on := 4, ground := .phase }, { on := 5, ground := .phase }, { on := 6, ground := .phase }], guard := none }) (v := .int .i64 110) rfl (by kernel_rfl) (by kernel_rfl) (by kernel_rfl) (fun _ _ _ h => h) (Or.inl ⟨by rfl, by (intro w hSw; (try dsimp only at hSw); go_simp)⟩) hHeld ?_
    simp only [Act.put, List.setIfInBounds_toArray, List.set_cons_zero, List.set_cons_succ]
    refine wpAnyH_done (by kernel_rfl) ?_ _
    have H9 : Hid (Blk (w5.drew.setRow C #[.int .i64 0, .int .i64 0, .int .i64 0, .int .i64 0, .slice none 0 0, .slice none 0 0, .slice none 0 0]) C zCfgR 26 ∧ Keeps (fun _ => False) w (w5.drew.setRow C #[.int .i64 0, .int .i64 0, .int .i64 0, .int .i64 0, .slice none 0 0, .slice none 0 0, .slice none 0 0])) := ⟨hc4.setRow zCfgR, H5.out.2.2.1.drew.setRow C _ (fun h => by have := HC.out; omega)⟩
    clear hb4 hc4 hb5
    go_wp2
    refine bodyPost_ret (results_cell_three rfl _ _ C 26 _ (0, 0) _ rfl H9.out.1 Tryz.underlying26 rfl Tryz.size26) rfl ?_
    exact ⟨H9.out.2, .inr ⟨HD.out.2, .inr ⟨q2, 110, HE.out, rfl⟩⟩⟩
end Go.Proofs.YtjadpbkhfclldaaGreat
namespace Go.Proofs.YtjadpbkhfclldaaGreat
open Go.RowKit
set_option linter.unusedVariables false
set_option maxRecDepth 6000

theorem refDecode_any (B : List UInt8) (a : Option Addr) (cap : Nat) (w : World) (hs : Seg w a B) (hcap : B.length ≤ cap ∧ cap ≤ maxLen) (hlt : B ≠ [] → ∀ y, a = some y → y.block < w.heap.size) :
    Calls Tryz.prog 29 #[.slice a B.length cap] w (DecP w B) := by
  by_cases hl : 16384 < B.length
  · exact (refDecode_long B.length a cap w hl (by omega)).mono fun e w' h => ⟨h.1, .inl ⟨hl, h.2⟩⟩
  · by_cases h4 : B.length < 4
    · exact refDecode_tiny B a cap w h4
    · have hne : B ≠ [] := by intro e; rw [e] at h4; simp at h4
      rcases hs with h0 | ⟨g, o, rfl, hc⟩
      · exact (hne h0).elim
      · have hs : Seg w (some ⟨g, o, none⟩) B := .inr ⟨g, o, rfl, hc⟩
        by_cases hm : (B.drop 0).take 4 = [66, 75, 67, 49]
        · exact refDecode_go B g o cap w hs hcap (by omega) (by omega) (hlt hne _ rfl) hm
        · exact refDecode_mark B g o cap w hs hcap (by omega) (by omega) (hlt hne _ rfl) hm

def zC : Cfg := ⟨0, 0, 0, 0, none, 0, [], none, 0, [], none, 0, []⟩
theorem zC_ok (w : World) : zC.Ok w := ⟨.inl rfl, ⟨Nat.le_refl _, Nat.zero_le _⟩, fun c h => (by cases h), .inl rfl, ⟨Nat.le_refl _, Nat.zero_le _⟩, fun c h => (by cases h), .inl rfl, ⟨Nat.le_refl _, Nat.zero_le _⟩⟩
/-- Decode's answer, as one. -/
def decA (B : List UInt8) : PCfg × Nat × Int := if 16384 < B.length then (zC.pure, 0, 2) else match dec B with | .ok p => (p, 0, 0) | .error r => (zC.pure, r.1, r.2)
theorem DecP.open {w w' : World} {B : List UInt8} {e : Ending} (h : DecP w B e w') : ∃ (m1 m2 m3 m4 : Int) (ca : Option Addr) (L1 cc : Nat) (pa : Option Addr) (L2 pc : Nat) (ha : Option Addr) (L3 hc : Nat) (q : Nat) (k : Int),
    e = .returned (.tuple #[.agg #[.int .i64 m1, .int .i64 m2, .int .i64 m3, .int .i64 m4, .slice ca L1 cc, .slice pa L2 pc, .slice ha L3 hc], .int .i64 q, .int .i64 k]) ∧ Keeps (fun _ => False) w w' ∧ ∃ x : Cfg, x.v = .agg #[.int .i64 m1, .int .i64 m2, .int .i64 m3, .int .i64 m4, .slice ca L1 cc, .slice pa L2 pc, .slice ha L3 hc] ∧ x.Ok w' ∧ decA B = (x.pure, q, k) := by
  obtain ⟨hK, ⟨hl, rfl⟩ | ⟨hl, ⟨x, hd, rfl, hX⟩ | ⟨q, k, hd, rfl⟩⟩⟩ := h
  · exact ⟨0, 0, 0, 0, none, 0, 0, none, 0, 0, none, 0, 0, 0, 2, rfl, hK, zC, rfl, zC_ok w', by unfold decA; rw [if_pos hl]⟩
  · have hO := hX.in.ok
    obtain ⟨n1, n2, n3, n4, ca, cc, cs, pa, pc, ps, ha, hc, hs⟩ := x
    exact ⟨n1, n2, n3, n4, ca, cs.length, cc, pa, ps.length, pc, ha, hs.length, hc, 0, 0, rfl, hK, _, rfl, hO, by unfold decA; rw [if_neg (by omega), hd]⟩
  · exact ⟨0, 0, 0, 0, none, 0, 0, none, 0, 0, none, 0, 0, q, k, rfl, hK, zC, rfl, zC_ok w', by unfold decA; rw [if_neg (by omega), hd]⟩

end Go.Proofs.YtjadpbkhfclldaaGreat
