import Derived.Test.YtipejahmjdamjaaGreatDoorYda
namespace Go.Proofs.YtipejahmjdamjaaGreatDoor
open Go.RowKit Go.Shelf
set_option linter.unusedVariables false
set_option linter.unusedSimpArgs false
set_option maxRecDepth 6000

theorem still_take {P : Program} {ops : Array Oper} {w : World} {Q : Act → Prop} {a : Act} {o : Oper} {rest : List Oper} (v : Value) (hw : Region.wanted o (yielded ops a.tmps) = true) (hs : ∀ K : Act → Prop, K (a.put o.dst v) → o.still P a w K) (h : wpStill P ops w Q rest (a.put o.dst v)) : wpStill P ops w Q (o :: rest) a := by
  unfold wpStill
  rw [if_pos hw]
  exact hs _ h
theorem still_skip {P : Program} {ops : Array Oper} {w : World} {Q : Act → Prop} {a : Act} {o : Oper} {rest : List Oper} (hw : Region.wanted o (yielded ops a.tmps) = false) (h : wpStill P ops w Q rest (a.put o.dst undef)) : wpStill P ops w Q (o :: rest) a := by
  unfold wpStill
  rw [if_neg (by rw [hw]; exact Bool.false_ne_true)]
  exact h

set_option maxHeartbeats 16000000 in
theorem blind_go (a : Option Addr) (cp n root q : Nat) (xs rg : List UInt32) (pc : Nat) (v : UInt32) (w : World) (hx : SegW w a xs) (hn : xs.length = n * 16) (h1 : 1 ≤ n) (h2 : n ≤ 1024) (hr : root < n) (hq : q < xs.length) (hqr : q / 16 ≠ root) (hg : rg.length = 16) (hp : pc < 4294967296) (hT : Is.Tabs w) :
    Calls Tryz.prog 7 #[.slice a xs.length cp, .int .i64 root, .agg (ctx rg pc).toArray, .int .i64 q, .int .u32 (v.toNat : Int)] w fun e w' => e = .returned (.bool true) ∧ Keeps (fun _ => False) w w' := by
  obtain ⟨W, hW⟩ : ∃ W, W = w.alloc (.cells (ctx rg pc).toArray 40) := ⟨_, rfl⟩
  have hK0 : Keeps (fun _ => False) w W := by rw [hW]; exact (Keeps.refl _ w).alloc _
  have hBX : Blk W w.heap.size (ctx rg pc) 40 := by rw [hW]; exact Blk.new w _ 40
  obtain ⟨X, eX⟩ : ∃ X, X = w.heap.size := ⟨_, rfl⟩
  rw [← eX] at hBX
  have hxW := hx.kept hK0 fun _ _ h => h
  have H1 : Hid (Calls _ _ _ _ _) := of_yes a cp xs n W hxW hn h1 h2
  have HW : Hid (W = w.alloc (.cells (ctx rg pc).toArray 40)) := hW
  have H0 : Hid (Keeps (fun _ => False) w W ∧ Blk W X (ctx rg pc) 40 ∧ X = w.heap.size ∧ Is.Tabs w ∧ X < W.heap.size) := ⟨hK0, hBX, eX, hT, hBX.lt⟩
  have HQ : Hid (xs.length = n * 16 ∧ 1 ≤ n ∧ n ≤ 1024 ∧ root < n ∧ rg.length = 16 ∧ pc < 4294967296 ∧ q < xs.length ∧ q / 16 ≠ root) := ⟨hn, h1, h2, hr, hg, hp, hq, hqr⟩
  obtain ⟨L, eL⟩ : ∃ L, L = xs.length := ⟨_, rfl⟩
  have hLb : (L : Int) ≤ 16384 := by omega
  have hnb : (n : Int) ≤ 1024 := by omega
  have g1 : decide ((q : Int) < 0) = false := decide_eq_false (by omega)
  have g2 : decide ((L : Int) ≤ (q : Int)) = false := decide_eq_false (by omega)
  have g2' : decide (L ≤ q) = false := decide_eq_false (by omega)
  have g3 : decide ((root : Int) < 0) = false := decide_eq_false (by omega)
  have g4 : decide ((n : Int) ≤ (root : Int)) = false := decide_eq_false (by omega)
  have g4' : decide (n ≤ root) = false := decide_eq_false (by omega)
  have g5 : ((q : Int) / 16 == (root : Int)) = false := by simp; omega
  have g6 : ((q : Int).tdiv 16 == (root : Int)) = false := by rw [Int.tdiv_eq_ediv_of_nonneg (by omega)]; exact g5
  have hqb : (q : Int) ≤ 16384 := by omega
  have hrb : (root : Int) ≤ 1024 := by omega
  rw [← eL] at H1 ⊢
  have HL : Hid (L = xs.length) := eL
  have HX : Hid (w.heap.size = X) := eX.symm
  clear hx hn h1 h2 hr hg hp hT hW hK0 hBX hxW eL eX hq hqr
  go_enter Tryz.func7, Tryz.ntmps7
  go_upto_region 1 with fail
  rw [← HW.out, HX.out]
  go_wp2_with fail
  refine H1.out.mono ?_
  rintro e w1 ⟨b, rfl, hM1, hb1, hK1⟩
  obtain ⟨g, eg⟩ : ∃ g, g = W.heap.size := ⟨_, rfl⟩
  rw [← eg] at hM1
  have HFr : Hid (Calls Tryz.prog 34 #[ptr b] w1 fun e w' => e = .returned (.int .i64 n) ∧ w' = w1) := frames_any b g xs n w1 hM1.mm hM1.len
  have H3 : Hid (Mn w1 b g n xs ∧ g = W.heap.size ∧ W.heap.size ≤ b ∧ Keeps (fun _ => False) W w1) := ⟨hM1, eg, hb1, hK1⟩
  have HAw1 : Hid (Calls Tryz.prog 12 #[] w1 fun e w' => e = .returned (.bool true) ∧ Keeps (fun _ => False) w1 w') := awake_any w1 (tabs_kept H0.out.2.2.2.1 (H0.out.1.trans hK1 fun _ _ h => h) fun _ h => h.elim)
  have HK1 : Hid (Keeps (fun _ => False) w w1) := H0.out.1.trans hK1 fun _ _ h => h
  clear hM1 eg hb1 hK1 H1
  go_wp2_with fail
  refine HFr.out.mono ?_
  rintro e w1' ⟨rfl, hw⟩
  obtain rfl := hw.symm
  clear hw HFr
  go_wp2_with fail
  clear g1 g2 g2' g3 g4 g4'
  go_loopw [13] (fun i wr => ∃ j : Nat, j ≤ 16 ∧ i = .int .i64 j ∧ wr = w1 ∧ ∀ k, k < j → isT (xs.getD (16 * root + k) 0).toNat = true → q / 16 ≠ frm (xs.getD (16 * root + k) 0).toNat)
    (fun i _ => 16 - (Ch.intOf i).toNat)
  case atStart => exact ⟨0, by omega, rfl, rfl, fun k hk => by omega⟩
  case round =>
    obtain ⟨j, hj, rfl, hw, hall⟩ := hrel
    obtain rfl := hw.symm
    clear hw
    by_cases hlt : j < 16
    · obtain ⟨y, ey⟩ : ∃ y, y = (xs.getD (16 * root + j) 0).toNat := ⟨_, rfl⟩
      have hlx : 16 * root + j < xs.length := by have h1 := HQ.out.1; have h2 := HQ.out.2.2.2.1; omega
      have HRd := read_in b g xs (16 * root + j) w1 H3.out.1.mm hlx
      rw [← getD_toNat xs (16 * root + j) hlx, ← ey, show (((16 * root + j : Nat)) : Int) = 16 * (root : Int) + (j : Int) by omega] at HRd
      replace HRd : Hid (Calls Tryz.prog 36 #[ptr b, .int .i64 (16 * (root : Int) + (j : Int))] w1 fun e w' => e = .returned (.tuple #[.int .u32 (y : Int), .int .i64 0]) ∧ w' = w1) := HRd
      have hy : y < 4294967296 := by rw [ey]; exact rg_lt _
      have HDe : Hid (Calls Tryz.prog 37 #[.int .u32 (y : Int)] w1 fun e w' => e = .returned (.tuple #[.int .i64 (frm y : Nat), .int .i64 (rts y : Nat), .bool (isT y)]) ∧ w' = w1) := decode_any y w1 hy
      have HA : Hid (∀ k, k < j → isT (xs.getD (16 * root + k) 0).toNat = true → q / 16 ≠ frm (xs.getD (16 * root + k) 0).toNat) := hall
      have Hy : Hid (y = (xs.getD (16 * root + j) 0).toNat) := ey
      have hji : (j : Int) < 16 := by omega
      clear hall ey hlx hy
      go_wp2_with fail
      refine HRd.out.mono ?_
      rintro e w1' ⟨rfl, hw⟩
      obtain rfl := hw.symm
      clear hw HRd
      go_wp2_with fail
      refine HDe.out.mono ?_
      rintro e w1' ⟨rfl, hw⟩
      obtain rfl := hw.symm
      clear hw HDe
      obtain ⟨tt, ett⟩ : ∃ tt, tt = isT y := ⟨_, rfl⟩
      obtain ⟨ff, eff⟩ : ∃ ff, ff = frm y := ⟨_, rfl⟩
      obtain ⟨rr, err⟩ : ∃ rr, rr = rts y := ⟨_, rfl⟩
      rw [← ett, ← eff, ← err]
      have HT : Hid (tt = isT y ∧ ff = frm y) := ⟨ett, eff⟩
      clear ett eff err
      by_cases hh : tt = true ∧ q / 16 = ff
      · obtain ⟨rfl, hf⟩ := hh
        have f1 : ((q : Int) / 16 == (ff : Int)) = true := by simp; omega
        have f2 : ((q : Int).tdiv 16 == (ff : Int)) = true := by rw [Int.tdiv_eq_ediv_of_nonneg (by omega)]; exact f1
        clear hf
        go_wp2_with fail
        refine HAw1.out.mono ?_
        rintro e w2 ⟨rfl, hK2⟩
        have HE : Hid (Keeps (fun _ => False) w w2) := HK1.out.trans hK2 fun _ _ h => h
        clear hK2 HAw1
        go_wp2
        go_ret
        exact ⟨rfl, HE.out⟩
      · have hnext : ∀ k, k < j + 1 → isT (xs.getD (16 * root + k) 0).toNat = true → q / 16 ≠ frm (xs.getD (16 * root + k) 0).toNat := fun k hk hi => by
          by_cases e : k = j
          · intro hf
            subst e
            rw [← Hy.out] at hi hf
            exact hh ⟨by rw [HT.out.1]; exact hi, by rw [HT.out.2]; exact hf⟩
          · exact HA.out k (by omega) hi
        have HN : Hid (∀ k, k < j + 1 → isT (xs.getD (16 * root + k) 0).toNat = true → q / 16 ≠ frm (xs.getD (16 * root + k) 0).toNat) := hnext
        clear hnext
        cases tt with
        | false =>
          clear hh
          go_wp2
          go_roundw
          case rel => exact ⟨j + 1, by omega, by go_num, trivial, HN.out⟩
          case measure => simp [Ch.intOf]; omega
        | true =>
          have hf : q / 16 ≠ ff := fun e => hh ⟨rfl, e⟩
          have f1 : ((q : Int) / 16 == (ff : Int)) = false := by simp; omega
          have f2 : ((q : Int).tdiv 16 == (ff : Int)) = false := by rw [Int.tdiv_eq_ediv_of_nonneg (by omega)]; exact f1
          clear hh hf
          go_wp2
          go_roundw
          case rel => exact ⟨j + 1, by omega, by go_num, trivial, HN.out⟩
          case measure => simp [Ch.intOf]; omega
    · obtain rfl : j = 16 := by omega
      have HBs : Hid (Beside xs root q) := ⟨HQ.out.2.2.2.2.2.2.2, hall⟩
      have H2 : Hid (Calls _ _ _ _ _) := clone_any b g n xs w1 H3.out.1
      clear hall hlt hj g5 g6
      go_wp2_with fail
      refine H2.out.mono ?_
      rintro e w2 ⟨b2, rfl, hM2, hb2, hK2⟩
      obtain ⟨g2, eg2⟩ : ∃ g2, g2 = w1.heap.size := ⟨_, rfl⟩
      rw [← eg2] at hM2
      have HWr : Hid (Calls _ _ _ _ _) := write_in b2 g2 xs q v w2 hM2.mm HQ.out.2.2.2.2.2.2.1
      have H5 : Hid (Mn w2 b2 g2 n xs ∧ g2 = w1.heap.size ∧ w1.heap.size ≤ b2 ∧ Keeps (fun _ => False) w1 w2) := ⟨hM2, eg2, hb2, hK2⟩
      clear hM2 eg2 hb2 hK2 H2
      go_wp2_with fail
      refine HWr.out.mono ?_
      rintro e w3 ⟨rfl, hM3, hK3⟩
      have HB3 : Hid (Bd w w3 X b g b2 g2 n rg pc xs (lay xs q [v]) ∧ (X = w.heap.size ∧ w.heap.size < g ∧ w.heap.size < b ∧ b ≠ g ∧ g < g2 ∧ b < g2 ∧ g2 ≤ b2 ∧ b2 ≠ g2 ∧ 2 ≤ w.heap.size) ∧ b2 < w3.heap.size ∧ g2 < w3.heap.size) := by
        have l1 : b < w1.heap.size ∧ g < w1.heap.size := ⟨H3.out.1.mm.blk.lt, H3.out.1.mm.row.lt⟩
        have l2 : b2 < w2.heap.size ∧ g2 < w2.heap.size := ⟨H5.out.1.mm.blk.lt, H5.out.1.mm.row.lt⟩
        have s0 := H0.out.2.2.2.2
        have s1 := H3.out.2.2.2.size
        have s2 := H5.out.2.2.2.size
        have s3 := hK3.size
        have e1 := H3.out.2.1
        have e2 := H3.out.2.2.1
        have e3 := H5.out.2.1
        have e4 := H5.out.2.2.1
        have e5 := H0.out.2.2.1
        have t2 := tabs_two H0.out.2.2.2.1
        have n1 := H3.out.1.mm.ne
        have n2 := H5.out.1.mm.ne
        have hk2 : Keeps (fun _ => False) w w2 := HK1.out.trans H5.out.2.2.2 fun _ _ h => h
        have hl : (lay xs q [v]).length = n * 16 := by rw [lay_length _ _ _ (by have := HQ.out.2.2.2.2.2.2.1; simp; omega)]; exact HQ.out.1
        refine ⟨⟨((H0.out.2.1.kept H3.out.2.2.2 fun h => h).kept H5.out.2.2.2 fun h => h).kept hK3 (by show ¬ X = g2; omega), (H3.out.1.grown H5.out.2.2.2).kept hK3 (by show ¬ b = g2; omega) (by show ¬ g = g2; omega), ⟨hM3, hl⟩, tabs_kept (tabs_kept H0.out.2.2.2.1 hk2 fun _ h => h.elim) hK3 fun k (e : k = g2) => by omega, hk2.trans hK3 fun k hk (e : k = g2) => by omega⟩, ⟨e5, by omega, by omega, fun e => n1 e, by omega, by omega, by omega, fun e => n2 e, t2⟩, by omega, by omega⟩
      have HN1 : Hid (Calls _ _ _ _ _) := new_core w3 (by have h0 := HB3.out.2.1; have h1 := HB3.out.2.2.2; omega)
      clear hM3 hK3 HWr HW H3 H5 HAw1 HK1 H0
      go_wp2_with fail
      refine HN1.out.mono ?_
      rintro e w4 ⟨c, tb, cb, FT, FC, rfl, hC4, hn4, hK4⟩
      have HN2 : Hid (Calls _ _ _ _ _) := new_core w4 (by have h0 := HB3.out.2.1; have h1 := HB3.out.2.2.2; have h2 := hK4.size; omega)
      have H4 : Hid (CoreAt w4 c tb cb (List.replicate 16 0) 0 [] (fun _ => []) FT FC ∧ (∀ k, (k = c ∨ FT k ∨ FC k) → w3.heap.size ≤ k) ∧ Keeps (fun _ => False) w3 w4) := ⟨hC4, hn4, hK4⟩
      clear hC4 hn4 hK4 HN1
      go_wp2_with fail
      refine HN2.out.mono ?_
      rintro e w5 ⟨d, tb2, cb2, FT2, FC2, rfl, hD5, hn5, hK5⟩
      have HB5 : Hid (Bd w w5 X b g b2 g2 n rg pc xs (lay xs q [v])) := (HB3.out.1.grown H4.out.2.2).grown hK5
      have HRa : Hid (w5.rangeAt X 0 (ctx rg pc) ∧ (Tryz.prog.info? 40).map (·.size) = some (ctx rg pc).length) := ⟨fun j v hv => by rw [Nat.zero_add]; exact HB5.out.x.cell hv, by rw [ctx_len HQ.out.2.2.2.2.1]; kernel_rfl⟩
      have HS1 : Hid (Calls _ _ _ _ _) := set_any c tb cb (List.replicate 16 0) rg 0 pc [] (fun _ => []) FT FC w5 (H4.out.1.kept hK5 fun _ _ h => h) HQ.out.2.2.2.2.1 HQ.out.2.2.2.2.2.1
      have HF : Hid ((∀ k, (k = c ∨ FT k ∨ FC k) → w3.heap.size ≤ k ∧ k < w4.heap.size) ∧ (∀ k, (k = d ∨ FT2 k ∨ FC2 k) → w4.heap.size ≤ k ∧ k < w5.heap.size) ∧ w3.heap.size ≤ w4.heap.size ∧ w4.heap.size ≤ w5.heap.size) := ⟨fun k e => ⟨H4.out.2.1 k e, H4.out.1.lt k e⟩, fun k e => ⟨hn5 k e, hD5.lt k e⟩, H4.out.2.2.size, hK5.size⟩
      have H6 : Hid (CoreAt w5 d tb2 cb2 (List.replicate 16 0) 0 [] (fun _ => []) FT2 FC2) := hD5
      clear hD5 hn5 hK5 HN2 H4
      go_wp2_with (refine wpList_load_mid rfl 40 (.tmp 7) rfl X 0 rfl (ctx rg pc) _ HRa.out.1 Tryz.underlying40 rfl HRa.out.2 ?_; refine Hid.out ?_)
      unfold Hid
      go_wp2_with fail
      refine HS1.out.mono ?_
      rintro e w6 ⟨rfl, hC6, hK6⟩
      have HB6 : Hid (Bd w w6 X b g b2 g2 n rg pc xs (lay xs q [v])) := HB5.out.kept hK6 fun k e => by
        have h1 := (HF.out.1 k (.inl e)).1
        have h2 := HB3.out.2.1
        have h3 := HB3.out.2.2
        exact ⟨by omega, by omega, by omega, by omega, by omega, by omega, by omega⟩
      have HD6 : Hid (CoreAt w6 d tb2 cb2 (List.replicate 16 0) 0 [] (fun _ => []) FT2 FC2) := H6.out.kept hK6 fun k hk e => by
        have h1 := (HF.out.1 k (.inl e)).2
        have h2 := (HF.out.2.1 k hk).1
        omega
      have HRb : Hid (w6.rangeAt X 0 (ctx rg pc) ∧ (Tryz.prog.info? 40).map (·.size) = some (ctx rg pc).length) := ⟨fun j v hv => by rw [Nat.zero_add]; exact HB6.out.x.cell hv, HRa.out.2⟩
      have HS2 : Hid (Calls _ _ _ _ _) := set_any d tb2 cb2 (List.replicate 16 0) rg 0 pc [] (fun _ => []) FT2 FC2 w6 HD6.out HQ.out.2.2.2.2.1 HQ.out.2.2.2.2.2.1
      have H7 : Hid (CoreAt w6 c tb cb rg pc [] (fun _ => []) FT FC ∧ w5.heap.size ≤ w6.heap.size) := ⟨hC6, hK6.size⟩
      clear hC6 hK6 HS1 HRa HB5 H6
      go_wp2_with (refine wpList_load_mid rfl 40 (.tmp 7) rfl X 0 rfl (ctx rg pc) _ HRb.out.1 Tryz.underlying40 rfl HRb.out.2 ?_; refine Hid.out ?_)
      unfold Hid
      go_wp2_with fail
      refine HS2.out.mono ?_
      rintro e w7 ⟨rfl, hD7, hK7⟩
      have HB7 : Hid (Bd w w7 X b g b2 g2 n rg pc xs (lay xs q [v])) := HB6.out.kept hK7 fun k e => by
        have h1 := (HF.out.2.1 k (.inl e)).1
        have h2 := HB3.out.2.1
        have h3 := HB3.out.2.2
        have h4 := HF.out.2.2
        exact ⟨by omega, by omega, by omega, by omega, by omega, by omega, by omega⟩
      have HC7 : Hid (CoreAt w7 c tb cb rg pc [] (fun _ => []) FT FC) := H7.out.1.kept hK7 fun k hk e => by
        have h1 := (HF.out.2.1 k (.inl e)).1
        have h2 := (HF.out.1 k hk).2
        omega
      have HD7 : Hid (CoreAt w7 d tb2 cb2 rg pc [] (fun _ => []) FT2 FC2 ∧ w5.heap.size ≤ w7.heap.size) := ⟨hD7, by have h1 := hK7.size; have h2 := H7.out.2; omega⟩
      obtain ⟨R, eR⟩ : ∃ R, R = carryM n ⟨sp0 rg pc c b root 5, xs, [], fun _ => []⟩ := ⟨_, rfl⟩
      have hcm := carry_cm n ⟨sp0 rg pc c b root 5, xs, [], fun _ => []⟩
      rw [← eR] at hcm
      have H8 := step_any c tb cb b g n root 5 rg pc [] (fun _ => []) FT FC xs w7 HC7.out HB7.out.m (fun k hk => by
        have h1 := (HF.out.1 k hk).1
        have h2 := HB3.out.2.1
        have h3 := HB3.out.2.2
        exact ⟨by omega, by omega⟩) HB7.out.t (by have h2 := HB3.out.2.1; omega) HQ.out.2.2.2.1 (by omega) R eR
      clear hD7 hK7 HS2 HRb HB6 H7 HD6
      obtain ⟨rt, t7, xs7, ls7, st7⟩ := R
      dsimp only at H8 hcm
      obtain ⟨K, eK⟩ : ∃ K, K = t7.cost + (if rt = 0 then 0 else 10) := ⟨_, rfl⟩
      obtain ⟨cl, ecl⟩ : ∃ cl, cl = t7.call := ⟨_, rfl⟩
      obtain ⟨x, ex⟩ : ∃ x, x = t7.word := ⟨_, rfl⟩
      obtain ⟨rd, erd⟩ : ∃ rd, rd = t7.rd := ⟨_, rfl⟩
      obtain ⟨ad, ead⟩ : ∃ ad, ad = t7.addr := ⟨_, rfl⟩
      obtain ⟨vl, evl⟩ : ∃ vl, vl = t7.val := ⟨_, rfl⟩
      obtain ⟨rgz, erg⟩ : ∃ rgz, rgz = (if rt = 0 then t7.rg else rg) := ⟨_, rfl⟩
      obtain ⟨pcz, epc⟩ : ∃ pcz, pcz = (if rt = 0 then t7.pc else pc) := ⟨_, rfl⟩
      have HAb : Hid ((K = t7.cost + (if rt = 0 then 0 else 10)) ∧ cl = t7.call ∧ x = t7.word ∧ rd = t7.rd ∧ ad = t7.addr ∧ vl = t7.val ∧ rgz = (if rt = 0 then t7.rg else rg) ∧ pcz = (if rt = 0 then t7.pc else pc) ∧ t7.apc = pc) := ⟨eK, ecl, ex, erd, ead, evl, erg, epc, hcm.2.2⟩
      have HR : Hid ((rt, (⟨t7, xs7, ls7, st7⟩ : Mc)) = carryM n ⟨sp0 rg pc c b root 5, xs, [], fun _ => []⟩) := eR
      replace H8 : Hid (Calls Tryz.prog 26 #[ptr c, ptr b, .int .i64 root, .int .u32 5] w7 fun e w' => e = .returned (.tuple #[.agg #[.int .i64 K, .int .i64 rt, .int .i64 cl, .int .u32 pc, .int .u32 x, .bool rd, .int .u32 ad, .int .u32 vl], .int .i64 0]) ∧ Stepped w7 w' c tb cb b g n FT FC rgz pcz xs7 ls7 st7) := by
        refine H8.mono fun e w' ⟨q1, q2⟩ => ⟨?_, by rw [erg, epc]; exact q2⟩
        rw [q1, eK, ecl, ex, erd, ead, evl]
        have e0 : t7.apc = pc := hcm.2.2
        simp only [actCells, e0]
      have Had : Hid (ad < 4294967296) := by rw [ead]; exact carry_addr_lt _ _ _ _ _ _ _ _ _ _ _ eR
      clear eR hcm eK ecl ex erd ead evl erg epc
      go_wp2_with fail
      refine H8.out.mono ?_
      rintro e w8 ⟨rfl, hS8⟩
      obtain ⟨W8, hW8⟩ : ∃ W8, W8 = w8.alloc (.cells #[.int .i64 K, .int .i64 rt, .int .i64 cl, .int .u32 pc, .int .u32 x, .bool rd, .int .u32 ad, .int .u32 vl] 58) := ⟨_, rfl⟩
      have hka : Keeps (fun _ => False) w8 W8 := by rw [hW8]; exact (Keeps.refl _ w8).alloc _
      have hA8 : Blk W8 w8.heap.size [.int .i64 K, .int .i64 rt, .int .i64 cl, .int .u32 pc, .int .u32 x, .bool rd, .int .u32 ad, .int .u32 vl] 58 := by rw [hW8]; exact Blk.new w8 _ 58
      obtain ⟨A, eA⟩ : ∃ A, A = w8.heap.size := ⟨_, rfl⟩
      rw [← eA] at hA8
      have HB8 : Hid (Bd w W8 X b g b2 g2 n rg pc xs7 (lay xs q [v])) := (HB7.out.first hS8 fun k e => by
        have h2 := HB3.out.2.1
        have h3 := HB3.out.2.2
        have h4 : w3.heap.size ≤ k ∨ k = g := by
          rcases e with e | e | e | e
          · exact .inl (HF.out.1 k (.inl e)).1
          · exact .inl (HF.out.1 k (.inr (.inl e))).1
          · exact .inl (HF.out.1 k (.inr (.inr e))).1
          · exact .inr e
        exact ⟨by omega, by omega, by omega, by omega, by omega⟩).grown hka
      have HC8 : Hid (∃ FT' FC', CoreAt W8 c tb cb rgz pcz ls7 st7 FT' FC' ∧ ∀ k, (k = c ∨ FT' k ∨ FC' k) → k < w4.heap.size ∧ w3.heap.size ≤ k ∨ w7.heap.size ≤ k) := by
        obtain ⟨FT', FC', z1, z2, z3, z4⟩ := hS8.ex
        refine ⟨FT', FC', z1.kept hka fun _ _ h => h, fun k e => ?_⟩
        rcases e with e | e | e
        · have := HF.out.1 k (.inl e); omega
        · rcases z2 k e with e | e
          · have := HF.out.1 k (.inr (.inl e)); omega
          · exact .inr e
        · rcases z3 k e with e | e
          · have := HF.out.1 k (.inr (.inr e)); omega
          · exact .inr e
      have HD8 : Hid (CoreAt W8 d tb2 cb2 rg pc [] (fun _ => []) FT2 FC2) := (HD7.out.1.kept hS8.kp fun k hk e => by
        have h1 := (HF.out.2.1 k hk).1
        have h2 := HB3.out.2.1
        have h3 := HB3.out.2.2
        have h4 := HF.out.2.2
        rcases e with e | e | e | e
        · have := (HF.out.1 k (.inl e)).2; omega
        · omega
        · have := (HF.out.1 k (.inr (.inl e))).2; omega
        · have := (HF.out.1 k (.inr (.inr e))).2; omega).kept hka fun _ _ h => h
      have HA8 : Hid (Blk W8 A [.int .i64 K, .int .i64 rt, .int .i64 cl, .int .u32 pc, .int .u32 x, .bool rd, .int .u32 ad, .int .u32 vl] 58 ∧ w7.heap.size ≤ A) := ⟨hA8, by rw [eA]; exact hS8.kp.size⟩
      have HW8 : Hid (w8.alloc (.cells #[.int .i64 K, .int .i64 rt, .int .i64 cl, .int .u32 pc, .int .u32 x, .bool rd, .int .u32 ad, .int .u32 vl] 58) = W8) := hW8.symm
      have HeA : Hid (w8.heap.size = A) := eA.symm
      have x16 := HB8.out.x.cell (ctx_pc pc HQ.out.2.2.2.2.1)
      have HA1 := address_any b2 g2 n (lay xs q [v]) root pc 0 W8 HB8.out.q
      rw [(addr_beside HQ.out.2.2.2.2.2.2.1 HBs.out pc 0).1, (addr_beside HQ.out.2.2.2.2.2.2.1 HBs.out pc 0).2] at HA1
      obtain ⟨E1, eE1⟩ : ∃ E1, E1 = addrE n xs root pc 0 := ⟨_, rfl⟩
      obtain ⟨V1, eV1⟩ : ∃ V1, V1 = addrV n xs root pc 0 := ⟨_, rfl⟩
      rw [← eE1, ← eV1] at HA1
      have HE1 : Hid (E1 = addrE n xs root pc 0 ∧ V1 = addrV n xs root pc 0) := ⟨eE1, eV1⟩
      replace HA1 : Hid (Calls Tryz.prog 35 #[ptr b2, .int .i64 root, .int .i64 pc, .int .i64 0] W8 fun e w' => e = .returned (.tuple #[.int .i64 V1, .int .i64 E1]) ∧ Keeps (fun _ => False) W8 w') := HA1
      have hpb : (pc : Int) < 4294967296 := by have := HQ.out.2.2.2.2.2.1; omega
      clear hS8 hW8 hka hA8 eA eE1 eV1 H8 HB7 HC7
      go_upto_region 20 with fail
      rw [HW8.out, HeA.out]
      go_wp2_with fail
      refine HA1.out.mono ?_
      rintro e w9 ⟨rfl, hK9⟩
      have HB9 : Hid (Bd w w9 X b g b2 g2 n rg pc xs7 (lay xs q [v])) := HB8.out.grown hK9
      have HC9 : Hid (∃ FT' FC', CoreAt w9 c tb cb rgz pcz ls7 st7 FT' FC' ∧ ∀ k, (k = c ∨ FT' k ∨ FC' k) → k < w4.heap.size ∧ w3.heap.size ≤ k ∨ w7.heap.size ≤ k) := by
        obtain ⟨FT', FC', z1, z2⟩ := HC8.out
        exact ⟨FT', FC', z1.kept hK9 fun _ _ h => h, z2⟩
      have HD9 : Hid (CoreAt w9 d tb2 cb2 rg pc [] (fun _ => []) FT2 FC2) := HD8.out.kept hK9 fun _ _ h => h
      have HA9 : Hid (Blk w9 A [.int .i64 K, .int .i64 rt, .int .i64 cl, .int .u32 pc, .int .u32 x, .bool rd, .int .u32 ad, .int .u32 vl] 58 ∧ w7.heap.size ≤ A) := ⟨HA8.out.1.kept hK9 fun h => h, HA8.out.2⟩
      have HAw9 : Hid (Calls Tryz.prog 12 #[] w9 fun e w' => e = .returned (.bool true) ∧ Keeps (fun _ => False) w9 w') := awake_any w9 HB9.out.t
      clear hK9 HA1 x16 hpb HW8 HeA HB8 HC8 HD8 HA8
      go_upto_region 21 with fail
      go_cut [130] from 124 to 130 (fun t wx => t = .bool (decide (E1 = 0 ∧ V1 = q)) ∧ wx = w9)
      case first =>
        by_cases z1 : E1 = 0
        · have f1 : ((E1 : Int) == 0) = true := by simp; omega
          have f1' : (E1 == 0) = true := by simp; omega
          by_cases z2 : V1 = q
          · have f2 : ((V1 : Int) == (q : Int)) = true := by simp; omega
            have f2' : (V1 == q) = true := by simp; omega
            have HZ : Hid (decide (E1 = 0 ∧ V1 = q) = true) := decide_eq_true ⟨z1, z2⟩
            clear z1 z2
            go_wp2_with fail
            go_meet
            exact ⟨by rw [HZ.out], rfl⟩
          · have f2 : ((V1 : Int) == (q : Int)) = false := by simp; omega
            have f2' : (V1 == q) = false := by simp; omega
            have HZ : Hid (decide (E1 = 0 ∧ V1 = q) = false) := decide_eq_false fun h => z2 h.2
            clear z1 z2
            go_wp2_with fail
            go_meet
            exact ⟨by rw [HZ.out], rfl⟩
        · have f1 : ((E1 : Int) == 0) = false := by simp; omega
          have f1' : (E1 == 0) = false := by simp; omega
          have HZ : Hid (decide (E1 = 0 ∧ V1 = q) = false) := decide_eq_false fun h => z1 h.1
          clear z1
          go_wp2_with fail
          go_meet
          exact ⟨by rw [HZ.out], rfl⟩
      case rest =>
        obtain ⟨rfl, hw⟩ := hcut
        obtain rfl := hw.symm
        clear hw
        obtain ⟨hit, eh⟩ : ∃ hit, hit = decide (E1 = 0 ∧ V1 = q) := ⟨_, rfl⟩
        rw [← eh]
        have Hh : Hid (hit = decide (E1 = 0 ∧ V1 = q)) := eh
        clear eh
        cases hit with
        | true =>
          go_wp2_with fail
          refine HAw9.out.mono ?_
          rintro e w2 ⟨rfl, hK2⟩
          have HE : Hid (Keeps (fun _ => False) w w2) := HB9.out.k.trans hK2 fun _ _ h => h
          clear hK2 HAw9
          go_wp2
          go_ret
          exact ⟨rfl, HE.out⟩
        | false =>
          have HP1 : Hid (addrE n xs root pc 0 = 0 → addrV n xs root pc 0 ≠ q) := fun h1 h2 => by
            have := of_decide_eq_false Hh.out.symm
            exact this ⟨HE1.out.1.trans h1, HE1.out.2.trans h2⟩
          have k5 : w9.cell? ⟨A, 5, none⟩ = some (.bool rd) := HA9.out.1.cell rfl
          have k6 : w9.cell? ⟨A, 6, none⟩ = some (.int .u32 ad) := HA9.out.1.cell rfl
          clear Hh HE1
          cases rd with
          | false =>
            have HP2 : Hid (false = true → addrE n xs root ad 0 = 0 → addrV n xs root ad 0 ≠ q) := fun h => by cases h
            go_upto_region 27 with fail
            have HBz : Hid (Bd w w9 X b g b2 g2 n rg pc xs7 (lay xs q [v])) := HB9.out
            have HCz := HC9
            have HDz := HD9
            have HAz := HA9
            clear HB9 HC9 HD9 HA9 HAw9 k5 k6
            have hO := carry_beside n rg pc c b d b2 root 5 xs (fun _ => []) q v HQ.out.2.2.2.1 HQ.out.2.2.2.2.2.2.1 HBs.out HP1.out (by rw [← HR.out]; dsimp only; rw [← HAb.out.2.2.2.1, ← HAb.out.2.2.2.2.1]; exact HP2.out)
            rw [← HR.out] at hO
            obtain ⟨R2, eR2⟩ : ∃ R2, R2 = carryM n ⟨sp0 rg pc d b2 root 5, lay xs q [v], [], fun _ => []⟩ := ⟨_, rfl⟩
            rw [← eR2] at hO
            have H9 := step_any d tb2 cb2 b2 g2 n root 5 rg pc [] (fun _ => []) FT2 FC2 (lay xs q [v]) w9 HDz.out HBz.out.q (fun k hk => by
              have h1 := (HF.out.2.1 k hk).1
              have h2 := HB3.out.2.1
              have h3 := HB3.out.2.2
              have h4 := HF.out.2.2
              exact ⟨by omega, by omega⟩) HBz.out.t (by have h2 := HB3.out.2.1; omega) HQ.out.2.2.2.1 (by omega) R2 eR2
            obtain ⟨rt2, t2, ys7, ls2, st2⟩ := R2
            obtain ⟨o1, o2, o3⟩ := hO
            dsimp only at o1 o2 o3 H9
            subst o2
            rw [o1] at H9
            have Hws : Hid (Like n xs q v xs7 ys7) := o3
            replace H9 : Hid (Calls Tryz.prog 26 #[ptr d, ptr b2, .int .i64 root, .int .u32 5] w9 fun e w' => e = .returned (.tuple #[.agg #[.int .i64 K, .int .i64 rt, .int .i64 cl, .int .u32 pc, .int .u32 x, .bool false, .int .u32 ad, .int .u32 vl], .int .i64 0]) ∧ Stepped w9 w' d tb2 cb2 b2 g2 n FT2 FC2 rgz pcz ys7 ls2 st2) := by
              obtain ⟨y1, y2, y3, y4, y5, y6, y7, y8, y9⟩ := HAb.out
              refine H9.mono fun e w' ⟨q1, q2⟩ => ⟨?_, by rw [y7, y8]; exact q2⟩
              rw [q1, y1, y2, y3, y4, y5, y6]
              simp only [actCells, Sp.as, y9]
            clear o1 o3 eR2
            go_wp2_with fail
            refine H9.out.mono ?_
            rintro e w11 ⟨rfl, hS11⟩
            obtain ⟨W11, hW11⟩ : ∃ W11, W11 = w11.alloc (.cells #[.int .i64 K, .int .i64 rt, .int .i64 cl, .int .u32 pc, .int .u32 x, .bool false, .int .u32 ad, .int .u32 vl] 58) := ⟨_, rfl⟩
            have hkb : Keeps (fun _ => False) w11 W11 := by rw [hW11]; exact (Keeps.refl _ w11).alloc _
            have hB11 : Blk W11 w11.heap.size [.int .i64 K, .int .i64 rt, .int .i64 cl, .int .u32 pc, .int .u32 x, .bool false, .int .u32 ad, .int .u32 vl] 58 := by rw [hW11]; exact Blk.new w11 _ 58
            obtain ⟨B, eB⟩ : ∃ B, B = w11.heap.size := ⟨_, rfl⟩
            rw [← eB] at hB11
            have hfar : ∀ k, (k = d ∨ k = g2 ∨ FT2 k ∨ FC2 k) → k = g2 ∨ (w4.heap.size ≤ k ∧ k < w5.heap.size) := fun k e => by
              rcases e with e | e | e | e
              · exact .inr (HF.out.2.1 k (.inl e))
              · exact .inl e
              · exact .inr (HF.out.2.1 k (.inr (.inl e)))
              · exact .inr (HF.out.2.1 k (.inr (.inr e)))
            have HB11 : Hid (Bd w W11 X b g b2 g2 n rg pc xs7 ys7) := (HBz.out.second hS11 fun k e => by
              have h2 := HB3.out.2.1
              have h3 := HB3.out.2.2
              have h4 := HF.out.2.2
              have h5 := hfar k (e.elim .inl fun e => e.elim (fun e => .inr (.inr (.inl e))) fun e => e.elim (fun e => .inr (.inr (.inr e))) fun e => .inr (.inl e))
              exact ⟨by omega, by omega, by omega, by omega, by omega⟩).grown hkb
            have HC11 : Hid (∃ FT' FC', CoreAt W11 c tb cb rgz pcz ls7 st7 FT' FC') := by
              obtain ⟨FT', FC', z1, z2⟩ := HCz.out
              refine ⟨FT', FC', (z1.kept hS11.kp fun k hk e => ?_).kept hkb fun _ _ h => h⟩
              have h1 := z2 k hk
              have h2 := hfar k e
              have h3 := HB3.out.2.2
              have h4 := HF.out.2.2
              have h5 := HD7.out.2
              omega
            have HD11 : Hid (∃ FT' FC', CoreAt W11 d tb2 cb2 rgz pcz ls2 st2 FT' FC') := by
              obtain ⟨FT', FC', z1, _⟩ := hS11.ex
              exact ⟨FT', FC', z1.kept hkb fun _ _ h => h⟩
            have HA11 : Hid (Blk W11 A [.int .i64 K, .int .i64 rt, .int .i64 cl, .int .u32 pc, .int .u32 x, .bool false, .int .u32 ad, .int .u32 vl] 58 ∧ Blk W11 B [.int .i64 K, .int .i64 rt, .int .i64 cl, .int .u32 pc, .int .u32 x, .bool false, .int .u32 ad, .int .u32 vl] 58) := ⟨(HAz.out.1.kept hS11.kp fun e => by
              have h1 := HAz.out.2
              have h2 := hfar A e
              have h3 := HB3.out.2.2
              have h4 := HF.out.2.2
              have h5 := HD7.out.2
              omega).kept hkb fun h => h, hB11⟩
            have HW11 : Hid (w11.alloc (.cells #[.int .i64 K, .int .i64 rt, .int .i64 cl, .int .u32 pc, .int .u32 x, .bool false, .int .u32 ad, .int .u32 vl] 58) = W11) := hW11.symm
            have HeB : Hid (w11.heap.size = B) := eB.symm
            clear hS11 hW11 hkb hB11 eB hfar H9 HBz HCz HDz HAz
            go_upto_region 28 with fail
            rw [HW11.out, HeB.out]
            have HLa : Hid (W11.rangeAt A 0 [.int .i64 K, .int .i64 rt, .int .i64 cl, .int .u32 pc, .int .u32 x, .bool false, .int .u32 ad, .int .u32 vl] ∧ W11.rangeAt B 0 [.int .i64 K, .int .i64 rt, .int .i64 cl, .int .u32 pc, .int .u32 x, .bool false, .int .u32 ad, .int .u32 vl]) := ⟨fun j v hv => by rw [Nat.zero_add]; exact HA11.out.1.cell hv, fun j v hv => by rw [Nat.zero_add]; exact HA11.out.2.cell hv⟩
            have HCx : Hid (Calls Tryz.prog 19 #[ptr c] W11 fun e w' => e = .returned (.agg (ctx rgz pcz).toArray) ∧ Keeps (fun _ => False) W11 w') := by
              obtain ⟨FT', FC', z1⟩ := HC11.out
              exact context_any c tb cb rgz pcz ls7 st7 FT' FC' W11 z1
            have Hz : Hid (rgz.length = 16 ∧ pcz < 4294967296) := by
              obtain ⟨FT', FC', z1⟩ := HC11.out
              exact ⟨z1.len, z1.pcl⟩
            clear HW11 HeB
            go_wp2_with (refine wpList_load_mid rfl 58 (.tmp 22) rfl A 0 rfl _ _ HLa.out.1 Tryz.underlying58 rfl (by kernel_rfl) ?_; refine Hid.out ?_)
            unfold Hid
            go_wp2_with (refine wpList_load_mid rfl 58 (.tmp 25) rfl B 0 rfl _ _ HLa.out.2 Tryz.underlying58 rfl (by kernel_rfl) ?_; refine Hid.out ?_)
            unfold Hid
            go_wp2_with fail
            refine HCx.out.mono ?_
            rintro e w12 ⟨rfl, hK12⟩
            have HDx : Hid (Calls Tryz.prog 19 #[ptr d] w12 fun e w' => e = .returned (.agg (ctx rgz pcz).toArray) ∧ Keeps (fun _ => False) w12 w') := by
              obtain ⟨FT', FC', z1⟩ := HD11.out
              exact context_any d tb2 cb2 rgz pcz ls2 st2 FT' FC' w12 (z1.kept hK12 fun _ _ h => h)
            have HB12 : Hid (Bd w w12 X b g b2 g2 n rg pc xs7 ys7) := HB11.out.grown hK12
            clear hK12 HCx HLa HA11 HC11 HD11
            go_wp2_with fail
            refine HDx.out.mono ?_
            rintro e w13 ⟨rfl, hK13⟩
            have HB13 : Hid (Bd w w13 X b g b2 g2 n rg pc xs7 ys7) := HB12.out.grown hK13
            have HNE : Hid (_ = _) := neq_ctx rgz pcz Hz.out.1 Hz.out.2 w13
            obtain ⟨hu, hv, hsame, hat⟩ := Hws.out.get HQ.out.1 HQ.out.2.2.2.2.2.2.1
            have Hwo : Hid (xs7.length = L ∧ ys7.length = L ∧ (∀ i, i ≠ q → xs7.getD i 0 = ys7.getD i 0) ∧ (ys7.getD q 0 = v ∨ ys7.getD q 0 = xs7.getD q 0)) := ⟨by have h1 := HL.out; have h2 := HQ.out.1; omega, by have h1 := HL.out; have h2 := HQ.out.1; omega, hsame, hat⟩
            have H14 := words_any b g xs7 w13 HB13.out.m.mm
            rw [Hwo.out.1] at H14
            replace H14 : Hid (Calls Tryz.prog 33 #[ptr b] w13 fun e w' => e = .returned (.slice (some ⟨w13.heap.size, 0, none⟩) L L) ∧ Blk w' w13.heap.size (wvs xs7) 37 ∧ Keeps (fun _ => False) w13 w') := H14
            clear hK13 HDx HB12 HB11 hu hv hsame hat
            go_wp2_with (refine wpList_neq_on rfl 40 (.tmp 168) (.tmp 170) 40 rfl _ _ _ rfl rfl (by kernel_rfl) HNE.out ?_; refine Hid.out ?_)
            unfold Hid
            go_wp2_with fail
            refine H14.out.mono ?_
            rintro e w14 ⟨rfl, hP14, hK14⟩
            obtain ⟨G, eG⟩ : ∃ G, G = w13.heap.size := ⟨_, rfl⟩
            rw [← eG] at hP14 ⊢
            have H15 := words_any b2 g2 ys7 w14 (HB13.out.grown hK14).q.mm
            rw [Hwo.out.2.1] at H15
            replace H15 : Hid (Calls Tryz.prog 33 #[ptr b2] w14 fun e w' => e = .returned (.slice (some ⟨w14.heap.size, 0, none⟩) L L) ∧ Blk w' w14.heap.size (wvs ys7) 37 ∧ Keeps (fun _ => False) w14 w') := H15
            have HB14 : Hid (Bd w w14 X b g b2 g2 n rg pc xs7 ys7 ∧ Blk w14 G (wvs xs7) 37) := ⟨HB13.out.grown hK14, hP14⟩
            clear hP14 hK14 eG HNE H14 HB13
            go_wp2_with fail
            refine H15.out.mono ?_
            rintro e w15 ⟨rfl, hP15, hK15⟩
            obtain ⟨G2, eG2⟩ : ∃ G2, G2 = w14.heap.size := ⟨_, rfl⟩
            rw [← eG2] at hP15 ⊢
            have HB15 : Hid ((Is.Tabs w15 ∧ Keeps (fun _ => False) w w15) ∧ Blk w15 G (wvs xs7) 37 ∧ Blk w15 G2 (wvs ys7) 37) := ⟨⟨tabs_kept HB14.out.1.t hK15 fun _ h => h.elim, HB14.out.1.k.trans hK15 fun _ _ h => h⟩, HB14.out.2.kept hK15 fun h => h, hP15⟩
            clear hP15 hK15 eG2 H15 HB14
            go_wp2
            go_loopw [29] (fun i wr => ∃ j : Nat, j ≤ L ∧ i = .int .i64 j ∧ (Is.Tabs wr ∧ Keeps (fun _ => False) w wr) ∧ Blk wr G (wvs xs7) 37 ∧ Blk wr G2 (wvs ys7) 37)
              (fun i _ => L - (Ch.intOf i).toNat)
            case atStart => exact ⟨0, by omega, rfl, HB15.out⟩
            case round =>
              obtain ⟨j, hj, rfl, ⟨hTr, hKr⟩, hP, hQ'⟩ := hrel
              have HBr : Hid ((Is.Tabs wr ∧ Keeps (fun _ => False) w wr) ∧ Blk wr G (wvs xs7) 37 ∧ Blk wr G2 (wvs ys7) 37) := ⟨⟨hTr, hKr⟩, hP, hQ'⟩
              by_cases hlt : j < L
              · have hj1 : j < xs7.length := by have := Hwo.out.1; omega
                have hj2 : j < ys7.length := by have := Hwo.out.2.1; omega
                have c1 := hP.cell (wvs_get xs7 j hj1)
                have c2 := hQ'.cell (wvs_get ys7 j hj2)
                rw [← getD_toNat xs7 j hj1] at c1
                rw [← getD_toNat ys7 j hj2] at c2
                have hji : (j : Int) < L := by omega
                have hjb : (j : Int) ≤ 16384 := by omega
                have HD' : Hid (Bd w wr X b g b2 g2 n rg pc xs7 ys7 → True) := fun _ => trivial
                by_cases hjq : j = q
                · have f1 : ((j : Int) != (q : Int)) = false := by simp; omega
                  have f1' : (j != q) = false := by simp; omega
                  clear hTr hKr hP hQ' hj1 hj2 hjq
                  go_wp2_with fail
                  go_quiet (fail)
                  go_wp2
                  go_roundw
                  case rel => exact ⟨j + 1, by omega, by go_num, ⟨tabs_kept HBr.out.1.1 ((Keeps.refl (fun _ => False) wr).drewN _) fun _ h => h.elim, HBr.out.1.2.trans ((Keeps.refl (fun _ => False) wr).drewN _) fun _ _ h => h⟩, HBr.out.2.1.drewN _, HBr.out.2.2.drewN _⟩
                  case measure => simp [Ch.intOf]; omega
                · have f1 : ((j : Int) != (q : Int)) = true := by simp; omega
                  have f1' : (j != q) = true := by simp; omega
                  rw [← Hwo.out.2.2.1 j hjq] at c2
                  obtain ⟨v1, e1⟩ : ∃ v1, v1 = (xs7.getD j 0).toNat := ⟨_, rfl⟩
                  rw [← e1] at c1 c2
                  clear hTr hKr hP hQ' hj1 hj2 hjq e1
                  go_wp2_with fail
                  go_quiet (fail)
                  go_wp2
                  go_roundw
                  case rel => exact ⟨j + 1, by omega, by go_num, ⟨tabs_kept HBr.out.1.1 ((Keeps.refl (fun _ => False) wr).drewN _) fun _ h => h.elim, HBr.out.1.2.trans ((Keeps.refl (fun _ => False) wr).drewN _) fun _ _ h => h⟩, HBr.out.2.1.drewN _, HBr.out.2.2.drewN _⟩
                  case measure => simp [Ch.intOf]; omega
              · obtain rfl : j = L := by omega
                have hq7 : q < xs7.length := by have h1 := Hwo.out.1; have h2 := HQ.out.2.2.2.2.2.2.1; have h3 := HL.out; omega
                have hq8 : q < ys7.length := by have h1 := Hwo.out.2.1; have h2 := HQ.out.2.2.2.2.2.2.1; have h3 := HL.out; omega
                have c1 := hP.cell (wvs_get xs7 q hq7)
                have c2 := hQ'.cell (wvs_get ys7 q hq8)
                rw [← getD_toNat xs7 q hq7] at c1
                rw [← getD_toNat ys7 q hq8] at c2
                have hqj : (q : Int) < j := by have h2 := HQ.out.2.2.2.2.2.2.1; have h3 := HL.out; omega
                have HAw : Hid (Calls Tryz.prog 12 #[] wr.drew fun e w' => e = .returned (.bool true) ∧ Keeps (fun _ => False) wr.drew w') := awake_any wr.drew (tabs_kept hTr ((Keeps.refl (fun _ => False) wr).drewN 1) fun _ h => h.elim)
                obtain ⟨u1, e1⟩ : ∃ u1, u1 = (xs7.getD q 0).toNat := ⟨_, rfl⟩
                obtain ⟨u2, e2⟩ : ∃ u2, u2 = (ys7.getD q 0).toNat := ⟨_, rfl⟩
                obtain ⟨u3, e3⟩ : ∃ u3, u3 = v.toNat := ⟨_, rfl⟩
                have hcase : u2 = u3 ∨ (u2 ≠ u3 ∧ u2 = u1) := by
                  by_cases e : u2 = u3
                  · exact .inl e
                  · refine .inr ⟨e, ?_⟩
                    rcases Hwo.out.2.2.2 with h | h
                    · exact absurd (by rw [e2, e3, h]) e
                    · rw [e2, e1, h]
                rw [← e1] at c1
                rw [← e2] at c2
                rw [← e3]
                clear hTr hKr hP hQ' hq7 hq8 e1 e2 e3
                clear Hwo Hws HR HAb HP1 HP2 HBs HF HB3 HD7 HQ HL HX Had Hz HB15
                rcases hcase with e | ⟨e, e'⟩
                · have f1 : ((u2 : Int) == (u3 : Int)) = true := by simp; omega
                  have f1' : (u2 == u3) = true := by simp; omega
                  clear e
                  go_wp2_with fail
                  have hS : (fun w' : World => w'.cell? ⟨G2, q, none⟩ = some (.int .u32 (u2 : Int))) wr.drew := c2
                  refine wp_region_held_drew (S := (fun w' => w'.cell? ⟨G2, q, none⟩ = some (.int .u32 (u2 : Int)))) (by kernel_rfl) hS (fun hHeld => ?_)
                  simp only [List.size_toArray, List.length_cons, List.length_nil, Nat.reduceAdd, Array.replicate_succ, Array.replicate_zero, List.push_toArray, List.append_toArray, List.nil_append, List.cons_append]
                  refine wpAnyH_take (i := 0) (oi := { dst := some 197, op := Op.move (Operand.tmp 28), type := 22, pos := "law.go:408", after := #[], guard := none }) (v := .slice (some ⟨G2, 0, none⟩) j j) rfl (by kernel_rfl) (by kernel_rfl) (by kernel_rfl) (fun _ _ _ h => h) (Or.inl ⟨by kernel_rfl, by (intro w hSw; (try dsimp only at hSw); go_simp)⟩) hHeld ?_
                  simp only [Act.put, List.setIfInBounds_toArray, List.set_cons_zero, List.set_cons_succ]
                  refine wpAnyH_take (i := 1) (oi := { dst := some 198, op := Op.move (Operand.tmp 3), type := 3, pos := "law.go:408", after := #[], guard := none }) (v := .int .i64 q) rfl (by kernel_rfl) (by kernel_rfl) (by kernel_rfl) (fun _ _ _ h => h) (Or.inl ⟨by kernel_rfl, by (intro w hSw; (try dsimp only at hSw); go_simp)⟩) hHeld ?_
                  simp only [Act.put, List.setIfInBounds_toArray, List.set_cons_zero, List.set_cons_succ]
                  refine wpAnyH_take (i := 2) (oi := { dst := some 199, op := Op.indexAddr 22 (Operand.tmp 197) (Operand.tmp 198), type := 0, pos := "law.go:408", after := #[{ on := 0, ground := Ground.data }, { on := 1, ground := Ground.data }], guard := none }) (v := .pointer (some ⟨G2, q, none⟩)) rfl (by kernel_rfl) (by kernel_rfl) (by kernel_rfl) (fun _ _ _ h => h) (Or.inl ⟨by kernel_rfl, by (intro w hSw; (try dsimp only at hSw); go_simp)⟩) hHeld ?_
                  simp only [Act.put, List.setIfInBounds_toArray, List.set_cons_zero, List.set_cons_succ]
                  refine wpAnyH_take (i := 3) (oi := { dst := some 200, op := Op.load 37 (Operand.tmp 199), type := 37, pos := "law.go:408", after := #[{ on := 2, ground := Ground.data }], guard := none }) (v := .int .u32 u2) rfl (by kernel_rfl) (by kernel_rfl) (by kernel_rfl) (fun _ _ _ h => h) (Or.inl ⟨by kernel_rfl, by (intro w hSw; (try dsimp only at hSw); go_simp)⟩) hHeld ?_
                  simp only [Act.put, List.setIfInBounds_toArray, List.set_cons_zero, List.set_cons_succ]
                  refine wpAnyH_take (i := 4) (oi := { dst := some 201, op := Op.move (Operand.tmp 4), type := 37, pos := "law.go:408", after := #[], guard := none }) (v := .int .u32 u3) rfl (by kernel_rfl) (by kernel_rfl) (by kernel_rfl) (fun _ _ _ h => h) (Or.inl ⟨by kernel_rfl, by (intro w hSw; (try dsimp only at hSw); go_simp)⟩) hHeld ?_
                  simp only [Act.put, List.setIfInBounds_toArray, List.set_cons_zero, List.set_cons_succ]
                  refine wpAnyH_take (i := 5) (oi := { dst := some 202, op := Op.binOp BinOp.eql 37 (Operand.tmp 200) (Operand.tmp 201) 37, type := 4, pos := "law.go:408", after := #[{ on := 3, ground := Ground.data }, { on := 4, ground := Ground.data }], guard := none }) (v := .bool true) rfl (by kernel_rfl) (by kernel_rfl) (by kernel_rfl) (fun _ _ _ h => h) (Or.inl ⟨by kernel_rfl, by (intro w hSw; (try dsimp only at hSw); go_simp)⟩) hHeld ?_
                  simp only [Act.put, List.setIfInBounds_toArray, List.set_cons_zero, List.set_cons_succ]
                  refine wpAnyH_take (i := 6) (oi := { dst := some 203, op := Op.move (Operand.tmp 202), type := 4, pos := "law.go:408", after := #[{ on := 5, ground := Ground.data }], guard := none }) (v := .bool true) rfl (by kernel_rfl) (by kernel_rfl) (by kernel_rfl) (fun _ _ _ h => h) (Or.inl ⟨by kernel_rfl, by (intro w hSw; (try dsimp only at hSw); go_simp)⟩) hHeld ?_
                  simp only [Act.put, List.setIfInBounds_toArray, List.set_cons_zero, List.set_cons_succ]
                  refine wpAnyH_take (i := 7) (oi := { dst := some 204, op := Op.move (Operand.tmp 28), type := 22, pos := "law.go:408", after := #[{ on := 6, ground := Ground.guard }], guard := some (6, false) }) (v := undef) rfl (by kernel_rfl) (by kernel_rfl) (by kernel_rfl) (fun _ _ _ h => h) (Or.inr ⟨by kernel_rfl, rfl⟩) hHeld ?_
                  simp only [Act.put, List.setIfInBounds_toArray, List.set_cons_zero, List.set_cons_succ]
                  refine wpAnyH_take (i := 8) (oi := { dst := some 205, op := Op.move (Operand.tmp 3), type := 3, pos := "law.go:408", after := #[{ on := 6, ground := Ground.guard }], guard := some (6, false) }) (v := undef) rfl (by kernel_rfl) (by kernel_rfl) (by kernel_rfl) (fun _ _ _ h => h) (Or.inr ⟨by kernel_rfl, rfl⟩) hHeld ?_
                  simp only [Act.put, List.setIfInBounds_toArray, List.set_cons_zero, List.set_cons_succ]
                  refine wpAnyH_take (i := 9) (oi := { dst := some 206, op := Op.indexAddr 22 (Operand.tmp 204) (Operand.tmp 205), type := 0, pos := "law.go:408", after := #[{ on := 7, ground := Ground.data }, { on := 8, ground := Ground.data }, { on := 6, ground := Ground.guard }], guard := some (6, false) }) (v := undef) rfl (by kernel_rfl) (by kernel_rfl) (by kernel_rfl) (fun _ _ _ h => h) (Or.inr ⟨by kernel_rfl, rfl⟩) hHeld ?_
                  simp only [Act.put, List.setIfInBounds_toArray, List.set_cons_zero, List.set_cons_succ]
                  refine wpAnyH_take (i := 10) (oi := { dst := some 207, op := Op.load 37 (Operand.tmp 206), type := 37, pos := "law.go:408", after := #[{ on := 9, ground := Ground.data }, { on := 6, ground := Ground.guard }], guard := some (6, false) }) (v := undef) rfl (by kernel_rfl) (by kernel_rfl) (by kernel_rfl) (fun _ _ _ h => h) (Or.inr ⟨by kernel_rfl, rfl⟩) hHeld ?_
                  simp only [Act.put, List.setIfInBounds_toArray, List.set_cons_zero, List.set_cons_succ]
                  refine wpAnyH_take (i := 11) (oi := { dst := some 208, op := Op.move (Operand.tmp 27), type := 22, pos := "law.go:408", after := #[{ on := 6, ground := Ground.guard }], guard := some (6, false) }) (v := undef) rfl (by kernel_rfl) (by kernel_rfl) (by kernel_rfl) (fun _ _ _ h => h) (Or.inr ⟨by kernel_rfl, rfl⟩) hHeld ?_
                  simp only [Act.put, List.setIfInBounds_toArray, List.set_cons_zero, List.set_cons_succ]
                  refine wpAnyH_take (i := 12) (oi := { dst := some 209, op := Op.move (Operand.tmp 3), type := 3, pos := "law.go:408", after := #[{ on := 6, ground := Ground.guard }], guard := some (6, false) }) (v := undef) rfl (by kernel_rfl) (by kernel_rfl) (by kernel_rfl) (fun _ _ _ h => h) (Or.inr ⟨by kernel_rfl, rfl⟩) hHeld ?_
                  simp only [Act.put, List.setIfInBounds_toArray, List.set_cons_zero, List.set_cons_succ]
                  refine wpAnyH_take (i := 13) (oi := { dst := some 210, op := Op.indexAddr 22 (Operand.tmp 208) (Operand.tmp 209), type := 0, pos := "law.go:408", after := #[{ on := 11, ground := Ground.data }, { on := 12, ground := Ground.data }, { on := 6, ground := Ground.guard }], guard := some (6, false) }) (v := undef) rfl (by kernel_rfl) (by kernel_rfl) (by kernel_rfl) (fun _ _ _ h => h) (Or.inr ⟨by kernel_rfl, rfl⟩) hHeld ?_
                  simp only [Act.put, List.setIfInBounds_toArray, List.set_cons_zero, List.set_cons_succ]
                  refine wpAnyH_take (i := 14) (oi := { dst := some 211, op := Op.load 37 (Operand.tmp 210), type := 37, pos := "law.go:408", after := #[{ on := 13, ground := Ground.data }, { on := 6, ground := Ground.guard }], guard := some (6, false) }) (v := undef) rfl (by kernel_rfl) (by kernel_rfl) (by kernel_rfl) (fun _ _ _ h => h) (Or.inr ⟨by kernel_rfl, rfl⟩) hHeld ?_
                  simp only [Act.put, List.setIfInBounds_toArray, List.set_cons_zero, List.set_cons_succ]
                  refine wpAnyH_take (i := 15) (oi := { dst := some 212, op := Op.binOp BinOp.eql 37 (Operand.tmp 207) (Operand.tmp 211) 37, type := 4, pos := "law.go:408", after := #[{ on := 10, ground := Ground.data }, { on := 14, ground := Ground.data }, { on := 6, ground := Ground.guard }], guard := some (6, false) }) (v := undef) rfl (by kernel_rfl) (by kernel_rfl) (by kernel_rfl) (fun _ _ _ h => h) (Or.inr ⟨by kernel_rfl, rfl⟩) hHeld ?_
                  simp only [Act.put, List.setIfInBounds_toArray, List.set_cons_zero, List.set_cons_succ]
                  refine wpAnyH_take (i := 16) (oi := { dst := some 213, op := Op.pick (Operand.tmp 203) (Operand.const (Value.bool true)) (Operand.tmp 212), type := 4, pos := "law.go:408", after := #[{ on := 6, ground := Ground.data }, { on := 15, ground := Ground.data }], guard := none }) (v := .bool true) rfl (by kernel_rfl) (by kernel_rfl) (by kernel_rfl) (fun _ _ _ h => h) (Or.inl ⟨by kernel_rfl, by (intro w hSw; (try dsimp only at hSw); go_simp)⟩) hHeld ?_
                  simp only [Act.put, List.setIfInBounds_toArray, List.set_cons_zero, List.set_cons_succ]
                  refine wpAnyH_take (i := 17) (oi := { dst := some 214, op := Op.move (Operand.tmp 213), type := 4, pos := "law.go:408", after := #[{ on := 16, ground := Ground.data }, { on := 6, ground := Ground.chain }], guard := none }) (v := .bool true) rfl (by kernel_rfl) (by kernel_rfl) (by kernel_rfl) (fun _ _ _ h => h) (Or.inl ⟨by kernel_rfl, by (intro w hSw; (try dsimp only at hSw); go_simp)⟩) hHeld ?_
                  simp only [Act.put, List.setIfInBounds_toArray, List.set_cons_zero, List.set_cons_succ]
                  refine wpAnyH_ready (rs := [18]) (by kernel_rfl) (by simp) ?_
                  refine AllReadyH.cons (o := { dst := some 215, op := Op.call { callee := Callee.value (Operand.func 12), args := #[], argTypes := #[] }, type := 4, pos := "law.go:408", after := #[{ on := 17, ground := Ground.chain }, { on := 17, ground := Ground.guard }], guard := some (17, true) }) rfl (fun Kq hK => ?_) AllReadyH.nil
                  go_simp
                  refine HAw.out.mono ?_
                  rintro e w16 ⟨rfl, hK16⟩
                  have hS16 : (fun w' : World => w'.cell? ⟨G2, q, none⟩ = some (.int .u32 (u2 : Int))) w16 := Ch.cell_kept hS hK16 fun h => h
                  have HE : Hid (Keeps (fun _ => False) w w16) := HBr.out.1.2.trans (((Keeps.refl (fun _ => False) wr).drew).trans hK16 fun _ _ h => h) fun _ _ h => h
                  clear hK16
                  refine hK.out _ _ hS16 (fun hHeld => ?_)
                  simp only [Act.put, List.setIfInBounds_toArray, List.set_cons_zero, List.set_cons_succ]
                  refine wpAnyH_take (i := 19) (oi := { dst := some 216, op := Op.pick (Operand.tmp 214) (Operand.tmp 215) (Operand.const (Value.bool false)), type := 4, pos := "law.go:408", after := #[{ on := 17, ground := Ground.data }, { on := 18, ground := Ground.data }], guard := none }) (v := .bool true) rfl (by kernel_rfl) (by kernel_rfl) (by kernel_rfl) (fun _ _ _ h => h) (Or.inl ⟨by kernel_rfl, by (intro w hSw; (try dsimp only at hSw); go_simp)⟩) hHeld ?_
                  simp only [Act.put, List.setIfInBounds_toArray, List.set_cons_zero, List.set_cons_succ]
                  refine wpAnyH_take (i := 20) (oi := { dst := some 10, op := Op.assign (Operand.tmp 216), type := 4, pos := "law.go:408", after := #[{ on := 19, ground := Ground.data }, { on := 18, ground := Ground.chain }, { on := 0, ground := Ground.phase }, { on := 1, ground := Ground.phase }, { on := 2, ground := Ground.phase }, { on := 3, ground := Ground.phase }, { on := 4, ground := Ground.phase }, { on := 5, ground := Ground.phase }, { on := 6, ground := Ground.phase }, { on := 7, ground := Ground.phase }, { on := 8, ground := Ground.phase }, { on := 9, ground := Ground.phase }, { on := 10, ground := Ground.phase }, { on := 11, ground := Ground.phase }, { on := 12, ground := Ground.phase }, { on := 13, ground := Ground.phase }, { on := 14, ground := Ground.phase }, { on := 15, ground := Ground.phase }, { on := 16, ground := Ground.phase }, { on := 17, ground := Ground.phase }, { on := 18, ground := Ground.phase }, { on := 19, ground := Ground.phase }], guard := none }) (v := .bool true) rfl (by kernel_rfl) (by kernel_rfl) (by kernel_rfl) (fun _ _ _ h => h) (Or.inl ⟨by kernel_rfl, by (intro w hSw; (try dsimp only at hSw); go_simp)⟩) hHeld ?_
                  simp only [Act.put, List.setIfInBounds_toArray, List.set_cons_zero, List.set_cons_succ]
                  refine wpAnyH_done (by kernel_rfl) ?_ _
                  clear hHeld
                  go_wp2
                  go_ret
                  exact ⟨rfl, HE.out⟩
                · have f1 : ((u2 : Int) == (u3 : Int)) = false := by simp; omega
                  have f1' : (u2 == u3) = false := by simp; omega
                  subst e'
                  clear e
                  go_wp2_with fail
                  refine Ch.region_tail 18 (by kernel_rfl) ?_
                  simp only [List.take_succ_cons, List.take_zero, List.drop_succ_cons, List.drop_zero]
                  repeat still_step
                  refine wpStill_nil ?_
                  go_wp2_with fail
                  refine HAw.out.mono ?_
                  rintro e w16 ⟨rfl, hK16⟩
                  have HE : Hid (Keeps (fun _ => False) w w16) := HBr.out.1.2.trans (((Keeps.refl (fun _ => False) wr).drew).trans hK16 fun _ _ h => h) fun _ _ h => h
                  clear hK16 c1 c2
                  go_wp2
                  go_ret
                  exact ⟨rfl, HE.out⟩
          | true =>
            have HA2 := address_any b2 g2 n (lay xs q [v]) root ad 0 w9 HB9.out.q
            rw [(addr_beside HQ.out.2.2.2.2.2.2.1 HBs.out ad 0).1, (addr_beside HQ.out.2.2.2.2.2.2.1 HBs.out ad 0).2] at HA2
            obtain ⟨E2, eE2⟩ : ∃ E2, E2 = addrE n xs root ad 0 := ⟨_, rfl⟩
            obtain ⟨V2, eV2⟩ : ∃ V2, V2 = addrV n xs root ad 0 := ⟨_, rfl⟩
            rw [← eE2, ← eV2] at HA2
            have HE2 : Hid (E2 = addrE n xs root ad 0 ∧ V2 = addrV n xs root ad 0) := ⟨eE2, eV2⟩
            replace HA2 : Hid (Calls Tryz.prog 35 #[ptr b2, .int .i64 root, .int .i64 ad, .int .i64 0] w9 fun e w' => e = .returned (.tuple #[.int .i64 V2, .int .i64 E2]) ∧ Keeps (fun _ => False) w9 w') := HA2
            have hab : (ad : Int) < 4294967296 := by have := Had.out; omega
            clear eE2 eV2
            go_wp2_with fail
            refine HA2.out.mono ?_
            rintro e w10 ⟨rfl, hK10⟩
            have HBz : Hid (Bd w w10 X b g b2 g2 n rg pc xs7 (lay xs q [v])) := HB9.out.grown hK10
            have HCz : Hid (∃ FT' FC', CoreAt w10 c tb cb rgz pcz ls7 st7 FT' FC' ∧ ∀ k, (k = c ∨ FT' k ∨ FC' k) → k < w4.heap.size ∧ w3.heap.size ≤ k ∨ w7.heap.size ≤ k) := by
              obtain ⟨FT', FC', z1, z2⟩ := HC9.out
              exact ⟨FT', FC', z1.kept hK10 fun _ _ h => h, z2⟩
            have HDz : Hid (CoreAt w10 d tb2 cb2 rg pc [] (fun _ => []) FT2 FC2) := HD9.out.kept hK10 fun _ _ h => h
            have HAz : Hid (Blk w10 A [.int .i64 K, .int .i64 rt, .int .i64 cl, .int .u32 pc, .int .u32 x, .bool true, .int .u32 ad, .int .u32 vl] 58 ∧ w7.heap.size ≤ A) := ⟨HA9.out.1.kept hK10 fun h => h, HA9.out.2⟩
            have HAw : Hid (Calls Tryz.prog 12 #[] w10 fun e w' => e = .returned (.bool true) ∧ Keeps (fun _ => False) w10 w') := awake_any w10 HBz.out.t
            clear hK10 HA2 HB9 HC9 HD9 HA9 HAw9 k5 k6 hab
            go_upto_region 25 with fail
            go_cut [149] from 143 to 149 (fun t wx => t = .bool (decide (E2 = 0 ∧ V2 = q)) ∧ wx = w10)
            case first =>
              by_cases z1 : E2 = 0
              · have f1 : ((E2 : Int) == 0) = true := by simp; omega
                have f1' : (E2 == 0) = true := by simp; omega
                by_cases z2 : V2 = q
                · have f2 : ((V2 : Int) == (q : Int)) = true := by simp; omega
                  have f2' : (V2 == q) = true := by simp; omega
                  have HZ : Hid (decide (E2 = 0 ∧ V2 = q) = true) := decide_eq_true ⟨z1, z2⟩
                  clear z1 z2
                  go_wp2_with fail
                  go_meet
                  exact ⟨by rw [HZ.out], rfl⟩
                · have f2 : ((V2 : Int) == (q : Int)) = false := by simp; omega
                  have f2' : (V2 == q) = false := by simp; omega
                  have HZ : Hid (decide (E2 = 0 ∧ V2 = q) = false) := decide_eq_false fun h => z2 h.2
                  clear z1 z2
                  go_wp2_with fail
                  go_meet
                  exact ⟨by rw [HZ.out], rfl⟩
              · have f1 : ((E2 : Int) == 0) = false := by simp; omega
                have f1' : (E2 == 0) = false := by simp; omega
                have HZ : Hid (decide (E2 = 0 ∧ V2 = q) = false) := decide_eq_false fun h => z1 h.1
                clear z1
                go_wp2_with fail
                go_meet
                exact ⟨by rw [HZ.out], rfl⟩
            obtain ⟨rfl, hw⟩ := hcut
            obtain rfl := hw.symm
            clear hw
            obtain ⟨hit2, eh2⟩ : ∃ hit2, hit2 = decide (E2 = 0 ∧ V2 = q) := ⟨_, rfl⟩
            rw [← eh2]
            have Hh2 : Hid (hit2 = decide (E2 = 0 ∧ V2 = q)) := eh2
            clear eh2
            by_cases hb2 : hit2 = true
            · subst hb2
              go_wp2_with fail
              refine HAw.out.mono ?_
              rintro e w2 ⟨rfl, hK2⟩
              have HE : Hid (Keeps (fun _ => False) w w2) := HBz.out.k.trans hK2 fun _ _ h => h
              clear hK2 HAw
              go_wp2
              go_ret
              exact ⟨rfl, HE.out⟩
            obtain rfl : hit2 = false := by cases hit2 <;> simp_all
            clear hb2
            have HP2 : Hid (true = true → addrE n xs root ad 0 = 0 → addrV n xs root ad 0 ≠ q) := fun _ h1 h2 => by
              have := of_decide_eq_false Hh2.out.symm
              exact this ⟨HE2.out.1.trans h1, HE2.out.2.trans h2⟩
            clear Hh2 HE2 HAw
            go_upto_region 27 with fail
            have hO := carry_beside n rg pc c b d b2 root 5 xs (fun _ => []) q v HQ.out.2.2.2.1 HQ.out.2.2.2.2.2.2.1 HBs.out HP1.out (by rw [← HR.out]; dsimp only; rw [← HAb.out.2.2.2.1, ← HAb.out.2.2.2.2.1]; exact HP2.out)
            rw [← HR.out] at hO
            obtain ⟨R2, eR2⟩ : ∃ R2, R2 = carryM n ⟨sp0 rg pc d b2 root 5, lay xs q [v], [], fun _ => []⟩ := ⟨_, rfl⟩
            rw [← eR2] at hO
            have H9 := step_any d tb2 cb2 b2 g2 n root 5 rg pc [] (fun _ => []) FT2 FC2 (lay xs q [v]) w10 HDz.out HBz.out.q (fun k hk => by
              have h1 := (HF.out.2.1 k hk).1
              have h2 := HB3.out.2.1
              have h3 := HB3.out.2.2
              have h4 := HF.out.2.2
              exact ⟨by omega, by omega⟩) HBz.out.t (by have h2 := HB3.out.2.1; omega) HQ.out.2.2.2.1 (by omega) R2 eR2
            obtain ⟨rt2, t2, ys7, ls2, st2⟩ := R2
            obtain ⟨o1, o2, o3⟩ := hO
            dsimp only at o1 o2 o3 H9
            subst o2
            rw [o1] at H9
            have Hws : Hid (Like n xs q v xs7 ys7) := o3
            replace H9 : Hid (Calls Tryz.prog 26 #[ptr d, ptr b2, .int .i64 root, .int .u32 5] w10 fun e w' => e = .returned (.tuple #[.agg #[.int .i64 K, .int .i64 rt, .int .i64 cl, .int .u32 pc, .int .u32 x, .bool true, .int .u32 ad, .int .u32 vl], .int .i64 0]) ∧ Stepped w10 w' d tb2 cb2 b2 g2 n FT2 FC2 rgz pcz ys7 ls2 st2) := by
              obtain ⟨y1, y2, y3, y4, y5, y6, y7, y8, y9⟩ := HAb.out
              refine H9.mono fun e w' ⟨q1, q2⟩ => ⟨?_, by rw [y7, y8]; exact q2⟩
              rw [q1, y1, y2, y3, y4, y5, y6]
              simp only [actCells, Sp.as, y9]
            clear o1 o3 eR2
            go_wp2_with fail
            refine H9.out.mono ?_
            rintro e w11 ⟨rfl, hS11⟩
            obtain ⟨W11, hW11⟩ : ∃ W11, W11 = w11.alloc (.cells #[.int .i64 K, .int .i64 rt, .int .i64 cl, .int .u32 pc, .int .u32 x, .bool true, .int .u32 ad, .int .u32 vl] 58) := ⟨_, rfl⟩
            have hkb : Keeps (fun _ => False) w11 W11 := by rw [hW11]; exact (Keeps.refl _ w11).alloc _
            have hB11 : Blk W11 w11.heap.size [.int .i64 K, .int .i64 rt, .int .i64 cl, .int .u32 pc, .int .u32 x, .bool true, .int .u32 ad, .int .u32 vl] 58 := by rw [hW11]; exact Blk.new w11 _ 58
            obtain ⟨B, eB⟩ : ∃ B, B = w11.heap.size := ⟨_, rfl⟩
            rw [← eB] at hB11
            have hfar : ∀ k, (k = d ∨ k = g2 ∨ FT2 k ∨ FC2 k) → k = g2 ∨ (w4.heap.size ≤ k ∧ k < w5.heap.size) := fun k e => by
              rcases e with e | e | e | e
              · exact .inr (HF.out.2.1 k (.inl e))
              · exact .inl e
              · exact .inr (HF.out.2.1 k (.inr (.inl e)))
              · exact .inr (HF.out.2.1 k (.inr (.inr e)))
            have HB11 : Hid (Bd w W11 X b g b2 g2 n rg pc xs7 ys7) := (HBz.out.second hS11 fun k e => by
              have h2 := HB3.out.2.1
              have h3 := HB3.out.2.2
              have h4 := HF.out.2.2
              have h5 := hfar k (e.elim .inl fun e => e.elim (fun e => .inr (.inr (.inl e))) fun e => e.elim (fun e => .inr (.inr (.inr e))) fun e => .inr (.inl e))
              exact ⟨by omega, by omega, by omega, by omega, by omega⟩).grown hkb
            have HC11 : Hid (∃ FT' FC', CoreAt W11 c tb cb rgz pcz ls7 st7 FT' FC') := by
              obtain ⟨FT', FC', z1, z2⟩ := HCz.out
              refine ⟨FT', FC', (z1.kept hS11.kp fun k hk e => ?_).kept hkb fun _ _ h => h⟩
              have h1 := z2 k hk
              have h2 := hfar k e
              have h3 := HB3.out.2.2
              have h4 := HF.out.2.2
              have h5 := HD7.out.2
              omega
            have HD11 : Hid (∃ FT' FC', CoreAt W11 d tb2 cb2 rgz pcz ls2 st2 FT' FC') := by
              obtain ⟨FT', FC', z1, _⟩ := hS11.ex
              exact ⟨FT', FC', z1.kept hkb fun _ _ h => h⟩
            have HA11 : Hid (Blk W11 A [.int .i64 K, .int .i64 rt, .int .i64 cl, .int .u32 pc, .int .u32 x, .bool true, .int .u32 ad, .int .u32 vl] 58 ∧ Blk W11 B [.int .i64 K, .int .i64 rt, .int .i64 cl, .int .u32 pc, .int .u32 x, .bool true, .int .u32 ad, .int .u32 vl] 58) := ⟨(HAz.out.1.kept hS11.kp fun e => by
              have h1 := HAz.out.2
              have h2 := hfar A e
              have h3 := HB3.out.2.2
              have h4 := HF.out.2.2
              have h5 := HD7.out.2
              omega).kept hkb fun h => h, hB11⟩
            have HW11 : Hid (w11.alloc (.cells #[.int .i64 K, .int .i64 rt, .int .i64 cl, .int .u32 pc, .int .u32 x, .bool true, .int .u32 ad, .int .u32 vl] 58) = W11) := hW11.symm
            have HeB : Hid (w11.heap.size = B) := eB.symm
            clear hS11 hW11 hkb hB11 eB hfar H9 HBz HCz HDz HAz
            go_upto_region 28 with fail
            rw [HW11.out, HeB.out]
            have HLa : Hid (W11.rangeAt A 0 [.int .i64 K, .int .i64 rt, .int .i64 cl, .int .u32 pc, .int .u32 x, .bool true, .int .u32 ad, .int .u32 vl] ∧ W11.rangeAt B 0 [.int .i64 K, .int .i64 rt, .int .i64 cl, .int .u32 pc, .int .u32 x, .bool true, .int .u32 ad, .int .u32 vl]) := ⟨fun j v hv => by rw [Nat.zero_add]; exact HA11.out.1.cell hv, fun j v hv => by rw [Nat.zero_add]; exact HA11.out.2.cell hv⟩
            have HCx : Hid (Calls Tryz.prog 19 #[ptr c] W11 fun e w' => e = .returned (.agg (ctx rgz pcz).toArray) ∧ Keeps (fun _ => False) W11 w') := by
              obtain ⟨FT', FC', z1⟩ := HC11.out
              exact context_any c tb cb rgz pcz ls7 st7 FT' FC' W11 z1
            have Hz : Hid (rgz.length = 16 ∧ pcz < 4294967296) := by
              obtain ⟨FT', FC', z1⟩ := HC11.out
              exact ⟨z1.len, z1.pcl⟩
            clear HW11 HeB
            go_wp2_with (refine wpList_load_mid rfl 58 (.tmp 22) rfl A 0 rfl _ _ HLa.out.1 Tryz.underlying58 rfl (by kernel_rfl) ?_; refine Hid.out ?_)
            unfold Hid
            go_wp2_with (refine wpList_load_mid rfl 58 (.tmp 25) rfl B 0 rfl _ _ HLa.out.2 Tryz.underlying58 rfl (by kernel_rfl) ?_; refine Hid.out ?_)
            unfold Hid
            go_wp2_with fail
            refine HCx.out.mono ?_
            rintro e w12 ⟨rfl, hK12⟩
            have HDx : Hid (Calls Tryz.prog 19 #[ptr d] w12 fun e w' => e = .returned (.agg (ctx rgz pcz).toArray) ∧ Keeps (fun _ => False) w12 w') := by
              obtain ⟨FT', FC', z1⟩ := HD11.out
              exact context_any d tb2 cb2 rgz pcz ls2 st2 FT' FC' w12 (z1.kept hK12 fun _ _ h => h)
            have HB12 : Hid (Bd w w12 X b g b2 g2 n rg pc xs7 ys7) := HB11.out.grown hK12
            clear hK12 HCx HLa HA11 HC11 HD11
            go_wp2_with fail
            refine HDx.out.mono ?_
            rintro e w13 ⟨rfl, hK13⟩
            have HB13 : Hid (Bd w w13 X b g b2 g2 n rg pc xs7 ys7) := HB12.out.grown hK13
            have HNE : Hid (_ = _) := neq_ctx rgz pcz Hz.out.1 Hz.out.2 w13
            obtain ⟨hu, hv, hsame, hat⟩ := Hws.out.get HQ.out.1 HQ.out.2.2.2.2.2.2.1
            have Hwo : Hid (xs7.length = L ∧ ys7.length = L ∧ (∀ i, i ≠ q → xs7.getD i 0 = ys7.getD i 0) ∧ (ys7.getD q 0 = v ∨ ys7.getD q 0 = xs7.getD q 0)) := ⟨by have h1 := HL.out; have h2 := HQ.out.1; omega, by have h1 := HL.out; have h2 := HQ.out.1; omega, hsame, hat⟩
            have H14 := words_any b g xs7 w13 HB13.out.m.mm
            rw [Hwo.out.1] at H14
            replace H14 : Hid (Calls Tryz.prog 33 #[ptr b] w13 fun e w' => e = .returned (.slice (some ⟨w13.heap.size, 0, none⟩) L L) ∧ Blk w' w13.heap.size (wvs xs7) 37 ∧ Keeps (fun _ => False) w13 w') := H14
            clear hK13 HDx HB12 HB11 hu hv hsame hat
            go_wp2_with (refine wpList_neq_on rfl 40 (.tmp 168) (.tmp 170) 40 rfl _ _ _ rfl rfl (by kernel_rfl) HNE.out ?_; refine Hid.out ?_)
            unfold Hid
            go_wp2_with fail
            refine H14.out.mono ?_
            rintro e w14 ⟨rfl, hP14, hK14⟩
            obtain ⟨G, eG⟩ : ∃ G, G = w13.heap.size := ⟨_, rfl⟩
            rw [← eG] at hP14 ⊢
            have H15 := words_any b2 g2 ys7 w14 (HB13.out.grown hK14).q.mm
            rw [Hwo.out.2.1] at H15
            replace H15 : Hid (Calls Tryz.prog 33 #[ptr b2] w14 fun e w' => e = .returned (.slice (some ⟨w14.heap.size, 0, none⟩) L L) ∧ Blk w' w14.heap.size (wvs ys7) 37 ∧ Keeps (fun _ => False) w14 w') := H15
            have HB14 : Hid (Bd w w14 X b g b2 g2 n rg pc xs7 ys7 ∧ Blk w14 G (wvs xs7) 37) := ⟨HB13.out.grown hK14, hP14⟩
            clear hP14 hK14 eG HNE H14 HB13
            go_wp2_with fail
            refine H15.out.mono ?_
            rintro e w15 ⟨rfl, hP15, hK15⟩
            obtain ⟨G2, eG2⟩ : ∃ G2, G2 = w14.heap.size := ⟨_, rfl⟩
            rw [← eG2] at hP15 ⊢
            have HB15 : Hid ((Is.Tabs w15 ∧ Keeps (fun _ => False) w w15) ∧ Blk w15 G (wvs xs7) 37 ∧ Blk w15 G2 (wvs ys7) 37) := ⟨⟨tabs_kept HB14.out.1.t hK15 fun _ h => h.elim, HB14.out.1.k.trans hK15 fun _ _ h => h⟩, HB14.out.2.kept hK15 fun h => h, hP15⟩
            clear hP15 hK15 eG2 H15 HB14
            go_wp2
            go_loopw [29] (fun i wr => ∃ j : Nat, j ≤ L ∧ i = .int .i64 j ∧ (Is.Tabs wr ∧ Keeps (fun _ => False) w wr) ∧ Blk wr G (wvs xs7) 37 ∧ Blk wr G2 (wvs ys7) 37)
              (fun i _ => L - (Ch.intOf i).toNat)
            case atStart => exact ⟨0, by omega, rfl, HB15.out⟩
            case round =>
              obtain ⟨j, hj, rfl, ⟨hTr, hKr⟩, hP, hQ'⟩ := hrel
              have HBr : Hid ((Is.Tabs wr ∧ Keeps (fun _ => False) w wr) ∧ Blk wr G (wvs xs7) 37 ∧ Blk wr G2 (wvs ys7) 37) := ⟨⟨hTr, hKr⟩, hP, hQ'⟩
              by_cases hlt : j < L
              · have hj1 : j < xs7.length := by have := Hwo.out.1; omega
                have hj2 : j < ys7.length := by have := Hwo.out.2.1; omega
                have c1 := hP.cell (wvs_get xs7 j hj1)
                have c2 := hQ'.cell (wvs_get ys7 j hj2)
                rw [← getD_toNat xs7 j hj1] at c1
                rw [← getD_toNat ys7 j hj2] at c2
                have hji : (j : Int) < L := by omega
                have hjb : (j : Int) ≤ 16384 := by omega
                have HD' : Hid (Bd w wr X b g b2 g2 n rg pc xs7 ys7 → True) := fun _ => trivial
                by_cases hjq : j = q
                · have f1 : ((j : Int) != (q : Int)) = false := by simp; omega
                  have f1' : (j != q) = false := by simp; omega
                  clear hTr hKr hP hQ' hj1 hj2 hjq
                  go_wp2_with fail
                  go_quiet (fail)
                  go_wp2
                  go_roundw
                  case rel => exact ⟨j + 1, by omega, by go_num, ⟨tabs_kept HBr.out.1.1 ((Keeps.refl (fun _ => False) wr).drewN _) fun _ h => h.elim, HBr.out.1.2.trans ((Keeps.refl (fun _ => False) wr).drewN _) fun _ _ h => h⟩, HBr.out.2.1.drewN _, HBr.out.2.2.drewN _⟩
                  case measure => simp [Ch.intOf]; omega
                · have f1 : ((j : Int) != (q : Int)) = true := by simp; omega
                  have f1' : (j != q) = true := by simp; omega
                  rw [← Hwo.out.2.2.1 j hjq] at c2
                  obtain ⟨v1, e1⟩ : ∃ v1, v1 = (xs7.getD j 0).toNat := ⟨_, rfl⟩
                  rw [← e1] at c1 c2
                  clear hTr hKr hP hQ' hj1 hj2 hjq e1
                  go_wp2_with fail
                  go_quiet (fail)
                  go_wp2
                  go_roundw
                  case rel => exact ⟨j + 1, by omega, by go_num, ⟨tabs_kept HBr.out.1.1 ((Keeps.refl (fun _ => False) wr).drewN _) fun _ h => h.elim, HBr.out.1.2.trans ((Keeps.refl (fun _ => False) wr).drewN _) fun _ _ h => h⟩, HBr.out.2.1.drewN _, HBr.out.2.2.drewN _⟩
                  case measure => simp [Ch.intOf]; omega
              · obtain rfl : j = L := by omega
                have hq7 : q < xs7.length := by have h1 := Hwo.out.1; have h2 := HQ.out.2.2.2.2.2.2.1; have h3 := HL.out; omega
                have hq8 : q < ys7.length := by have h1 := Hwo.out.2.1; have h2 := HQ.out.2.2.2.2.2.2.1; have h3 := HL.out; omega
                have c1 := hP.cell (wvs_get xs7 q hq7)
                have c2 := hQ'.cell (wvs_get ys7 q hq8)
                rw [← getD_toNat xs7 q hq7] at c1
                rw [← getD_toNat ys7 q hq8] at c2
                have hqj : (q : Int) < j := by have h2 := HQ.out.2.2.2.2.2.2.1; have h3 := HL.out; omega
                have HAw : Hid (Calls Tryz.prog 12 #[] wr.drew fun e w' => e = .returned (.bool true) ∧ Keeps (fun _ => False) wr.drew w') := awake_any wr.drew (tabs_kept hTr ((Keeps.refl (fun _ => False) wr).drewN 1) fun _ h => h.elim)
                obtain ⟨u1, e1⟩ : ∃ u1, u1 = (xs7.getD q 0).toNat := ⟨_, rfl⟩
                obtain ⟨u2, e2⟩ : ∃ u2, u2 = (ys7.getD q 0).toNat := ⟨_, rfl⟩
                obtain ⟨u3, e3⟩ : ∃ u3, u3 = v.toNat := ⟨_, rfl⟩
                have hcase : u2 = u3 ∨ (u2 ≠ u3 ∧ u2 = u1) := by
                  by_cases e : u2 = u3
                  · exact .inl e
                  · refine .inr ⟨e, ?_⟩
                    rcases Hwo.out.2.2.2 with h | h
                    · exact absurd (by rw [e2, e3, h]) e
                    · rw [e2, e1, h]
                rw [← e1] at c1
                rw [← e2] at c2
                rw [← e3]
                clear hTr hKr hP hQ' hq7 hq8 e1 e2 e3
                clear Hwo Hws HR HAb HP1 HP2 HBs HF HB3 HD7 HQ HL HX Had Hz HB15
                rcases hcase with e | ⟨e, e'⟩
                · have f1 : ((u2 : Int) == (u3 : Int)) = true := by simp; omega
                  have f1' : (u2 == u3) = true := by simp; omega
                  clear e
                  go_wp2_with fail
                  have hS : (fun w' : World => w'.cell? ⟨G2, q, none⟩ = some (.int .u32 (u2 : Int))) wr.drew := c2
                  refine wp_region_held_drew (S := (fun w' => w'.cell? ⟨G2, q, none⟩ = some (.int .u32 (u2 : Int)))) (by kernel_rfl) hS (fun hHeld => ?_)
                  simp only [List.size_toArray, List.length_cons, List.length_nil, Nat.reduceAdd, Array.replicate_succ, Array.replicate_zero, List.push_toArray, List.append_toArray, List.nil_append, List.cons_append]
                  refine wpAnyH_take (i := 0) (oi := { dst := some 197, op := Op.move (Operand.tmp 28), type := 22, pos := "law.go:408", after := #[], guard := none }) (v := .slice (some ⟨G2, 0, none⟩) j j) rfl (by kernel_rfl) (by kernel_rfl) (by kernel_rfl) (fun _ _ _ h => h) (Or.inl ⟨by kernel_rfl, by (intro w hSw; (try dsimp only at hSw); go_simp)⟩) hHeld ?_
                  simp only [Act.put, List.setIfInBounds_toArray, List.set_cons_zero, List.set_cons_succ]
                  refine wpAnyH_take (i := 1) (oi := { dst := some 198, op := Op.move (Operand.tmp 3), type := 3, pos := "law.go:408", after := #[], guard := none }) (v := .int .i64 q) rfl (by kernel_rfl) (by kernel_rfl) (by kernel_rfl) (fun _ _ _ h => h) (Or.inl ⟨by kernel_rfl, by (intro w hSw; (try dsimp only at hSw); go_simp)⟩) hHeld ?_
                  simp only [Act.put, List.setIfInBounds_toArray, List.set_cons_zero, List.set_cons_succ]
                  refine wpAnyH_take (i := 2) (oi := { dst := some 199, op := Op.indexAddr 22 (Operand.tmp 197) (Operand.tmp 198), type := 0, pos := "law.go:408", after := #[{ on := 0, ground := Ground.data }, { on := 1, ground := Ground.data }], guard := none }) (v := .pointer (some ⟨G2, q, none⟩)) rfl (by kernel_rfl) (by kernel_rfl) (by kernel_rfl) (fun _ _ _ h => h) (Or.inl ⟨by kernel_rfl, by (intro w hSw; (try dsimp only at hSw); go_simp)⟩) hHeld ?_
                  simp only [Act.put, List.setIfInBounds_toArray, List.set_cons_zero, List.set_cons_succ]
                  refine wpAnyH_take (i := 3) (oi := { dst := some 200, op := Op.load 37 (Operand.tmp 199), type := 37, pos := "law.go:408", after := #[{ on := 2, ground := Ground.data }], guard := none }) (v := .int .u32 u2) rfl (by kernel_rfl) (by kernel_rfl) (by kernel_rfl) (fun _ _ _ h => h) (Or.inl ⟨by kernel_rfl, by (intro w hSw; (try dsimp only at hSw); go_simp)⟩) hHeld ?_
                  simp only [Act.put, List.setIfInBounds_toArray, List.set_cons_zero, List.set_cons_succ]
                  refine wpAnyH_take (i := 4) (oi := { dst := some 201, op := Op.move (Operand.tmp 4), type := 37, pos := "law.go:408", after := #[], guard := none }) (v := .int .u32 u3) rfl (by kernel_rfl) (by kernel_rfl) (by kernel_rfl) (fun _ _ _ h => h) (Or.inl ⟨by kernel_rfl, by (intro w hSw; (try dsimp only at hSw); go_simp)⟩) hHeld ?_
                  simp only [Act.put, List.setIfInBounds_toArray, List.set_cons_zero, List.set_cons_succ]
                  refine wpAnyH_take (i := 5) (oi := { dst := some 202, op := Op.binOp BinOp.eql 37 (Operand.tmp 200) (Operand.tmp 201) 37, type := 4, pos := "law.go:408", after := #[{ on := 3, ground := Ground.data }, { on := 4, ground := Ground.data }], guard := none }) (v := .bool true) rfl (by kernel_rfl) (by kernel_rfl) (by kernel_rfl) (fun _ _ _ h => h) (Or.inl ⟨by kernel_rfl, by (intro w hSw; (try dsimp only at hSw); go_simp)⟩) hHeld ?_
                  simp only [Act.put, List.setIfInBounds_toArray, List.set_cons_zero, List.set_cons_succ]
                  refine wpAnyH_take (i := 6) (oi := { dst := some 203, op := Op.move (Operand.tmp 202), type := 4, pos := "law.go:408", after := #[{ on := 5, ground := Ground.data }], guard := none }) (v := .bool true) rfl (by kernel_rfl) (by kernel_rfl) (by kernel_rfl) (fun _ _ _ h => h) (Or.inl ⟨by kernel_rfl, by (intro w hSw; (try dsimp only at hSw); go_simp)⟩) hHeld ?_
                  simp only [Act.put, List.setIfInBounds_toArray, List.set_cons_zero, List.set_cons_succ]
                  refine wpAnyH_take (i := 7) (oi := { dst := some 204, op := Op.move (Operand.tmp 28), type := 22, pos := "law.go:408", after := #[{ on := 6, ground := Ground.guard }], guard := some (6, false) }) (v := undef) rfl (by kernel_rfl) (by kernel_rfl) (by kernel_rfl) (fun _ _ _ h => h) (Or.inr ⟨by kernel_rfl, rfl⟩) hHeld ?_
                  simp only [Act.put, List.setIfInBounds_toArray, List.set_cons_zero, List.set_cons_succ]
                  refine wpAnyH_take (i := 8) (oi := { dst := some 205, op := Op.move (Operand.tmp 3), type := 3, pos := "law.go:408", after := #[{ on := 6, ground := Ground.guard }], guard := some (6, false) }) (v := undef) rfl (by kernel_rfl) (by kernel_rfl) (by kernel_rfl) (fun _ _ _ h => h) (Or.inr ⟨by kernel_rfl, rfl⟩) hHeld ?_
                  simp only [Act.put, List.setIfInBounds_toArray, List.set_cons_zero, List.set_cons_succ]
                  refine wpAnyH_take (i := 9) (oi := { dst := some 206, op := Op.indexAddr 22 (Operand.tmp 204) (Operand.tmp 205), type := 0, pos := "law.go:408", after := #[{ on := 7, ground := Ground.data }, { on := 8, ground := Ground.data }, { on := 6, ground := Ground.guard }], guard := some (6, false) }) (v := undef) rfl (by kernel_rfl) (by kernel_rfl) (by kernel_rfl) (fun _ _ _ h => h) (Or.inr ⟨by kernel_rfl, rfl⟩) hHeld ?_
                  simp only [Act.put, List.setIfInBounds_toArray, List.set_cons_zero, List.set_cons_succ]
                  refine wpAnyH_take (i := 10) (oi := { dst := some 207, op := Op.load 37 (Operand.tmp 206), type := 37, pos := "law.go:408", after := #[{ on := 9, ground := Ground.data }, { on := 6, ground := Ground.guard }], guard := some (6, false) }) (v := undef) rfl (by kernel_rfl) (by kernel_rfl) (by kernel_rfl) (fun _ _ _ h => h) (Or.inr ⟨by kernel_rfl, rfl⟩) hHeld ?_
                  simp only [Act.put, List.setIfInBounds_toArray, List.set_cons_zero, List.set_cons_succ]
                  refine wpAnyH_take (i := 11) (oi := { dst := some 208, op := Op.move (Operand.tmp 27), type := 22, pos := "law.go:408", after := #[{ on := 6, ground := Ground.guard }], guard := some (6, false) }) (v := undef) rfl (by kernel_rfl) (by kernel_rfl) (by kernel_rfl) (fun _ _ _ h => h) (Or.inr ⟨by kernel_rfl, rfl⟩) hHeld ?_
                  simp only [Act.put, List.setIfInBounds_toArray, List.set_cons_zero, List.set_cons_succ]
                  refine wpAnyH_take (i := 12) (oi := { dst := some 209, op := Op.move (Operand.tmp 3), type := 3, pos := "law.go:408", after := #[{ on := 6, ground := Ground.guard }], guard := some (6, false) }) (v := undef) rfl (by kernel_rfl) (by kernel_rfl) (by kernel_rfl) (fun _ _ _ h => h) (Or.inr ⟨by kernel_rfl, rfl⟩) hHeld ?_
                  simp only [Act.put, List.setIfInBounds_toArray, List.set_cons_zero, List.set_cons_succ]
                  refine wpAnyH_take (i := 13) (oi := { dst := some 210, op := Op.indexAddr 22 (Operand.tmp 208) (Operand.tmp 209), type := 0, pos := "law.go:408", after := #[{ on := 11, ground := Ground.data }, { on := 12, ground := Ground.data }, { on := 6, ground := Ground.guard }], guard := some (6, false) }) (v := undef) rfl (by kernel_rfl) (by kernel_rfl) (by kernel_rfl) (fun _ _ _ h => h) (Or.inr ⟨by kernel_rfl, rfl⟩) hHeld ?_
                  simp only [Act.put, List.setIfInBounds_toArray, List.set_cons_zero, List.set_cons_succ]
                  refine wpAnyH_take (i := 14) (oi := { dst := some 211, op := Op.load 37 (Operand.tmp 210), type := 37, pos := "law.go:408", after := #[{ on := 13, ground := Ground.data }, { on := 6, ground := Ground.guard }], guard := some (6, false) }) (v := undef) rfl (by kernel_rfl) (by kernel_rfl) (by kernel_rfl) (fun _ _ _ h => h) (Or.inr ⟨by kernel_rfl, rfl⟩) hHeld ?_
                  simp only [Act.put, List.setIfInBounds_toArray, List.set_cons_zero, List.set_cons_succ]
                  refine wpAnyH_take (i := 15) (oi := { dst := some 212, op := Op.binOp BinOp.eql 37 (Operand.tmp 207) (Operand.tmp 211) 37, type := 4, pos := "law.go:408", after := #[{ on := 10, ground := Ground.data }, { on := 14, ground := Ground.data }, { on := 6, ground := Ground.guard }], guard := some (6, false) }) (v := undef) rfl (by kernel_rfl) (by kernel_rfl) (by kernel_rfl) (fun _ _ _ h => h) (Or.inr ⟨by kernel_rfl, rfl⟩) hHeld ?_
                  simp only [Act.put, List.setIfInBounds_toArray, List.set_cons_zero, List.set_cons_succ]
                  refine wpAnyH_take (i := 16) (oi := { dst := some 213, op := Op.pick (Operand.tmp 203) (Operand.const (Value.bool true)) (Operand.tmp 212), type := 4, pos := "law.go:408", after := #[{ on := 6, ground := Ground.data }, { on := 15, ground := Ground.data }], guard := none }) (v := .bool true) rfl (by kernel_rfl) (by kernel_rfl) (by kernel_rfl) (fun _ _ _ h => h) (Or.inl ⟨by kernel_rfl, by (intro w hSw; (try dsimp only at hSw); go_simp)⟩) hHeld ?_
                  simp only [Act.put, List.setIfInBounds_toArray, List.set_cons_zero, List.set_cons_succ]
                  refine wpAnyH_take (i := 17) (oi := { dst := some 214, op := Op.move (Operand.tmp 213), type := 4, pos := "law.go:408", after := #[{ on := 16, ground := Ground.data }, { on := 6, ground := Ground.chain }], guard := none }) (v := .bool true) rfl (by kernel_rfl) (by kernel_rfl) (by kernel_rfl) (fun _ _ _ h => h) (Or.inl ⟨by kernel_rfl, by (intro w hSw; (try dsimp only at hSw); go_simp)⟩) hHeld ?_
                  simp only [Act.put, List.setIfInBounds_toArray, List.set_cons_zero, List.set_cons_succ]
                  refine wpAnyH_ready (rs := [18]) (by kernel_rfl) (by simp) ?_
                  refine AllReadyH.cons (o := { dst := some 215, op := Op.call { callee := Callee.value (Operand.func 12), args := #[], argTypes := #[] }, type := 4, pos := "law.go:408", after := #[{ on := 17, ground := Ground.chain }, { on := 17, ground := Ground.guard }], guard := some (17, true) }) rfl (fun Kq hK => ?_) AllReadyH.nil
                  go_simp
                  refine HAw.out.mono ?_
                  rintro e w16 ⟨rfl, hK16⟩
                  have hS16 : (fun w' : World => w'.cell? ⟨G2, q, none⟩ = some (.int .u32 (u2 : Int))) w16 := Ch.cell_kept hS hK16 fun h => h
                  have HE : Hid (Keeps (fun _ => False) w w16) := HBr.out.1.2.trans (((Keeps.refl (fun _ => False) wr).drew).trans hK16 fun _ _ h => h) fun _ _ h => h
                  clear hK16
                  refine hK.out _ _ hS16 (fun hHeld => ?_)
                  simp only [Act.put, List.setIfInBounds_toArray, List.set_cons_zero, List.set_cons_succ]
                  refine wpAnyH_take (i := 19) (oi := { dst := some 216, op := Op.pick (Operand.tmp 214) (Operand.tmp 215) (Operand.const (Value.bool false)), type := 4, pos := "law.go:408", after := #[{ on := 17, ground := Ground.data }, { on := 18, ground := Ground.data }], guard := none }) (v := .bool true) rfl (by kernel_rfl) (by kernel_rfl) (by kernel_rfl) (fun _ _ _ h => h) (Or.inl ⟨by kernel_rfl, by (intro w hSw; (try dsimp only at hSw); go_simp)⟩) hHeld ?_
                  simp only [Act.put, List.setIfInBounds_toArray, List.set_cons_zero, List.set_cons_succ]
                  refine wpAnyH_take (i := 20) (oi := { dst := some 10, op := Op.assign (Operand.tmp 216), type := 4, pos := "law.go:408", after := #[{ on := 19, ground := Ground.data }, { on := 18, ground := Ground.chain }, { on := 0, ground := Ground.phase }, { on := 1, ground := Ground.phase }, { on := 2, ground := Ground.phase }, { on := 3, ground := Ground.phase }, { on := 4, ground := Ground.phase }, { on := 5, ground := Ground.phase }, { on := 6, ground := Ground.phase }, { on := 7, ground := Ground.phase }, { on := 8, ground := Ground.phase }, { on := 9, ground := Ground.phase }, { on := 10, ground := Ground.phase }, { on := 11, ground := Ground.phase }, { on := 12, ground := Ground.phase }, { on := 13, ground := Ground.phase }, { on := 14, ground := Ground.phase }, { on := 15, ground := Ground.phase }, { on := 16, ground := Ground.phase }, { on := 17, ground := Ground.phase }, { on := 18, ground := Ground.phase }, { on := 19, ground := Ground.phase }], guard := none }) (v := .bool true) rfl (by kernel_rfl) (by kernel_rfl) (by kernel_rfl) (fun _ _ _ h => h) (Or.inl ⟨by kernel_rfl, by (intro w hSw; (try dsimp only at hSw); go_simp)⟩) hHeld ?_
                  simp only [Act.put, List.setIfInBounds_toArray, List.set_cons_zero, List.set_cons_succ]
                  refine wpAnyH_done (by kernel_rfl) ?_ _
                  clear hHeld
                  go_wp2
                  go_ret
                  exact ⟨rfl, HE.out⟩
                · have f1 : ((u2 : Int) == (u3 : Int)) = false := by simp; omega
                  have f1' : (u2 == u3) = false := by simp; omega
                  subst e'
                  clear e
                  go_wp2_with fail
                  refine Ch.region_tail 18 (by kernel_rfl) ?_
                  simp only [List.take_succ_cons, List.take_zero, List.drop_succ_cons, List.drop_zero]
                  repeat still_step
                  refine wpStill_nil ?_
                  go_wp2_with fail
                  refine HAw.out.mono ?_
                  rintro e w16 ⟨rfl, hK16⟩
                  have HE : Hid (Keeps (fun _ => False) w w16) := HBr.out.1.2.trans (((Keeps.refl (fun _ => False) wr).drew).trans hK16 fun _ _ h => h) fun _ _ h => h
                  clear hK16 c1 c2
                  go_wp2
                  go_ret
                  exact ⟨rfl, HE.out⟩

end Go.Proofs.YtipejahmjdamjaaGreatDoor
