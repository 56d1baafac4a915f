import Derived.Test.YtekijhhpldnmnaaRc
import Derived.Deep.CutBlock
import Derived.Deep.CutRange
namespace Go.Proofs.Ytekijhhpldnmnaa
open Go.RowKit
set_option linter.unusedVariables false
set_option linter.unusedSimpArgs false

set_option maxRecDepth 40000 in
set_option maxHeartbeats 8000000 in
theorem queueRow_in (n d : Nat) (aa : Option Addr) (ca : Nat) (acts : List Ac) (w : World) (h1 : 1 ≤ n) (h2 : n ≤ 16) (h3 : 1 ≤ d) (h4 : d ≤ 8) (hl : acts.length ≤ 400) (hs : SegAc w aa acts) (hok : ∀ o ∈ acts, o.Ok w) (hz : ∀ o ∈ acts, o.Sz) :
    Calls Try.prog 4 #[.int .i64 n, .int .i64 d, .slice aa acts.length ca] w fun e w' => e = .returned (.bool true) ∧ Keeps (fun _ => False) w w' := by
  obtain ⟨L, hL⟩ : ∃ L, L = acts.length := ⟨_, rfl⟩
  have HN : Hid (Calls Try.prog 15 #[.int .i64 20] w fun e w' => e = .returned (.tuple #[.pointer (some ⟨w.heap.size + 1, 0, none⟩), .int .i64 0]) ∧ Mm w' (w.heap.size + 1) w.heap.size (List.replicate 320 0) ∧ Keeps (fun _ => False) w w') := new_in 20 w (by omega) (by omega)
  have HA : Hid (SegAc w aa acts ∧ L = acts.length ∧ (∀ o ∈ acts, o.Ok w) ∧ ∀ o ∈ acts, o.Sz) := ⟨hs, hL, hok, hz⟩
  have HB : Hid (1 ≤ n ∧ n ≤ 16 ∧ 1 ≤ d ∧ d ≤ 8) := ⟨h1, h2, h3, h4⟩
  rw [← hL] at hl ⊢
  obtain ⟨P0, hP0⟩ : ∃ P0, P0 = rsz 1 n d := ⟨_, rfl⟩
  obtain ⟨KK, hKK⟩ : ∃ KK : Nat, KK = d * (1 + n) := ⟨_, rfl⟩
  have hPK : P0 = 1 + KK := by rw [hP0, hKK, rsz_nat]
  have hKb := Nat.mul_le_mul h4 (show 1 + n ≤ 17 by omega)
  have HP : Hid (P0 = rsz 1 n d ∧ P0 ≤ 137) := ⟨hP0, by omega⟩
  have xK : (d : Int) * (1 + (n : Int)) = (KK : Int) := by rw [hKK]; simp
  have xP : 1 + (KK : Int) = (P0 : Int) := by omega
  have kb : (KK : Int) ≤ 136 := by omega
  have pb : (P0 : Int) ≤ 137 := by omega
  have z1 : ¬ (n : Int) < 1 := by omega
  have z2 : ¬ 16 < (n : Int) := by omega
  have z3 : ¬ (d : Int) < 1 := by omega
  have z4 : ¬ 8 < (d : Int) := by omega
  have z5 : ¬ 400 < (L : Int) := by omega
  have z6 : (L : Int) ≤ 400 := by omega
  clear hs hok hz hL h1 h2 h3 h4 hl hP0 hKK hPK hKb
  obtain ⟨g, hg⟩ : ∃ g, g = w.heap.size := ⟨_, rfl⟩
  rw [← hg] at HN
  have HG : Hid (g = w.heap.size) := hg
  clear hg
  go_enter Try.func4, Try.ntmps4
  go_wp2_with fail
  refine HN.out.mono ?_
  rintro e w1 ⟨rfl, hm1, hk1⟩
  have HQ0 : Hid (QI w (g + 1) g n d w1 (.slice none 0 0) (.slice none 0 0) [] [] 0) := by
    refine ⟨⟨_, _, _, hm1, two_zero HB.out.1 HB.out.2.1 HB.out.2.2.1 HB.out.2.2.2, rfl, rfl, rfl⟩, .inl ⟨rfl, rfl⟩, .inl ⟨rfl, rfl⟩, fun h hh => ?_, fun k hk => (by cases hk), fun k hk => (by cases hk), fun k hk => (by cases hk), by have := HG.out; omega, hk1.none⟩
    rcases hh with hh | hh <;> cases hh
  obtain ⟨b, hb⟩ : ∃ b, b = g + 1 := ⟨_, rfl⟩
  rw [← hb] at HQ0 ⊢
  clear hm1 hk1 HN hb HB
  go_wp2
  go_loopw [10, 11, 12, 13, 14, 15, 16, 17, 18, 19, 20, 21, 22, 23, 24, 25, 26, 27] (fun sv wv lo i _ _ _ _ _ _ _ _ _ _ _ _ _ _ wr => ∃ (j : Nat) (sh wh : List Hd) (lost : Nat), j ≤ L ∧ i = .int .i64 j ∧ lo = .int .i64 lost ∧ lost ≤ j * 8 ∧ QI w b g n d wr sv wv sh wh lost) (fun _ _ _ i _ _ _ _ _ _ _ _ _ _ _ _ _ _ _ => L - (intOf i).toNat)
  case atStart => exact ⟨0, [], [], 0, by omega, rfl, rfl, by omega, HQ0.out⟩
  case round =>
    obtain ⟨j, sh, wh, lost, hj, rfl, rfl, hlo, hq⟩ := hrel
    obtain ⟨sa, sc, rfl, hsc, hsl, _⟩ := hq.srow.form
    obtain ⟨wa, wcp, rfl, hwc, hwl, _⟩ := hq.wrow.form
    rw [hvs_length] at hsl hwl
    have hlen := hq.lens
    have hq2 := hq
    rw [hvs_length, hvs_length] at hq2
    rw [hvs_length, hvs_length]
    obtain ⟨SL, hSL⟩ : ∃ x, x = sh.length := ⟨_, rfl⟩
    obtain ⟨WL, hWL⟩ : ∃ x, x = wh.length := ⟨_, rfl⟩
    rw [← hSL, ← hWL] at hq2 ⊢
    have HQ : Hid (QI w b g n d wr (.slice sa SL sc) (.slice wa WL wcp) sh wh lost ∧ SL = sh.length ∧ WL = wh.length ∧ lost ≤ j * 8) := ⟨hq2, hSL, hWL, hlo⟩
    have hz1 : (SL : Int) ≤ 8 := by omega
    have hz2 : (WL : Int) ≤ 8 := by omega
    have hz3 : (lost : Int) ≤ 3200 := by omega
    have hz4 : (WL : Int) ≤ (wcp : Int) := by omega
    have hz5 : (wcp : Int) ≤ 9223372036854775807 := by unfold maxLen at hwc; omega
    have HLN : Hid (sh.length ≤ d ∧ wh.length ≤ d ∧ d ≤ 8 ∧ lost ≤ 3200 ∧ P0 = rsz 1 n d ∧ WL ≤ wcp) := ⟨hlen.1, hlen.2.1, hlen.2.2, by omega, HP.out.1, by omega⟩
    by_cases hlt : j < L
    case neg =>
      obtain rfl : L = j := by omega
      have HR : Hid (Keeps (fun k => w.heap.size ≤ k) w wr) := hq2.k
      clear hq hq2 hsc hsl hwc hwl hlen hSL hWL hj hlo
      go_wp2
      go_ret
      exact ⟨rfl, HR.out.mono fun b hb e => by omega⟩
    have hlt' : (j : Int) < L := by omega
    have hjx : j < acts.length := by rw [← HA.out.2.1]; exact hlt
    obtain ⟨o, ho⟩ : ∃ o, acts[j]? = some o := ⟨_, List.getElem?_eq_getElem hjx⟩
    have hmem := List.mem_of_getElem? ho
    obtain ⟨ga, oa, rfl, hoc⟩ : ∃ g o2, aa = some ⟨g, o2, none⟩ ∧ ∀ j x, acts[j]? = some x → AcAt w g (o2 + j * 2) x := by
      rcases HA.out.1 with h0 | h
      · rw [h0] at hjx; simp at hjx
      · exact h
    have hat := hoc j o ho
    have hga : ga < w.heap.size := World.block_lt_of_cell? w _ (hat 0 _ rfl)
    have hokj := HA.out.2.2.1 o hmem
    have hszj := HA.out.2.2.2 o hmem
    obtain ⟨kd, ma, mc, ms⟩ := o
    obtain ⟨ML, hML⟩ : ∃ x, x = ms.length := ⟨_, rfl⟩
    have HAT : Hid (∀ w', Keeps (fun k => w.heap.size ≤ k) w w' → w'.cell? ⟨ga, oa + j * 2, none⟩ = some (.int .i64 kd) ∧ w'.cell? ⟨ga, oa + j * 2 + 1, none⟩ = some (.slice ma ML mc)) := fun w' k => by
      have e0 := cell_kept (hat 0 _ rfl) k (by omega)
      have e1 := cell_kept (hat 1 _ rfl) k (by omega)
      rw [Nat.add_zero] at e0
      rw [hML]
      exact ⟨e0, e1⟩
    have HO : Hid (SegW w ma ms ∧ ms.length ≤ 35184372087808 ∧ ML = ms.length ∧ ms.length ≤ maxLen) := ⟨hokj.ms, hszj, hML, Nat.le_trans hokj.ml.1 hokj.ml.2⟩
    have hMLz : (ML : Int) ≤ 35184372087808 := by have := HO.out; omega
    have d0 := (HAT.out wr hq2.k).1
    have d1 := (HAT.out wr hq2.k).2
    clear hq hq2 hsc hsl hwc hwl hlen hSL hWL hj hlo hjx ho hmem hoc hat hga hokj hszj hML
    go_upto_block 2 with fail
    go_cut [10, 11, 12, 14, 15, 16, 17, 18, 19, 20, 21, 22] from 58 to 232 (fun sv wv lo _ _ _ _ _ _ _ _ _ wx => ∃ (sh' wh' : List Hd) (lost' : Nat), lo = .int .i64 lost' ∧ lost' ≤ (j + 1) * 8 ∧ QI w b g n d wx sv wv sh' wh' lost')
    case first =>
      as_aux_lemma =>
        by_cases k0 : kd = 0
        · have k0' : (kd == 0) = true := beq_iff_eq.2 k0
          clear k0
          have HCW : Hid (Calls Try.prog 10 #[.slice ma ML mc] wr fun e w' => e = .returned (.slice (some ⟨wr.heap.size, 0, none⟩) ML ML) ∧ Blk w' wr.heap.size (wvs ms) 52 ∧ Keeps (fun _ => False) wr w') := by
            have q := copyLong_any ma mc ms wr (HO.out.1.low HQ.out.1.k) HO.out.2.1
            rw [← HO.out.2.2.1] at q
            exact q
          obtain ⟨xs, s, r, hm, ht, e1, e2, e3⟩ := HQ.out.1.ex
          have HPT : Hid (∀ w5, Keeps (fun _ => False) wr w5 → Blk w5 wr.heap.size (wvs ms) 52 → Calls Try.prog 16 #[.pointer (some ⟨b, 0, none⟩), .int .i64 0, .int .i64 n, .int .i64 d, .slice (some ⟨wr.heap.size, 0, none⟩) ML ML] w5 fun e w' => e = .returned (.tuple #[.bool (ptB false xs 0 n d ML), .int .i64 (ptE false xs 0 n d ML)]) ∧ Mm w' b g (ptX false xs 0 n d ms) ∧ Keeps (· = g) wr w') := fun w5 k5 hb5 => by
            have q := put_any false b g xs 0 n d w5 (hm.kept k5 (fun e => e) (fun e => e)) (by omega) (some ⟨wr.heap.size, 0, none⟩) ML ms (segW_of_blk hb5)
            rw [← HO.out.2.2.1] at q
            exact q.mono fun e w' ⟨h1, h2, h3⟩ => ⟨h1, h2, k5.none.trans h3 fun _ _ e => e⟩
          have HT : Hid (Two n d xs s r ∧ s.ms = hms sh ∧ r.ms = hms wh ∧ r.lost.toNat = lost ∧ Mm wr b g xs) := ⟨ht, e1, e2, e3, hm⟩
          clear hm ht e1 e2 e3
          by_cases hbad : ML < 1 ∨ n < ML
          · obtain ⟨p1, p2, p3⟩ := HT.out.1.put_bad (m := ms) (by rw [← HO.out.2.2.1]; exact hbad)
            rw [← HO.out.2.2.1] at p1 p2
            rw [p1, p2, p3] at HPT
            clear p1 p2 p3
            have hb2 : (ML : Int) < 1 ∨ (¬ (ML : Int) < 1 ∧ (n : Int) < (ML : Int)) := by omega
            clear hbad
            rcases hb2 with b1 | ⟨b1, b2⟩
            all_goals
              go_wp2_with fail
              refine HCW.out.mono ?_
              rintro e w5 ⟨rfl, hb5, hk5⟩
              have HPT5 : Hid (Calls _ _ _ _ _) := HPT.out w5 hk5 hb5
              clear hb5 hk5 HCW HPT
              go_wp2_with fail
              refine HPT5.out.mono ?_
              rintro e w6 ⟨rfl, hm6, hk6⟩
              have HF : Hid (QI w b g n d w6 (.slice sa SL sc) (.slice wa WL wcp) sh wh lost ∧ lost ≤ j * 8) := ⟨HQ.out.1.call hk6 hm6 HT.out.1 HT.out.2.1 HT.out.2.2.1 HT.out.2.2.2.1, HQ.out.2.2.2⟩
              clear hm6 hk6 HPT5
              go_wp2
              go_roundw
              case rel => exact ⟨j + 1, sh, wh, lost, by omega, by go_num, rfl, by have := HF.out.2; omega, HF.out.1⟩
              case measure => simp [intOf]; omega
          · have b1 : ¬ (ML : Int) < 1 := by omega
            have b2 : ¬ (n : Int) < (ML : Int) := by omega
            have hbad' : ¬ (ms.length < 1 ∨ n < ms.length) := by rw [← HO.out.2.2.1]; exact hbad
            have pe := HT.out.1.put_e (m := ms) hbad'
            rw [← HO.out.2.2.1] at pe
            rw [pe] at HPT
            clear pe
            by_cases hfull : SL < d
            · obtain ⟨p1, p2⟩ := HT.out.1.put_ok (m := ms) hbad' (by rw [HT.out.2.1, hms_length, ← HQ.out.2.1]; exact hfull)
              rw [← HO.out.2.2.1] at p1
              rw [p1, p2] at HPT
              have hf2 : (SL : Int) < (d : Int) := by omega
              have HST : Hid (∀ w6, Keeps (· = g) wr w6 → Mm w6 b g (lay xs 0 (enc 1 n d (s.push ms))) → (w6.cell? ⟨ga, oa + j * 2, none⟩ = some (.int .i64 kd) ∧ w6.cell? ⟨ga, oa + j * 2 + 1, none⟩ = some (.slice ma ML mc)) ∧ ∃ v' W', (∀ ty, (Builtin.append_ #[43, 43] ty #[.slice sa SL sc, .slice (some ⟨w6.heap.size, 0, none⟩) 1 1]).run Try.prog (w6.alloc (.cells #[.slice ma ML mc] 22)) = .ok v' W') ∧ QI w b g n d W' v' (.slice wa WL wcp) (sh ++ [⟨ma, mc, ms⟩]) wh lost) := fun w6 k6 hm6 => by
                refine ⟨HAT.out w6 (HQ.out.1.k.trans k6 fun b hb e => by have := HQ.out.1.bg.2; omega), ?_⟩
                have q := HQ.out.1.stage ⟨ma, mc, ms⟩ HO.out.1 k6 hm6 (HT.out.1.put (by rw [HT.out.2.1, hms_length, ← HQ.out.2.1]; exact hfull) (m := ms) (by omega)) (by show s.ms ++ [ms] = _; rw [HT.out.2.1]) HT.out.2.2.1 HT.out.2.2.2.1
                unfold Hd.v at q
                simp only [← HO.out.2.2.1] at q
                exact q
              clear p1 p2 hbad hbad' hfull
              go_wp2_with fail
              refine HCW.out.mono ?_
              rintro e w5 ⟨rfl, hb5, hk5⟩
              have HPT5 : Hid (Calls _ _ _ _ _) := HPT.out w5 hk5 hb5
              clear hb5 hk5 HCW HPT
              go_wp2_with fail
              refine HPT5.out.mono ?_
              rintro e w6 ⟨rfl, hm6, hk6⟩
              obtain ⟨⟨f0, f1⟩, v', W', hrun, hqi⟩ := HST.out w6 hk6 hm6
              have HAP : Hid (∀ ty, _) := hrun
              have HF : Hid (QI w b g n d W' v' (.slice wa WL wcp) (sh ++ [⟨ma, mc, ms⟩]) wh lost ∧ lost ≤ j * 8) := ⟨hqi, HQ.out.2.2.2⟩
              clear hm6 hk6 HPT5 HST hrun hqi d0 d1
              go_wp2_with (at_builtin; go_must (refine wpList_append_run rfl _ _ 43 43 rfl (.slice sa SL sc) (.slice (some ⟨w6.heap.size, 0, none⟩) 1 1) v' W' rfl rfl HAP.out ?_))
              go_meet
              exact ⟨_, _, lost, rfl, by have := HF.out.2; omega, HF.out.1⟩
            · obtain ⟨p1, p2⟩ := HT.out.1.put_full (m := ms) hbad' (by rw [HT.out.2.1, hms_length, ← HQ.out.2.1]; exact hfull)
              rw [← HO.out.2.2.1] at p1
              rw [p1, p2] at HPT
              have hf2 : ¬ (SL : Int) < (d : Int) := by omega
              clear p1 p2 hbad hbad' hfull
              go_wp2_with fail
              refine HCW.out.mono ?_
              rintro e w5 ⟨rfl, hb5, hk5⟩
              have HPT5 : Hid (Calls _ _ _ _ _) := HPT.out w5 hk5 hb5
              clear hb5 hk5 HCW HPT
              go_wp2_with fail
              refine HPT5.out.mono ?_
              rintro e w6 ⟨rfl, hm6, hk6⟩
              have HF : Hid (QI w b g n d w6 (.slice sa SL sc) (.slice wa WL wcp) sh wh lost ∧ lost ≤ j * 8) := ⟨HQ.out.1.call hk6 hm6 HT.out.1 HT.out.2.1 HT.out.2.2.1 HT.out.2.2.2.1, HQ.out.2.2.2⟩
              clear hm6 hk6 HPT5
              go_wp2
              go_meet
              exact ⟨sh, wh, lost, rfl, by have := HF.out.2; omega, HF.out.1⟩
        · have k0' : (kd == 0) = false := beq_eq_false_iff_ne.2 k0
          clear k0
          by_cases k1 : kd = 1
          · have k1' : (kd == 1) = true := beq_iff_eq.2 k1
            clear k1
            obtain ⟨xs, s, r, hm, ht, e1, e2, e3⟩ := HQ.out.1.ex
            obtain ⟨W4, hW4⟩ : ∃ W4, W4 = wr.alloc (.cells #[.int .i64 P0] 3) := ⟨_, rfl⟩
            have hk4 : Keeps (fun _ => False) wr W4 := by rw [hW4]; exact (Keeps.refl _ wr).alloc _
            have hb4 : Blk W4 wr.heap.size [.int .i64 P0] 3 := by rw [hW4]; exact Blk.new wr _ 3
            have hs4 : SegI W4 (some ⟨wr.heap.size, 0, none⟩) [(P0 : Int)] := .inr ⟨_, 0, rfl, fun j hj => by
              obtain rfl : j = 0 := by simp at hj; omega
              exact hb4.cell rfl⟩
            have hD := deliver_any false b g xs 0 n d W4 (hm.kept hk4 (fun e => e) (fun e => e)) (by omega) (some ⟨wr.heap.size, 0, none⟩) 1 [(P0 : Int)] hs4 (by simp; omega)
            have hdl := ht.dlv
            rw [← HLN.out.2.2.2.2.1] at hdl
            rw [hdl.1, hdl.2] at hD
            obtain ⟨ys, hys⟩ : ∃ ys, ys = lay (lay xs P0 (enc 3 n d (bringN d r s.ms))) 0 (List.replicate P0 0) := ⟨_, rfl⟩
            rw [← hys] at hD
            have HD : Hid (Calls Try.prog 17 #[.pointer (some ⟨b, 0, none⟩), .int .i64 0, .int .i64 n, .int .i64 d, .slice (some ⟨wr.heap.size, 0, none⟩) 1 1] W4 fun e w' => e = .returned (.int .i64 0) ∧ Mm w' b g ys ∧ Keeps (· = g) W4 w') := hD
            have hbr := dlvW_bring ht.pt.ok lost e3 s.ms (fun m hm => ht.st.ok.l m hm) (by rw [e1, hms_length]; have := HLN.out; omega)
            have HTW : Hid (Two n d ys ⟨0, [], 0⟩ (bringN d r s.ms) ∧ (bringN d r s.ms).ms = (dlvW d (hms wh, lost) (hms sh)).1 ∧ (bringN d r s.ms).lost.toNat = (dlvW d (hms wh, lost) (hms sh)).2) := by
              have h5 := ht.dlv_two
              rw [← HLN.out.2.2.2.2.1, ← hys] at h5
              rw [e1, e2] at hbr
              rw [← e1] at hbr
              refine ⟨h5, ?_, ?_⟩
              · rw [← e1]; exact hbr.1
              · rw [← e1]; exact hbr.2.1
            have H4 : Hid (W4 = wr.alloc (.cells #[.int .i64 P0] 3) ∧ Keeps (fun _ => False) wr W4) := ⟨hW4, hk4⟩
            clear hD hdl hys hbr hs4 hb4 hk4 hW4 hm ht e1 e2 e3
            go_wp2_with fail
            rw [← H4.out.1]
            refine HD.out.mono ?_
            rintro e w5 ⟨rfl, hm5, hk5⟩
            have HD0 : Hid (QD w b g n d ys w5 (.slice sa SL sc) (.slice wa WL wcp) sh wh) := by
              have q := HQ.out.1
              have k5 : Keeps (· = g) wr w5 := H4.out.2.none.trans hk5 fun _ _ e => e
              exact ⟨hm5, q.srow.kept k5 (fun b hb e => (q.sb b hb).2.2 e), q.wrow.kept k5 (fun b hb e => (q.wb b hb).2.2 e), q.seg, q.sb, q.wb, q.ap, q.bg, q.k.trans k5 fun b hb e => by have := q.bg.2; omega⟩
            clear hm5 hk5 HD H4 d0 d1
            go_wp2
            go_loopw [11, 12, 17] (fun wv lo i wx => ∃ (k : Nat) (wh' : List Hd) (lost' : Nat), k ≤ SL ∧ i = .int .i64 k ∧ lo = .int .i64 lost' ∧ (hms wh', lost') = dlvW d (hms wh, lost) ((hms sh).take k) ∧ lost' ≤ lost + k ∧ wh'.length ≤ d ∧ QD w b g n d ys wx (.slice sa SL sc) wv sh wh') (fun _ _ i _ => SL - (intOf i).toNat)
            case atStart => exact ⟨0, wh, lost, by omega, rfl, rfl, rfl, by omega, HLN.out.2.1, HD0.out⟩
            case round =>
              obtain ⟨k, wh', lost', hk, rfl, rfl, hdv, hlo', hwd, hqd⟩ := hrel
              obtain ⟨wa', wc', rfl, hwc', hwl', _⟩ := hqd.wrow.form
              rw [hvs_length] at hwl'
              rw [hvs_length]
              rw [hvs_length] at hqd
              obtain ⟨WL', hWL'⟩ : ∃ x, x = wh'.length := ⟨_, rfl⟩
              rw [← hWL'] at hqd ⊢
              by_cases hlt2 : k < SL
              · have hlt3 : (k : Int) < (SL : Int) := by omega
                have hkx : k < sh.length := by rw [← HQ.out.2.1]; exact hlt2
                obtain ⟨x, hx⟩ : ∃ x, sh[k]? = some x := ⟨_, List.getElem?_eq_getElem hkx⟩
                obtain ⟨sg, so, rfl, hc⟩ := hqd.srow.at (hvs_get hx)
                have hsn := dlvW_snoc d (hms wh, lost) (hms sh) k x.ms (hms_get hx)
                rw [← hdv] at hsn
                simp only at hsn
                rw [hms_length] at hsn
                obtain ⟨xa, xc, xm⟩ := x
                obtain ⟨XL, hXL⟩ : ∃ y, y = xm.length := ⟨_, rfl⟩
                replace hc : wr.cell? ⟨sg, so + k, none⟩ = some (.slice xa XL xc) := by rw [hXL]; exact hc
                have hW8 : (WL' : Int) ≤ 8 := by have := HLN.out; omega
                have hl8 : (lost' : Int) ≤ 4000 := by have := HLN.out; have := HQ.out; omega
                by_cases hroom : WL' < d
                · have hr2 : (WL' : Int) < (d : Int) := by omega
                  rw [if_pos (by rw [← hWL']; exact hroom)] at hsn
                  obtain ⟨v', W', hrun, hqd'⟩ := hqd.wait ⟨xa, xc, xm⟩ (List.mem_of_getElem? hx) (by have := HLN.out; omega)
                  unfold Hd.v at hrun
                  simp only [← hXL] at hrun
                  have HAP : Hid (∀ ty, _) := hrun
                  have HF : Hid ((hms (wh' ++ [⟨xa, xc, xm⟩]), lost') = dlvW d (hms wh, lost) ((hms sh).take (k + 1)) ∧ lost' ≤ lost + (k + 1) ∧ (wh' ++ [(⟨xa, xc, xm⟩ : Hd)]).length ≤ d ∧ QD w b g n d ys W' (.slice (some ⟨sg, so, none⟩) SL sc) v' sh (wh' ++ [⟨xa, xc, xm⟩])) := ⟨by rw [hsn]; simp [hms], by omega, by simp; omega, hqd'⟩
                  clear hrun hqd' hqd hsn hx hkx hdv hlo' hwd hwc' hwl' hWL' hXL hk hroom
                  go_wp2_with (at_builtin; go_must (refine wpList_append_run rfl _ _ 43 43 rfl (.slice wa' WL' wc') (.slice (some ⟨wr.heap.size, 0, none⟩) 1 1) v' W' rfl rfl HAP.out ?_))
                  go_roundw
                  case rel => exact ⟨k + 1, _, lost', by omega, by go_num, rfl, HF.out⟩
                  case measure => simp [intOf]; omega
                · have hr2 : ¬ (WL' : Int) < (d : Int) := by omega
                  rw [if_neg (by rw [← hWL']; exact hroom)] at hsn
                  have HF : Hid ((hms wh', lost' + 1) = dlvW d (hms wh, lost) ((hms sh).take (k + 1)) ∧ lost' + 1 ≤ lost + (k + 1) ∧ wh'.length ≤ d ∧ QD w b g n d ys wr (.slice (some ⟨sg, so, none⟩) SL sc) (.slice wa' WL' wc') sh wh') := ⟨hsn.symm, by omega, hwd, hqd⟩
                  clear hqd hsn hx hkx hdv hlo' hwd hwc' hwl' hWL' hXL hk hroom
                  go_wp2
                  go_roundw
                  case rel => exact ⟨k + 1, wh', lost' + 1, by omega, by go_num, by go_num, HF.out⟩
                  case measure => simp [intOf]; omega
              · obtain rfl : SL = k := by omega
                have HF : Hid (QI w b g n d wr (.slice none 0 0) (.slice wa' WL' wc') [] wh' lost' ∧ lost' ≤ (j + 1) * 8) := by
                  have htk : (hms sh).take SL = hms sh := List.take_of_length_le (by rw [hms_length]; have := HQ.out.2.1; omega)
                  rw [htk] at hdv
                  have h6 := HTW.out.2.1
                  have h7 := HTW.out.2.2
                  rw [← hdv] at h6 h7
                  refine ⟨⟨⟨ys, _, _, hqd.mm, HTW.out.1, rfl, h6, h7⟩, .inl ⟨rfl, rfl⟩, hqd.wrow, fun h hh => ?_, fun k hk => (by cases hk), hqd.wb, fun k hk => (by cases hk), hqd.bg, hqd.k⟩, ?_⟩
                  · rcases hh with hh | hh
                    · cases hh
                    · exact hqd.seg h (.inr hh)
                  · have := HLN.out; have := HQ.out.2; omega
                clear hqd hdv hlo' hwd hwc' hwl' hWL' hk
                go_wp2
                go_meet
                exact ⟨[], wh', lost', rfl, HF.out.2, HF.out.1⟩
          · have k1' : (kd == 1) = false := beq_eq_false_iff_ne.2 k1
            clear k1
            by_cases k2 : kd = 2
            · have k2' : (kd == 2) = true := beq_iff_eq.2 k2
              clear k2
              obtain ⟨xs, s, r, hm, ht, e1, e2, e3⟩ := HQ.out.1.ex
              have hL := look3_any false b g xs P0 n d wr hm (by omega)
              have hlk := ht.lk3
              rw [← HLN.out.2.2.2.2.1] at hlk
              rw [hlk.1] at hL
              cases wh with
              | nil =>
                have hno := ht.none e2
                rw [← HLN.out.2.2.2.2.1] at hno
                rw [hno.1, hno.2.1] at hL
                have HLK : Hid (Calls Try.prog 18 #[.pointer (some ⟨b, 0, none⟩), .int .i64 P0, .int .i64 n, .int .i64 d] wr fun e w' => LookP wr [] false 0 e w') := hL
                have HTK : Hid (∀ w6, Keeps (fun _ => False) wr w6 → Calls Try.prog 19 #[.pointer (some ⟨b, 0, none⟩), .int .i64 P0, .int .i64 n, .int .i64 d] w6 fun e w' => e = .returned (.tuple #[.bool false, .int .i64 0]) ∧ Mm w' b g xs ∧ Keeps (· = g) wr w') := fun w6 k6 => by
                  have q := tak_any false b g xs P0 n d w6 (hm.kept k6 (fun e => e) (fun e => e)) (by omega)
                  rw [hno.1, hno.2.2, hlk.1] at q
                  exact q.mono fun e w' ⟨h1, h2, h3⟩ => ⟨h1, h2, k6.none.trans h3 fun _ _ e => e⟩
                have HT : Hid (Two n d xs s r ∧ s.ms = hms sh ∧ r.ms = hms [] ∧ r.lost.toNat = lost) := ⟨ht, e1, e2, e3⟩
                have hW0 : WL = 0 := HQ.out.2.2.1
                subst hW0
                clear hL hlk hno hm ht e1 e2 e3
                go_wp2_with fail
                refine HLK.out.mono ?_
                rintro e w6 ⟨la, rfl, _, hk6⟩
                have HTK6 : Hid (Calls _ _ _ _ _) := HTK.out w6 hk6
                clear hk6 HLK HTK
                go_wp2_with fail
                refine HTK6.out.mono ?_
                rintro e w7 ⟨rfl, hm7, hk7⟩
                have HF : Hid (QI w b g n d w7 (.slice sa SL sc) (.slice wa 0 wcp) sh [] lost ∧ lost ≤ j * 8) := ⟨HQ.out.1.call hk7 hm7 HT.out.1 HT.out.2.1 HT.out.2.2.1 HT.out.2.2.2, HQ.out.2.2.2⟩
                clear hm7 hk7 HTK6
                go_wp2
                go_roundw
                case rel => exact ⟨j + 1, sh, [], lost, by omega, by go_num, rfl, by have := HF.out.2; omega, HF.out.1⟩
                case measure => simp [intOf]; omega
              | cons x wt =>
                have hx0 : r.ms = x.ms :: hms wt := e2
                have hmg := ht.msg hx0
                have htk := ht.tak hx0
                have hhd := ht.head
                rw [← HLN.out.2.2.2.2.1] at hmg htk hhd
                have hhd2 : hdB false xs P0 n d = true := by rw [hhd, hx0]; rfl
                rw [hhd2, hmg] at hL
                have HLK : Hid (Calls Try.prog 18 #[.pointer (some ⟨b, 0, none⟩), .int .i64 P0, .int .i64 n, .int .i64 d] wr fun e w' => LookP wr x.ms true 0 e w') := hL
                have HTK : Hid (∀ w6, Keeps (fun _ => False) wr w6 → Calls Try.prog 19 #[.pointer (some ⟨b, 0, none⟩), .int .i64 P0, .int .i64 n, .int .i64 d] w6 fun e w' => e = .returned (.tuple #[.bool true, .int .i64 0]) ∧ Mm w' b g (lay xs P0 (enc 3 n d (r.pop d))) ∧ Keeps (· = g) w6 w') := fun w6 k6 => by
                  have q := tak_any false b g xs P0 n d w6 (hm.kept k6 (fun e => e) (fun e => e)) (by omega)
                  rw [hhd2, htk, hlk.1] at q
                  exact q
                have htwo := ht.port ht.pt.ok.pop
                rw [← HLN.out.2.2.2.2.1] at htwo
                obtain ⟨wg, wo, rfl, hwcell⟩ := HQ.out.1.wrow.at (j := 0) (hvs_get (hs := x :: wt) (j := 0) rfl)
                rw [Nat.add_zero] at hwcell
                have HT : Hid (Two n d (lay xs P0 (enc 3 n d (r.pop d))) s (r.pop d) ∧ s.ms = hms sh ∧ (r.pop d).ms = hms wt ∧ (r.pop d).lost.toNat = lost ∧ 1 ≤ x.ms.length ∧ x.ms.length ≤ n ∧ n ≤ 16 ∧ SegW w x.a x.ms) := ⟨htwo, e1, by show r.ms.tail = _; rw [hx0]; rfl, e3, (ht.pt.ok.l x.ms (by rw [hx0]; simp)).1, (ht.pt.ok.l x.ms (by rw [hx0]; simp)).2, ht.st.n2, HQ.out.1.seg x (.inr (by simp))⟩
                have hWp : 0 < (WL : Int) := by have := HQ.out.2.2.1; simp at this; omega
                have HWC : Hid (∀ w6, Keeps (· = g) wr w6 → w6.cell? ⟨wg, wo, none⟩ = some (.slice x.a x.ms.length x.c)) := fun w6 k6 => cell_kept hwcell k6 (fun e => (HQ.out.1.wb wg rfl).2.2 e)
                obtain ⟨xa, xc, xm⟩ := x
                obtain ⟨XL, hXL⟩ : ∃ y, y = xm.length := ⟨_, rfl⟩
                simp only [← hXL] at HWC
                unfold LookP at HLK
                simp only [← hXL] at HLK
                have HXL : Hid (XL = xm.length) := hXL
                clear hL hlk hm ht e1 e2 e3 hx0 hmg htk hhd hhd2 htwo hwcell hXL
                go_wp2_with fail
                refine HLK.out.mono ?_
                rintro e w6 ⟨la, rfl, hla, hk6⟩
                obtain ⟨LG, hLG, rfl, hbL⟩ : ∃ G, wr.heap.size ≤ G ∧ la = some ⟨G, 0, none⟩ ∧ Blk w6 G (wvs xm) 52 := by
                  rcases hla with ⟨_, h⟩ | h
                  · have h2 : xm = [] := h
                    have h3 : 1 ≤ xm.length := HT.out.2.2.2.2.1
                    rw [h2] at h3
                    simp at h3
                  · exact h
                have HTK6 : Hid (Calls _ _ _ _ _) := HTK.out w6 hk6
                have H6 : Hid (Keeps (fun _ => False) wr w6 ∧ Blk w6 LG (wvs xm) 52 ∧ LG ≠ g) := ⟨hk6, hbL, by have := (HQ.out.1.ex); obtain ⟨_, _, _, hm, _⟩ := this; have := hm.row.lt; omega⟩
                clear hk6 hbL hLG hla HLK HTK
                go_wp2_with fail
                refine HTK6.out.mono ?_
                rintro e w7 ⟨rfl, hm7, hk7⟩
                have k7 : Keeps (· = g) wr w7 := H6.out.1.none.trans hk7 fun _ _ e => e
                have c7 := HWC.out w7 k7
                have HSM : Hid (Calls Try.prog 13 #[.slice (some ⟨LG, 0, none⟩) XL XL, .slice xa XL xc] w7 fun e w' => e = .returned (.bool true) ∧ Keeps (fun _ => False) w7 w') := by
                  have q := same_any (some ⟨LG, 0, none⟩) xa XL xc xm w7 (segW_of_blk (H6.out.2.1.kept hk7 H6.out.2.2)) (HT.out.2.2.2.2.2.2.2.low (HQ.out.1.k.trans k7 fun b hb e => by have := HQ.out.1.bg.2; omega)) (by have h5 : xm.length ≤ n := HT.out.2.2.2.2.2.1; have h6 : n ≤ 16 := HT.out.2.2.2.2.2.2.1; omega)
                  rw [← HXL.out] at q
                  exact q
                have hq7 := HQ.out.1.taken k7 hm7 HT.out.1 HT.out.2.1 HT.out.2.2.1 HT.out.2.2.2.1
                have HF7 : Hid (QI w b g n d w7 (.slice sa SL sc) (.slice (some ⟨wg, if wcp = 1 then wo else wo + 1, none⟩) wt.length (wcp - 1)) sh wt lost ∧ lost ≤ j * 8 ∧ WL = wt.length + 1) := ⟨hq7, HQ.out.2.2.2, by have := HQ.out.2.2.1; simpa using this⟩
                clear hm7 hk7 k7 hq7 HTK6 HWC
                go_wp2_with fail
                refine HSM.out.mono ?_
                rintro e w8 ⟨rfl, hk8⟩
                have HF8 : Hid (QI w b g n d w8 (.slice sa SL sc) (.slice (some ⟨wg, if wcp = 1 then wo else wo + 1, none⟩) (WL - 1) (wcp - 1)) sh wt lost ∧ lost ≤ j * 8) := by
                  have e9 : WL - 1 = wt.length := by have := HF7.out.2.2; omega
                  rw [e9]
                  exact ⟨HF7.out.1.grown hk8, HF7.out.2.1⟩
                clear hk8 HSM HF7 c7
                by_cases hc1 : wcp = 1
                · rw [if_pos hc1] at HF8
                  have hW1 : WL = 1 := by have := HLN.out; have : 0 < WL := by omega
                                          omega
                  subst hc1 hW1
                  go_wp2
                  go_meet
                  exact ⟨sh, wt, lost, rfl, by have := HF8.out.2; omega, HF8.out.1⟩
                · rw [if_neg hc1] at HF8
                  go_wp2
                  go_meet
                  exact ⟨sh, wt, lost, rfl, by have := HF8.out.2; omega, HF8.out.1⟩
            · have k2' : (kd == 2) = false := beq_eq_false_iff_ne.2 k2
              clear k2
              go_wp2
              go_meet
              exact ⟨sh, wh, lost, rfl, by have := HQ.out.2.2.2; omega, HQ.out.1⟩
    case rest =>
      as_aux_lemma =>
        obtain ⟨sh', wh', lost', rfl, hlo', hq'⟩ := hcut
        obtain ⟨sa', sc', rfl, hsc', hsl', _⟩ := hq'.srow.form
        obtain ⟨wa', wc', rfl, hwc', hwl', _⟩ := hq'.wrow.form
        rw [hvs_length] at hq' ⊢
        rw [hvs_length] at hq' ⊢
        have hlen' := hq'.lens
        obtain ⟨xs, s, r, hm, ht, e1, e2, e3⟩ := hq'.ex
        have hct := ht.counts
        have hlk := ht.lk3
        rw [← HLN.out.2.2.2.2.1] at hct hlk
        have HCN : Hid (Calls Try.prog 20 #[.pointer (some ⟨b, 0, none⟩), .int .i64 P0, .int .i64 n, .int .i64 d] wc fun e w' => e = .returned (.tuple #[.int .i64 wh'.length, .int .u32 lost', .int .i64 0]) ∧ Keeps (fun _ => False) wc w') := by
          have q := count3_any false b g xs P0 n d wc hm (by omega)
          rw [hct.1, hct.2.1, hlk.1, e2, e3, hms_length] at q
          exact q
        have HST : Hid (∀ w7, Keeps (fun _ => False) wc w7 → Calls Try.prog 21 #[.pointer (some ⟨b, 0, none⟩), .int .i64 0, .int .i64 n, .int .i64 d] w7 fun e w' => e = .returned (.tuple #[.int .i64 sh'.length, .int .i64 0]) ∧ Keeps (fun _ => False) wc w') := fun w7 k7 => by
          have q := staged_any false b g xs 0 n d w7 (hm.kept k7 (fun e => e) (fun e => e)) (by omega)
          rw [hct.2.2, ht.lk1.1, e1, hms_length] at q
          exact q.mono fun e w' ⟨h1, h2⟩ => ⟨h1, k7.trans h2 fun _ _ e => e⟩
        obtain ⟨SL', hSL'⟩ : ∃ x, x = sh'.length := ⟨_, rfl⟩
        obtain ⟨WL', hWL'⟩ : ∃ x, x = wh'.length := ⟨_, rfl⟩
        rw [← hSL'] at HST hq' ⊢
        rw [← hWL'] at HCN hq' ⊢
        have HQ' : Hid (QI w b g n d wc (.slice sa' SL' sc') (.slice wa' WL' wc') sh' wh' lost' ∧ lost' ≤ (j + 1) * 8) := ⟨hq', hlo'⟩
        have hz8 : (lost' : Int) ≤ 4000 := by omega
        have hz9 : (SL' : Int) ≤ 8 := by omega
        have hz10 : (WL' : Int) ≤ 8 := by omega
        clear hq' hlo' hsc' hsl' hwc' hwl' hlen' hm ht e1 e2 e3 hct hlk hSL' hWL' d0 d1 HAT HO HQ hz1 hz2 hz3 hz4 hz5
        go_wp2_with fail
        refine HCN.out.mono ?_
        rintro e w7 ⟨rfl, hk7⟩
        have HST7 : Hid (Calls _ _ _ _ _) := HST.out w7 hk7
        clear hk7 HCN HST
        go_wp2_with fail
        refine HST7.out.mono ?_
        rintro e w8 ⟨rfl, hk8⟩
        have HF : Hid (QI w b g n d w8 (.slice sa' SL' sc') (.slice wa' WL' wc') sh' wh' lost' ∧ lost' ≤ (j + 1) * 8) := ⟨HQ'.out.1.grown hk8, HQ'.out.2⟩
        clear hk8 HST7
        go_wp2
        go_roundw
        case rel => exact ⟨j + 1, sh', wh', lost', by omega, by go_num, rfl, HF.out.2, HF.out.1⟩
        case measure => simp [intOf]; omega

end Go.Proofs.Ytekijhhpldnmnaa
