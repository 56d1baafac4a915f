import Derived.Test.YtfcgpjojjehkiaaRl
namespace Go.Proofs.Ytfcgpjojjehkiaa
open Go.RowKit
set_option linter.unusedVariables false
set_option linter.unusedSimpArgs false

set_option maxRecDepth 20000 in
set_option maxHeartbeats 8000000 in
theorem rdl_in (b g : Nat) (xs : List UInt32) (p n : Int) (a : Option Addr) (c : Nat) (ports : List Int) (w : World) (hm : Rm w b g xs) (hs : SegI w a ports) (hpn : ∀ x, a = some x → x.block ≠ g) (hN1 : 1 ≤ ports.length) (hN2 : ports.length ≤ 4) (hp1 : -9223372036854775808 ≤ p) (hp2 : p ≤ 9223372036854775807) (hps : ∀ q ∈ ports, -9223372036854775808 ≤ q ∧ q ≤ 9223372036854775807) (h1 : 1 ≤ n) (h2 : n ≤ 16) :
    Calls Try.prog 31 #[.pointer (some ⟨b, 0, none⟩), .int .i64 p, .int .i64 n, .slice a ports.length c] w (PutR w b g (dlE false xs p n ports) (dlX false xs p n ports)) := by
  have eE : dlE false xs p n ports = laE xs (boxes p n ports) := by unfold dlE; rw [if_neg (by simp), if_neg (by omega)]
  have HF : Hid (∀ (E : Int) W, laE xs (boxes p n ports) = E → E ≠ 0 → Keeps (fun _ => False) w W → PutR w b g (dlE false xs p n ports) (dlX false xs p n ports) (.returned (.int .i64 E)) W) := fun E W hE h0 kk => by
    refine ⟨by rw [eE, hE], ?_, keeps_g kk⟩
    unfold dlX
    rw [eE, hE, if_neg h0]
    exact hm.grown kk
  have HS := stand_any false b n w
  rw [show sdE false n = 0 by unfold sdE; rw [if_neg (by simp), if_neg (by omega)]] at HS
  have HS : Hid (Calls _ _ _ _ _) := HS
  have HT := rtk_any b g xs p 2 n w hm (.inl rfl) h1 h2 hp1 hp2
  obtain ⟨M2, hM2⟩ : ∃ M : Int, M = 2 + n := ⟨_, rfl⟩
  obtain ⟨M3, hM3⟩ : ∃ M : Int, M = 3 + n := ⟨_, rfl⟩
  rw [show ((2 : Nat) : Int) + n = M2 by rw [hM2]; rfl] at HT
  have HT : Hid (Calls _ _ _ _ _) := HT
  have HTq : Hid (∀ W q, Rm W b g xs → -9223372036854775808 ≤ q → q ≤ 9223372036854775807 → Calls Try.prog 48 #[.pointer (some ⟨b, 0, none⟩), .int .i64 q, .int .i64 M3] W fun e w' => (tkE false xs.length q 3 n = 0 ∧ TkR W (wn xs (bxq n q)) e w') ∨ (tkE false xs.length q 3 n = 51 ∧ e = .returned (.tuple #[.slice none 0 0, .int .i64 51]) ∧ w' = W)) := fun W q hW a1 a2 => by
    have := rtk_any b g xs q 3 n W hW (.inr rfl) h1 h2 a1 a2
    rw [show ((3 : Nat) : Int) + n = M3 by rw [hM3]; rfl] at this
    exact this
  obtain ⟨N, hNN⟩ : ∃ N, N = ports.length := ⟨_, rfl⟩
  have HP : Hid (Rm w b g xs ∧ SegI w a ports ∧ (∀ x, a = some x → x.block ≠ g) ∧ (N = ports.length ∧ 1 ≤ N ∧ N ≤ 4) ∧ (∀ q ∈ ports, -9223372036854775808 ≤ q ∧ q ≤ 9223372036854775807) ∧ (1 ≤ n ∧ n ≤ 16) ∧ dlE false xs p n ports = laE xs (boxes p n ports)) := ⟨hm, hs, hpn, ⟨hNN, by omega, by omega⟩, hps, ⟨h1, h2⟩, eE⟩
  rw [← hNN]
  have n1 : ¬ (N : Int) < 1 := by omega
  have n2 : ¬ 4 < (N : Int) := by omega
  have e1 : 2 + n = M2 := hM2.symm
  have e2 : M2 ≤ 18 := by omega
  have e3 : 3 ≤ M2 := by omega
  have e4 : 3 + n = M3 := hM3.symm
  have e5 : M3 ≤ 19 := by omega
  have e6 : 4 ≤ M3 := by omega
  clear hm hs hpn hN1 hN2 hp1 hp2 hps h1 h2 hM2 hM3 hNN eE
  go_enter Try.func31, Try.ntmps31
  go_wp2_with fail
  refine HS.out.mono ?_
  rintro e w1 ⟨rfl, hw⟩
  obtain rfl := hw.symm
  clear hw HS
  go_wp2_with fail
  refine HT.out.mono ?_
  rintro e w2 (⟨hE, Gs, cs, hGs, rfl, hGc, hGB, hk2⟩ | ⟨hE, rfl, hw⟩)
  · have els : win xs p.toNat (2 + n.toNat) = wn xs ⟨p, 2, n⟩ := rfl
    rw [els] at hGc hGB ⊢
    obtain ⟨ls, hls⟩ : ∃ ls, ls = wn xs ⟨p, 2, n⟩ := ⟨_, rfl⟩
    rw [← hls] at hGc hGB ⊢
    obtain ⟨L, hL⟩ : ∃ L, L = ls.length := ⟨_, rfl⟩
    rw [← hL]
    have H2 : Hid (Keeps (fun _ => False) w w2 ∧ SegW w2 (some ⟨Gs, 0, none⟩) ls ∧ (ls.length ≤ cs ∧ cs ≤ maxLen) ∧ w.heap.size ≤ Gs ∧ tkE false xs.length p 2 n = 0 ∧ ls = wn xs ⟨p, 2, n⟩ ∧ L = ls.length) := ⟨hk2, hGB, hGc, hGs, hE, hls, hL⟩
    clear hE hGs hGc hGB hk2 hls hL HT els
    go_wp2
    go_loopw [50] (fun i wr => ∃ j : Nat, j ≤ N ∧ i = .int .i64 j ∧ (∀ i, (hi : i < ports.length) → i < j → tkE false xs.length (ports[i]'hi) 3 n = 0) ∧ Keeps (fun _ => False) w2 wr) (fun i _ => N - (intOf i).toNat)
    case atStart => exact ⟨0, by omega, rfl, (fun i _ hi => by omega), Keeps.refl _ _⟩
    case round =>
      obtain ⟨j, hj, rfl, htk, hk⟩ := hrel
      by_cases hlt : j < N
      · have hlt' : (j : Int) < N := by omega
        have hjp : j < ports.length := by have := HP.out.2.2.2.1; omega
        have hkw : Keeps (fun _ => False) w wr := H2.out.1.trans hk fun _ _ e => e
        rcases HP.out.2.1.kept hkw (fun _ _ e => e) with h0 | ⟨gp, op, rfl, hcp⟩
        · rw [h0] at hjp; simp at hjp
        have cq := hcp j hjp
        have hqb := HP.out.2.2.2.2.1 _ (List.getElem_mem hjp)
        obtain ⟨q, hqq⟩ : ∃ q, q = ports[j]'hjp := ⟨_, rfl⟩
        rw [← hqq] at cq hqb
        have HTj : Hid (Calls _ _ _ _ _) := HTq.out wr q (HP.out.1.grown hkw) hqb.1 hqb.2
        have HJ : Hid ((∀ i, (hi : i < ports.length) → i < j → tkE false xs.length (ports[i]'hi) 3 n = 0) ∧ Keeps (fun _ => False) w2 wr ∧ (∃ hjp : j < ports.length, q = ports[j]'hjp)) := ⟨htk, hk, hjp, hqq⟩
        clear hj htk hk hjp hkw hcp hqb hqq
        go_wp2_with fail
        refine HTj.out.mono ?_
        rintro e w3 (⟨hE, G, cG, hG, rfl, hGc, hGB, hk3⟩ | ⟨hE, rfl, hw⟩)
        · have HN : Hid ((∀ i, (hi : i < ports.length) → i < j + 1 → tkE false xs.length (ports[i]'hi) 3 n = 0) ∧ Keeps (fun _ => False) w2 w3) := by
            refine ⟨fun i hi hij => ?_, HJ.out.2.1.trans hk3 fun _ _ e => e⟩
            by_cases e : i = j
            · subst e
              obtain ⟨_, hq⟩ := HJ.out.2.2
              rw [← hq]; exact hE
            · exact HJ.out.1 i hi (by omega)
          clear hE hG hGc hGB hk3 HTj cq
          go_wp2
          go_roundw
          case rel => exact ⟨j + 1, by omega, by go_num, HN.out⟩
          case measure => simp [intOf]; omega
        · obtain rfl := hw.symm
          have HE : Hid (laE xs (boxes p n ports) = 51) := by
            obtain ⟨hjp, hq⟩ := HJ.out.2.2
            have : takesE xs.length (boxes p n ports) = 51 := by
              have h9 := takesE_at (N := xs.length) (bs := boxes p n ports) (j := j + 1) (b := bxq n q) (fun i c hi hc => by
                cases i with
                | zero =>
                  have : (⟨p, 2, n⟩ : Bx) = c := by simpa [boxes] using hc
                  rw [← this]; exact H2.out.2.2.2.2.1
                | succ i =>
                  have hip : i < ports.length := by omega
                  have : bxq n (ports[i]'hip) = c := by
                    have h8 : (pbx n ports)[i]? = some c := hc
                    unfold pbx at h8
                    rw [List.getElem?_map, List.getElem?_eq_getElem hip] at h8
                    exact Option.some.inj h8
                  rw [← this]; exact HJ.out.1 i hip (by omega)) (by
                show (pbx n ports)[j]? = some (bxq n q)
                unfold pbx
                rw [List.getElem?_map, List.getElem?_eq_getElem hjp, hq]; rfl) (by show tkE false xs.length q 3 n ≠ 0; rw [hE]; omega)
              rw [h9]; exact hE
            show laE xs (boxes p n ports) = 51
            unfold laE
            rw [this, if_pos (by omega)]
          have HKw : Hid (Keeps (fun _ => False) w wr) := H2.out.1.trans HJ.out.2.1 fun _ _ e => e
          clear hw hE HTj cq
          go_wp2
          go_ret
          exact HF.out 51 _ HE.out (by omega) HKw.out
      · obtain rfl : j = N := by omega
        have hall : ∀ q ∈ ports, tkE false xs.length q 3 n = 0 := fun q hq => by
          obtain ⟨i, hi, rfl⟩ := List.getElem_of_mem hq
          exact htk i hi (by have := HP.out.2.2.2.1; omega)
        have hbx : ∀ y ∈ boxes p n ports, y.tk xs.length = 0 := fun y hy => by
          rcases List.mem_cons.1 hy with rfl | hy
          · exact H2.out.2.2.2.2.1
          · obtain ⟨q, hq, rfl⟩ := List.mem_map.1 hy
            exact hall q hq
        obtain ⟨-, t1, t2, t3, t4⟩ := tkE_ok H2.out.2.2.2.2.1
        have hsz := HP.out.1.small
        have hll : ls.length = 2 + n.toNat := by rw [H2.out.2.2.2.2.2.1]; show (win xs p.toNat (2 + n.toNat)).length = _; exact win_length _ _ _ (by omega)
        have hkw : Keeps (fun _ => False) w wr := H2.out.1.trans hk fun _ _ e => e
        have HRd := hread_any 2 n.toNat Gs cs ls wr (H2.out.2.1.kept hk (fun _ _ e => e)) hll H2.out.2.2.1 (.inl rfl) (by omega) (by omega)
        rw [← H2.out.2.2.2.2.2.2] at HRd
        have HRd : Hid (Calls _ _ _ _ _) := HRd
        have H3 : Hid (Keeps (fun _ => False) w wr ∧ SegW wr (some ⟨Gs, 0, none⟩) ls ∧ w.heap.size ≤ Gs ∧ (laE xs (boxes p n ports) = if formB xs (boxes p n ports) then 0 else 191) ∧ (∀ q ∈ ports, 0 ≤ q ∧ q + (3 + n) ≤ xs.length) ∧ (0 ≤ p ∧ p + (2 + n) ≤ xs.length) ∧ ls.length = 2 + n.toNat ∧ ls = wn xs ⟨p, 2, n⟩) := by
          refine ⟨hkw, H2.out.2.1.kept hk (fun _ _ e => e), H2.out.2.2.2.1, laE_form hbx, fun q hq => ?_, ⟨t3, by simpa using t4⟩, hll, H2.out.2.2.2.2.2.1⟩
          obtain ⟨-, _, _, u3, u4⟩ := tkE_ok (hall q hq)
          exact ⟨u3, by simpa using u4⟩
        have HAp : Hid (∀ W, Keeps (fun _ => False) w W → Calls Try.prog 52 #[.int .i64 p, .int .i64 n, .slice a j c] W fun e w' => e = .returned (.bool (apB p n ports)) ∧ Keeps (fun _ => False) W w') := fun W kk => by
          have := apart_any p n a c ports W (HP.out.2.1.kept kk (fun _ _ e => e)) (by have := HP.out.2.2.2.1; omega) ⟨t3, by omega⟩ HP.out.2.2.2.2.2.1 (fun q hq => by obtain ⟨-, _, _, u3, u4⟩ := tkE_ok (hall q hq); exact ⟨u3, by omega⟩)
          rw [← HP.out.2.2.2.1.1] at this
          exact this
        clear hall hbx t1 t2 t3 t4 hsz hll hkw hk htk hj hlt H2
        go_wp2_with fail
        refine HRd.out.mono ?_
        rintro e w4 ⟨T, F, va, vk, vc, rfl, hv, hk4⟩
        have hB4 := Blk.new w4 #[.bool T, .bool F, .slice va vk vc] 83
        obtain ⟨W5, hW5⟩ : ∃ W5, W5 = w4.alloc (.cells #[.bool T, .bool F, .slice va vk vc] 83) := ⟨_, rfl⟩
        obtain ⟨Hb, hHb⟩ : ∃ Hb, Hb = w4.heap.size := ⟨_, rfl⟩
        rw [← hW5, ← hHb] at hB4
        have H4 : Hid (W5 = w4.alloc (.cells #[.bool T, .bool F, .slice va vk vc] 83) ∧ Hb = w4.heap.size ∧ Keeps (fun _ => False) w W5 ∧ Blk W5 Hb [.bool T, .bool F, .slice va vk vc] 83 ∧ SegW W5 (some ⟨Gs, 0, none⟩) ls ∧ g < Hb) := by
          have q1 := (H3.out.1.trans hk4 fun _ _ e => e).alloc (.cells #[.bool T, .bool F, .slice va vk vc] 83)
          have q2 := ((H3.out.2.1.kept hk4 (fun _ _ e => e)).kept ((Keeps.refl (fun _ => False) w4).alloc (.cells #[.bool T, .bool F, .slice va vk vc] 83)) (fun _ _ e => e))
          rw [← hW5] at q1 q2
          have q3 := (H3.out.1.trans hk4 fun _ _ e => e).size
          have q4 := HP.out.1.ltg
          exact ⟨hW5, hHb, q1, hB4, q2, by omega⟩
        cases hr : rightB 2 n.toNat ls
        · have HE : Hid (laE xs (boxes p n ports) = 191) := by
            show laE xs (boxes p n ports) = 191
            rw [H3.out.2.2.2.1]
            cases hf : formB xs (boxes p n ports)
            · rfl
            · have := ((form_iff xs p n ports).1 hf).1
              unfold rtB at this
              rw [← H3.out.2.2.2.2.2.2.2] at this
              have h8 : rightB 2 n.toNat ls = true := this
              rw [hr] at h8; cases h8
          have HKw : Hid (Keeps (fun _ => False) w (w4.alloc (.cells #[.bool T, .bool F, .slice va vk vc] 83))) := by rw [← H4.out.1]; exact H4.out.2.2.1
          clear hr hv hk4 hB4 hW5 hHb HRd
          go_wp2
          go_ret
          exact HF.out 191 _ HE.out (by omega) HKw.out
        · obtain ⟨rfl, rfl, hvv⟩ := hv hr
          have HAp5 : Hid (Calls _ _ _ _ _) := HAp.out W5 H4.out.2.2.1
          have HRt : Hid (rightB 2 n.toNat ls = true ∧ .slice va vk vc = hV 2 ls Gs cs) := ⟨hr, hvv⟩
          obtain ⟨ts, hts⟩ : ∃ t, t = hT ls := ⟨_, rfl⟩
          obtain ⟨fs, hfs⟩ : ∃ t, t = hF 2 ls := ⟨_, rfl⟩
          rw [← hts, ← hfs] at H4
          rw [← hts, ← hfs]
          have HTs : Hid (ts = hT ls) := hts
          clear hr hv hk4 hB4 hW5 hHb HRd hvv hts hfs
          go_wp2_with fail
          rw [← H4.out.1, ← H4.out.2.1]
          refine HAp5.out.mono ?_
          rintro e w6 ⟨rfl, hk6⟩
          have H6 : Hid (Keeps (fun _ => False) w w6 ∧ Blk w6 Hb [.bool ts, .bool fs, .slice va vk vc] 83 ∧ SegW w6 (some ⟨Gs, 0, none⟩) ls ∧ Hb ≠ g ∧ Gs ≠ g) := by
            have q4 := HP.out.1.ltg
            have q5 := H3.out.2.2.1
            have q6 := H4.out.2.2.2.2.2
            exact ⟨H4.out.2.2.1.trans hk6 (fun _ _ e => e), H4.out.2.2.2.1.kept hk6 (fun e => e), H4.out.2.2.2.2.1.kept hk6 (fun _ _ e => e), by omega, by omega⟩
          cases hap : apB p n ports
          · have HE : Hid (laE xs (boxes p n ports) = 191) := by
              show laE xs (boxes p n ports) = 191
              rw [H3.out.2.2.2.1]
              cases hf : formB xs (boxes p n ports)
              · rfl
              · have := ((form_iff xs p n ports).1 hf).2.1
                rw [hap] at this; cases this
            clear hap hk6 HAp5 HAp
            go_wp2
            go_ret
            exact HF.out 191 _ HE.out (by omega) H6.out.1
          · obtain ⟨cells0, hcl, hmk⟩ := run_make_helds (w := w6) j (by have := HP.out.2.2.2.1; omega)
            obtain ⟨Ob, hOb⟩ : ∃ Ob, Ob = w6.heap.size := ⟨_, rfl⟩
            obtain ⟨W7, hW7⟩ : ∃ W7, W7 = w6.alloc (.cells cells0.toArray 83) := ⟨_, rfl⟩
            rw [← hW7, ← hOb] at hmk
            have HM : Hid (_ = _) := hmk
            have hObg : Ob ≠ g := by have := HP.out.1.ltg; have := H6.out.1.size; omega
            have H7 : Hid (Keeps (fun _ => False) w6 W7 ∧ Olds W7 g Ob xs n ports 0 ∧ Ob = w6.heap.size) := by
              have hB7 : Blk W7 Ob cells0 83 := by rw [hW7, hOb]; exact Blk.new w6 _ 83
              exact ⟨by rw [hW7]; exact (Keeps.refl _ w6).alloc _, ⟨hObg, cells0, hB7, by rw [hcl, HP.out.2.2.2.1.1], fun i hi => by omega⟩, hOb⟩
            have HAP : Hid (apB p n ports = true) := hap
            have HTk : Hid (∀ W (i : Nat) (hi : i < ports.length), Keeps (fun _ => False) w W → Calls Try.prog 48 #[.pointer (some ⟨b, 0, none⟩), .int .i64 (ports[i]'hi), .int .i64 M3] W (TkR W (pl xs n ports i))) := fun W i hi kk => by
              have hq := List.getElem_mem hi
              have hb5 := H3.out.2.2.2.2.1 _ hq
              have hb6 := HP.out.2.2.2.2.1 _ hq
              have ht0 : tkE false xs.length (ports[i]'hi) 3 n = 0 := by rw [tkE_fit HP.out.2.2.2.2.2.1.1 HP.out.2.2.2.2.2.1.2, if_pos ⟨hb5.1, by have := hb5.2; omega⟩]
              have e9 : pl xs n ports i = wn xs (bxq n (ports[i]'hi)) := by unfold pl; rw [List.getD_eq_getElem?_getD, List.getElem?_eq_getElem hi]; rfl
              rw [e9]
              refine (HTq.out W _ (HP.out.1.grown kk) hb6.1 hb6.2).mono ?_
              rintro e w' (⟨-, h⟩ | ⟨h, -⟩)
              · exact h
              · rw [ht0] at h; cases h
            have hpll : ∀ i, (hi : i < ports.length) → (pl xs n ports i).length = 3 + n.toNat := fun i hi => by
              have hq := List.getElem_mem hi
              have hb5 := H3.out.2.2.2.2.1 _ hq
              have e9 : pl xs n ports i = wn xs (bxq n (ports[i]'hi)) := by unfold pl; rw [List.getD_eq_getElem?_getD, List.getElem?_eq_getElem hi]; rfl
              rw [e9]
              show (win xs (ports[i]'hi).toNat (3 + n.toNat)).length = _
              exact win_length _ _ _ (by have := HP.out.2.2.2.2.2.1; omega)
            have HPl : Hid (∀ i, (hi : i < ports.length) → (pl xs n ports i).length = 3 + n.toNat) := hpll
            clear hap hk6 HAp5 HAp hmk hcl hW7 hOb hObg hpll HTq
            go_wp2_with (at_make; refine wpList_make_run rfl _ _ 88 rfl (.int .i64 j) (.int .i64 j) (.slice (some ⟨Ob, 0, none⟩) j j) W7 rfl rfl HM.out ?_; refine Hid.out ?_)
            unfold Hid
            clear HM
            go_wp2
            go_loopw [87] (fun i wr => ∃ k : Nat, k ≤ j ∧ i = .int .i64 k ∧ Keeps (fun _ => False) w6 wr ∧ Olds wr g Ob xs n ports k ∧ ∀ i, i < k → rightB 3 n.toNat (pl xs n ports i) = true) (fun i _ => j - (intOf i).toNat)
            case atStart => exact ⟨0, by omega, rfl, H7.out.1, H7.out.2.1, fun i hi => by omega⟩
            case round =>
              obtain ⟨k, hkj, rfl, hk7, hOl, hrt⟩ := hrel
              by_cases hlk : k < j
              · have hlk' : (k : Int) < j := by omega
                have hkp : k < ports.length := by have := HP.out.2.2.2.1; omega
                have hkw : Keeps (fun _ => False) w wr := H6.out.1.trans hk7 fun _ _ e => e
                rcases HP.out.2.1.kept hkw (fun _ _ e => e) with h0 | ⟨gp, op, rfl, hcp⟩
                · rw [h0] at hkp; simp at hkp
                have cq := hcp k hkp
                have HT8 := HTk.out wr k hkp hkw
                obtain ⟨q, hqq⟩ : ∃ q, q = ports[k]'hkp := ⟨_, rfl⟩
                rw [← hqq] at cq HT8
                obtain ⟨l, hl⟩ : ∃ l, l = pl xs n ports k := ⟨_, rfl⟩
                have hll := HPl.out k hkp
                rw [← hl] at HT8 hll
                unfold TkR at HT8
                obtain ⟨L8, hL8⟩ : ∃ L, L = l.length := ⟨_, rfl⟩
                rw [← hL8] at HT8
                have HT8 : Hid (Calls _ _ _ _ _) := HT8
                have H8 : Hid (Keeps (fun _ => False) w6 wr ∧ Olds wr g Ob xs n ports k ∧ (∀ i, i < k → rightB 3 n.toNat (pl xs n ports i) = true) ∧ k < ports.length ∧ l = pl xs n ports k ∧ l.length = 3 + n.toNat ∧ L8 = l.length) := ⟨hk7, hOl, hrt, hkp, hl, hll, hL8⟩
                clear hkj hk7 hOl hrt hkp hkw hcp hqq hl hll hL8
                go_wp2_with fail
                refine HT8.out.mono ?_
                rintro e w8 ⟨G, cG, hG, rfl, hGc, hGB, hk8⟩
                have HRd := hread_any 3 n.toNat G cG l w8 hGB H8.out.2.2.2.2.2.1 (by rw [← H8.out.2.2.2.2.2.2]; exact hGc) (.inr rfl) (by have := HP.out.2.2.2.2.2.1; omega) (by have := HP.out.2.2.2.2.2.1; omega)
                rw [← H8.out.2.2.2.2.2.2] at HRd
                have HRd : Hid (Calls _ _ _ _ _) := HRd
                have H9 : Hid (Keeps (fun _ => False) wr w8 ∧ SegW w8 (some ⟨G, 0, none⟩) l ∧ wr.heap.size ≤ G) := ⟨hk8, hGB, hG⟩
                clear hG hGc hGB hk8 HT8 cq
                go_wp2_with fail
                refine HRd.out.mono ?_
                rintro e w9 ⟨T, F, va, vk, vc, rfl, hv, hk9⟩
                have HK9 : Hid (Keeps (fun _ => False) wr w9 ∧ SegW w9 (some ⟨G, 0, none⟩) l) := ⟨H9.out.1.trans hk9 (fun _ _ e => e), H9.out.2.1.kept hk9 (fun _ _ e => e)⟩
                cases hr : rightB 3 n.toNat l
                · have HE : Hid (laE xs (boxes p n ports) = 191) := by
                    show laE xs (boxes p n ports) = 191
                    rw [H3.out.2.2.2.1]
                    cases hf : formB xs (boxes p n ports)
                    · rfl
                    · have := ((form_iff xs p n ports).1 hf).2.2 k H8.out.2.2.2.1
                      unfold rtB at this
                      have h8 : rightB 3 n.toNat (pl xs n ports k) = true := this
                      rw [← H8.out.2.2.2.2.1, hr] at h8; cases h8
                  have HKw : Hid (Keeps (fun _ => False) w (w9.alloc (.cells #[.bool T, .bool F, .slice va vk vc] 83))) := ((H6.out.1.trans H8.out.1 fun _ _ e => e).trans HK9.out.1 fun _ _ e => e).alloc _
                  clear hr hv hk9 HRd
                  go_wp2
                  go_ret
                  exact HF.out 191 _ HE.out (by omega) HKw.out
                · obtain ⟨rfl, rfl, hvv⟩ := hv hr
                  obtain ⟨Wa, hWa⟩ : ∃ Wa, Wa = w9.alloc (.cells #[.bool (hT l), .bool (hF 3 l), .slice va vk vc] 83) := ⟨_, rfl⟩
                  have hBa := Blk.new w9 #[.bool (hT l), .bool (hF 3 l), .slice va vk vc] 83
                  obtain ⟨Ba, hBaa⟩ : ∃ Ba, Ba = w9.heap.size := ⟨_, rfl⟩
                  rw [← hWa, ← hBaa] at hBa
                  have hka : Keeps (fun _ => False) wr Wa := by rw [hWa]; exact HK9.out.1.alloc _
                  have hOa := H8.out.2.1.kept (keeps_g hka)
                  have hsa : SegW Wa (some ⟨G, 0, none⟩) l := HK9.out.2.kept (by rw [hWa]; exact (Keeps.refl (fun _ => False) w9).alloc _) (fun _ _ e => e)
                  have hGO : G ≠ Ob ∧ G ≠ g := by
                    obtain ⟨cells, q1, _⟩ := H8.out.2.1.row
                    have := q1.lt
                    have := H9.out.2.2
                    have := HP.out.1.ltg
                    have := H6.out.1.size
                    have := H8.out.1.size
                    exact ⟨by omega, by omega⟩
                  have hput := hOa.put H8.out.2.2.2.1 (G := G) (c := cG) (va := va) (vk := vk) (vc := vc) (by rw [← H8.out.2.2.2.2.1]; exact hvv) (by rw [← H8.out.2.2.2.2.1]; exact hsa) hGO.2 hGO.1
                  rw [← H8.out.2.2.2.2.1] at hput
                  obtain ⟨⟨v0, x0⟩, z0⟩ := hOa.cells H8.out.2.2.2.1 0 (by omega)
                  obtain ⟨⟨v1, x1⟩, z1⟩ := hOa.cells H8.out.2.2.2.1 1 (by omega)
                  obtain ⟨⟨v2, x2⟩, z2⟩ := hOa.cells H8.out.2.2.2.1 2 (by omega)
                  rw [Nat.add_zero] at x0 z0
                  have a0 := hBa.cell (i := 0) rfl
                  have a1 := hBa.cell (i := 1) rfl
                  have a2 := hBa.cell (i := 2) rfl
                  have HRt2 : Hid (∀ i, i < k + 1 → rightB 3 n.toNat (pl xs n ports i) = true) := fun i hi => by
                    by_cases e : i = k
                    · rw [e, ← H8.out.2.2.2.2.1]; exact hr
                    · exact H8.out.2.2.1 i (by omega)
                  obtain ⟨tl, htl⟩ : ∃ t, t = hT l := ⟨_, rfl⟩
                  obtain ⟨fl, hfl⟩ : ∃ t, t = hF 3 l := ⟨_, rfl⟩
                  rw [← htl, ← hfl] at hput hWa
                  rw [← htl] at a0
                  rw [← hfl] at a1
                  rw [← htl, ← hfl]
                  have HPut : Hid (Olds _ _ _ _ _ _ _) := hput
                  have HKa : Hid (Keeps (fun _ => False) wr Wa ∧ Wa = w9.alloc (.cells #[.bool tl, .bool fl, .slice va vk vc] 83) ∧ Ba = w9.heap.size ∧ w6.heap.size ≤ Ob) := ⟨hka, hWa, hBaa, by rw [H7.out.2.2]; exact Nat.le_refl _⟩
                  clear hr hv hk9 HRd hvv hWa hBa hBaa hka hOa hsa hGO hput htl hfl HT8
                  have x0' : (w9.alloc (.cells #[.bool tl, .bool fl, .slice va vk vc] 83)).cell? ⟨Ob, k * 3, none⟩ = some v0 := by rw [← HKa.out.2.1]; exact x0
                  have x1' : (w9.alloc (.cells #[.bool tl, .bool fl, .slice va vk vc] 83)).cell? ⟨Ob, k * 3 + 1, none⟩ = some v1 := by rw [← HKa.out.2.1]; exact x1
                  have x2' : (w9.alloc (.cells #[.bool tl, .bool fl, .slice va vk vc] 83)).cell? ⟨Ob, k * 3 + 2, none⟩ = some v2 := by rw [← HKa.out.2.1]; exact x2
                  have z0' : (w9.alloc (.cells #[.bool tl, .bool fl, .slice va vk vc] 83)).frozen? ⟨Ob, k * 3, none⟩ = false := by rw [← HKa.out.2.1]; exact z0
                  have z1' : (w9.alloc (.cells #[.bool tl, .bool fl, .slice va vk vc] 83)).frozen? ⟨Ob, k * 3 + 1, none⟩ = false := by rw [← HKa.out.2.1]; exact z1
                  have z2' : (w9.alloc (.cells #[.bool tl, .bool fl, .slice va vk vc] 83)).frozen? ⟨Ob, k * 3 + 2, none⟩ = false := by rw [← HKa.out.2.1]; exact z2
                  go_wp2
                  rw [← HKa.out.2.1]
                  go_roundw
                  case rel =>
                    refine ⟨k + 1, by omega, by go_num, ?_, HPut.out, HRt2.out⟩
                    exact (((H8.out.1.trans HKa.out.1 fun _ _ e => e).setCell _ _ fun hh => by have := HKa.out.2.2.2; have : Ob < w6.heap.size := hh; omega).setCell _ _ fun hh => by have := HKa.out.2.2.2; have : Ob < w6.heap.size := hh; omega).setCell _ _ fun hh => by have := HKa.out.2.2.2; have : Ob < w6.heap.size := hh; omega
                  case measure => simp [intOf]; omega
              · obtain rfl : k = j := by omega
                have hfm : formB xs (boxes p n ports) = true := by
                  refine (form_iff xs p n ports).2 ⟨?_, HAP.out, fun i hi => ?_⟩
                  · unfold rtB
                    show rightB 2 n.toNat (wn xs ⟨p, 2, n⟩) = true
                    rw [← H3.out.2.2.2.2.2.2.2]; exact HRt.out.1
                  · exact hrt i (by have := HP.out.2.2.2.1; omega)
                have hla : laE xs (boxes p n ports) = 0 := by rw [H3.out.2.2.2.1, hfm]; rfl
                have hdl : dlE false xs p n ports = 0 := by rw [HP.out.2.2.2.2.2.2]; exact hla
                have HNx : Hid (lay (nxtX xs p n ports) p.toNat (List.replicate (2 + n.toNat) 0) = dlX false xs p n ports ∧ dlE false xs p n ports = 0 ∧ ∀ i, i < k → rightB 3 n.toNat (pl xs n ports i) = true) := ⟨nxtX_eq hdl hla, hdl, hrt⟩
                have HD0 : Hid (Rm wr b g (nxtX xs p n (ports.take 0)) ∧ Ds w wr g Hb Gs ts fs (.slice va vk vc) ls ∧ Olds wr g Ob xs n ports k) := by
                  have hkw : Keeps (fun _ => False) w wr := H6.out.1.trans hk7 fun _ _ e => e
                  exact ⟨HP.out.1.grown hkw, ⟨keeps_g hkw, H6.out.2.1.kept hk7 (fun e => e), H6.out.2.2.1.kept hk7 (fun _ _ e => e), H6.out.2.2.2.1, H6.out.2.2.2.2⟩, hOl⟩
                clear hfm hla hdl hk7 hOl hrt hkj hlk HTk
                go_wp2
                go_loopw [115] (fun i wr => ∃ m : Nat, m ≤ k ∧ i = .int .i64 m ∧ Rm wr b g (nxtX xs p n (ports.take m)) ∧ (nxtX xs p n (ports.take m)).length = xs.length ∧ Ds w wr g Hb Gs ts fs (.slice va vk vc) ls ∧ Olds wr g Ob xs n ports k) (fun i _ => k - (intOf i).toNat)
                case atStart => exact ⟨0, by omega, rfl, HD0.out.1, rfl, HD0.out.2.1, HD0.out.2.2⟩
                case round =>
                  clear HD0
                  obtain ⟨m, hmk, rfl, hR, hlen, hD, hOl⟩ := hrel
                  by_cases hlm : m < k
                  · have hlm' : (m : Int) < k := by omega
                    have hmp' : m < ports.length := by have := HP.out.2.2.2.1; omega
                    rcases HP.out.2.1.kept hD.k HP.out.2.2.1 with h0 | ⟨gp, op, rfl, hcp⟩
                    · rw [h0] at hmp'; simp at hmp'
                    have cq := hcp m hmp'
                    have hgpg : ¬ gp = g := HP.out.2.2.1 _ rfl
                    have hqb := H3.out.2.2.2.2.1 _ (List.getElem_mem hmp')
                    obtain ⟨q, hqq⟩ : ∃ q, q = ports[m]'hmp' := ⟨_, rfl⟩
                    rw [← hqq] at cq hqb
                    have hqg : ports.getD m 0 = q := by rw [hqq, List.getD_eq_getElem?_getD, List.getElem?_eq_getElem hmp']; rfl
                    have hrm := HNx.out.2.2 m hlm
                    obtain ⟨cells, r1, r2, r3⟩ := hOl.row
                    obtain ⟨G2, cG2, va2, vk2, vc2, o1, o2, o3, o4, o5, o6, o7⟩ := r3 m hlm
                    have x0 := r1.cell o1
                    have x1 := r1.cell o2
                    have x2 := r1.cell o3
                    have hsnoc : nxtX xs p n (ports.take (m + 1)) = lay (nxtX xs p n (ports.take m)) q.toNat (nxt xs p n q) := by
                      unfold nxtX
                      rw [List.take_add_one, List.getElem?_eq_getElem hmp', List.foldl_append, hqq]; rfl
                    have hnl : (nxt xs p n q).length = 3 + n.toNat := by
                      have e8 : wn xs (bxq n q) = pl xs n ports m := by show _ = wn xs (bxq n (ports.getD m 0)); rw [hqg]
                      exact nxt_length HP.out.2.2.2.2.2.1.1 (by rw [e8]; exact HPl.out m hmp') (by unfold rtB; show rightB 3 n.toNat (wn xs (bxq n q)) = true; rw [e8]; exact hrm) (by rw [← H3.out.2.2.2.2.2.2.2]; exact H3.out.2.2.2.2.2.2.1) (by unfold rtB; show rightB 2 n.toNat (wn xs ⟨p, 2, n⟩) = true; rw [← H3.out.2.2.2.2.2.2.2]; exact HRt.out.1)
                    have hlen2 : (nxtX xs p n (ports.take (m + 1))).length = xs.length := by
                      rw [hsnoc, lay_length _ _ _ (by rw [hnl, hlen]; have := hqb.2; have := hqb.1; have := HP.out.2.2.2.2.2.1; omega)]; exact hlen
                    have d0 := hD.hb.cell (i := 0) rfl
                    have d2 := hD.hb.cell (i := 2) rfl
                    obtain ⟨l, hl⟩ : ∃ l, l = pl xs n ports m := ⟨_, rfl⟩
                    obtain ⟨tl, htl⟩ : ∃ t, t = hT l := ⟨_, rfl⟩
                    rw [← hl] at x0 x1
                    rw [← htl] at x0
                    obtain ⟨fl, hfl⟩ : ∃ t, t = hF 3 l := ⟨_, rfl⟩
                    rw [← hfl] at x1
                    have hw0 : wd ls 0 = wd xs p.toNat := by rw [H3.out.2.2.2.2.2.2.2]; show wd (win xs p.toNat (2 + n.toNat)) 0 = _; rw [win_wd _ _ _ _ (by omega), Nat.add_zero]
                    clear hmk hcp hqq o1 o2 o3 o6 o7 r1 r2 r3 cells hfl
                    by_cases hz : wd xs p.toNat = 0
                    · have hts9 : ts = false := by rw [HTs.out]; unfold hT; rw [hw0, hz]; rfl
                      clear hw0
                      obtain ⟨W8, hW8⟩ : ∃ W8, W8 = wr.alloc (.cells #[.bool tl, .bool false, .slice va2 vk2 vc2] 83) := ⟨_, rfl⟩
                      have hB8 := Blk.new wr #[.bool tl, .bool false, .slice va2 vk2 vc2] 83
                      obtain ⟨Nb, hNb⟩ : ∃ Nb, Nb = wr.heap.size := ⟨_, rfl⟩
                      rw [← hW8, ← hNb] at hB8
                      have hk8 : Keeps (fun _ => False) wr W8 := by rw [hW8]; exact (Keeps.refl _ wr).alloc _
                      have hNbg : ¬ Nb = g := by have := hR.ltg; omega
                      have hsg : vk2 = (hM 3 l).length ∧ SegW wr va2 (hM 3 l) ∧ (hM 3 l).length ≤ n.toNat ∧ (tl = true → 1 ≤ (hM 3 l).length) ∧ (va2 = none ∨ va2 = some ⟨G2, 3, none⟩) := by
                        have := hV_seg o5 (HPl.out m hmp') hrm o4
                        rw [← hl, ← htl] at this
                        exact this
                      have hnx : nxt xs p n q = hdW 3 n.toNat tl false (hM 3 l) := by
                        unfold nxt
                        rw [if_pos hz]
                        have e8 : wn xs (bxq n q) = l := by rw [hl]; show _ = wn xs (bxq n (ports.getD m 0)); rw [hqg]
                        rw [e8, htl]
                      obtain ⟨s1, s2, s3, s4, s5⟩ := hsg
                      have hwd : ∀ W, Keeps (fun _ => False) W8 W → Calls Try.prog 51 #[hldv tl false (.slice va2 vk2 vc2), .int .i64 3, .int .i64 n] W fun e w' => ∃ Gf, W.heap.size ≤ Gf ∧ e = .returned (.slice (some ⟨Gf, 0, none⟩) (nxt xs p n q).length (nxt xs p n q).length) ∧ Blk w' Gf (wvs (nxt xs p n q)) 34 ∧ Keeps (fun _ => False) W8 w' := by
                        intro W kk
                        have := hwords_any 3 n.toNat tl false va2 vc2 (hM 3 l) W ((s2.kept hk8 (fun _ _ e => e)).kept kk (fun _ _ e => e)) (.inr rfl) (fun e => s4 e) s3 (by have := HP.out.2.2.2.2.2.1; omega)
                        rw [← s1, show ((n.toNat : Nat) : Int) = n by have := HP.out.2.2.2.2.2.1; omega, ← hnx] at this
                        exact this.mono fun e w' ⟨Gf, q1, q2, q3, q4⟩ => ⟨Gf, q1, q2, q3, kk.trans q4 fun _ _ e => e⟩
                      have hly : ∀ W Gf, Keeps (fun _ => False) W8 W → W8.heap.size ≤ Gf → Blk W Gf (wvs (nxt xs p n q)) 34 → Calls Try.prog 50 #[.pointer (some ⟨b, 0, none⟩), .int .i64 q, .slice (some ⟨Gf, 0, none⟩) (nxt xs p n q).length (nxt xs p n q).length] W fun e w' => e = .returned (.int .i64 0) ∧ Rm w' b g (nxtX xs p n (ports.take (m + 1))) ∧ Keeps (· = g) W8 w' := by
                        intro W Gf kk hGf hB
                        have := rlay_in b g (nxtX xs p n (ports.take m)) q.toNat (some ⟨Gf, 0, none⟩) (nxt xs p n q).length (nxt xs p n q) W ((hR.grown hk8).grown kk) (segW_of_blk hB) (fun x e => by cases e; have := (hR.grown hk8).ltg; show Gf ≠ g; omega) (by rw [hnl]; have := HP.out.2.2.2.2.2.1; omega) (by rw [hnl, hlen]; have := hqb.2; have := hqb.1; have := HP.out.2.2.2.2.2.1; omega)
                        rw [show ((q.toNat : Nat) : Int) = q by have := hqb.1; omega, ← hsnoc] at this
                        exact this.mono fun e w' ⟨q1, q2, q3⟩ => ⟨q1, q2, (keeps_g kk).trans q3 fun _ _ e => e⟩
                      obtain ⟨nx, hnxx⟩ : ∃ nx, nx = nxt xs p n q := ⟨_, rfl⟩
                      rw [← hnxx] at hwd hly
                      obtain ⟨Q, hQ⟩ : ∃ Q, Q = nx.length := ⟨_, rfl⟩
                      rw [← hQ] at hwd hly
                      have HWd : Hid (∀ W, Keeps (fun _ => False) W8 W → Calls Try.prog 51 #[hldv tl false (.slice va2 vk2 vc2), .int .i64 3, .int .i64 n] W fun e w' => ∃ Gf, W.heap.size ≤ Gf ∧ e = .returned (.slice (some ⟨Gf, 0, none⟩) Q Q) ∧ Blk w' Gf (wvs nx) 34 ∧ Keeps (fun _ => False) W8 w') := hwd
                      have HLy : Hid (∀ W Gf, Keeps (fun _ => False) W8 W → W8.heap.size ≤ Gf → Blk W Gf (wvs nx) 34 → Calls Try.prog 50 #[.pointer (some ⟨b, 0, none⟩), .int .i64 q, .slice (some ⟨Gf, 0, none⟩) Q Q] W fun e w' => e = .returned (.int .i64 0) ∧ Rm w' b g (nxtX xs p n (ports.take (m + 1))) ∧ Keeps (· = g) W8 w') := hly
                      have cq8 := cell_kept cq hk8 fun e => e
                      have hS : W8.cell? ⟨gp, op + m, none⟩ = some (.int .i64 q) ∧ W8.cell? ⟨Nb, 0, none⟩ = some (.bool tl) ∧ W8.cell? ⟨Nb, 1, none⟩ = some (.bool false) ∧ W8.cell? ⟨Nb, 2, none⟩ = some (.slice va2 vk2 vc2) := ⟨cq8, hB8.cell rfl, hB8.cell rfl, hB8.cell rfl⟩
                      have HBx : Hid (∀ W', Keeps (· = g) W8 W' → W'.cell? ⟨gp, op + m, none⟩ = some (.int .i64 q) ∧ W'.cell? ⟨Nb, 0, none⟩ = some (.bool tl) ∧ W'.cell? ⟨Nb, 1, none⟩ = some (.bool false) ∧ W'.cell? ⟨Nb, 2, none⟩ = some (.slice va2 vk2 vc2)) := fun W' kk => ⟨cell_kept cq8 kk hgpg, (hB8.kept kk hNbg).cell rfl, (hB8.kept kk hNbg).cell rfl, (hB8.kept kk hNbg).cell rfl⟩
                      have HX : Hid (W8 = wr.alloc (.cells #[.bool tl, .bool false, .slice va2 vk2 vc2] 83) ∧ Nb = wr.heap.size ∧ Keeps (fun _ => False) wr W8 ∧ Ds w wr g Hb Gs ts fs (.slice va vk vc) ls ∧ Olds wr g Ob xs n ports k ∧ (nxtX xs p n (ports.take (m + 1))).length = xs.length) := ⟨hW8, hNb, hk8, hD, hOl, hlen2⟩
                      rw [hts9] at d0
                      have d0' := cell_kept d0 ((Keeps.refl (fun _ => False) wr).alloc (.cells #[.bool tl, .bool false, .slice va2 vk2 vc2] 83)) fun e => e
                      have d2' := cell_kept d2 ((Keeps.refl (fun _ => False) wr).alloc (.cells #[.bool tl, .bool false, .slice va2 vk2 vc2] 83)) fun e => e
                      clear d0 d2
                      clear hR hlen hD hOl hrm hsnoc hnl hlen2 hqb hl htl hqg o4 o5 hW8 hB8 hNb hk8 hNbg s1 s2 s3 s4 s5 hnx hnxx hQ hwd hly hgpg cq8 hmp' hz hts9
                      go_wp2
                      rw [← HX.out.1, ← HX.out.2.1]
                      go_region_held3 (fun w' => w'.cell? ⟨gp, op + m, none⟩ = some (.int .i64 q) ∧ w'.cell? ⟨Nb, 0, none⟩ = some (.bool tl) ∧ w'.cell? ⟨Nb, 1, none⟩ = some (.bool false) ∧ w'.cell? ⟨Nb, 2, none⟩ = some (.slice va2 vk2 vc2)) (first | exact hS2 | exact hS1 | exact hS | go_keep)
                        (first | (go_at_call 51; refine (HWd.out _ ((Keeps.refl _ W8).drewN _)).mono ?_; rintro e w10 ⟨Gf, hGf, rfl, hGB, hk10⟩; have hS1 := HBx.out w10 (keeps_g hk10)) | (go_at_call 50; refine (HLy.out w10 Gf hk10 hGf hGB).mono ?_; rintro e w11 ⟨rfl, hM11, hk11⟩; have hS2 := HBx.out w11 hk11))
                      have HY : Hid (Rm w11 b g (nxtX xs p n (ports.take (m + 1))) ∧ Ds w w11 g Hb Gs ts fs (.slice va vk vc) ls ∧ Olds w11 g Ob xs n ports k) := by
                        have q := (keeps_g (g := g) HX.out.2.2.1).trans hk11 fun _ _ e => e
                        exact ⟨hM11, HX.out.2.2.2.1.kept q, HX.out.2.2.2.2.1.kept q⟩
                      clear hM11 hk11 hk10 hGB hGf hS hS1 hS2 HWd HLy HBx x0 x1 x2 d0' d2' cq
                      go_wp2
                      go_roundw
                      case rel => exact ⟨m + 1, by omega, by go_num, HY.out.1, HX.out.2.2.2.2.2, HY.out.2.1, HY.out.2.2⟩
                      case measure => simp [intOf]; omega

                    · have hts9 : ts = true := by rw [HTs.out]; unfold hT; rw [hw0]; exact decide_eq_true hz
                      clear hw0
                      obtain ⟨W8, hW8⟩ : ∃ W8, W8 = wr.alloc (.cells #[.bool true, .bool true, .slice va vk vc] 83) := ⟨_, rfl⟩
                      have hB8 := Blk.new wr #[.bool true, .bool true, .slice va vk vc] 83
                      obtain ⟨Nb, hNb⟩ : ∃ Nb, Nb = wr.heap.size := ⟨_, rfl⟩
                      rw [← hW8, ← hNb] at hB8
                      have hk8 : Keeps (fun _ => False) wr W8 := by rw [hW8]; exact (Keeps.refl _ wr).alloc _
                      have hNbg : ¬ Nb = g := by have := hR.ltg; omega
                      have hsg : vk = (hM 2 ls).length ∧ SegW wr va (hM 2 ls) ∧ (hM 2 ls).length ≤ n.toNat ∧ (hT ls = true → 1 ≤ (hM 2 ls).length) ∧ (va = none ∨ va = some ⟨Gs, 2, none⟩) := hV_seg hD.sg H3.out.2.2.2.2.2.2.1 HRt.out.1 HRt.out.2
                      have hnx : nxt xs p n q = hdW 3 n.toNat true true (hM 2 ls) := by
                        unfold nxt
                        rw [if_neg hz, ← H3.out.2.2.2.2.2.2.2]
                      obtain ⟨s1, s2, s3, s4, s5⟩ := hsg
                      have hwd : ∀ W, Keeps (fun _ => False) W8 W → Calls Try.prog 51 #[hldv true true (.slice va vk vc), .int .i64 3, .int .i64 n] W fun e w' => ∃ Gf, W.heap.size ≤ Gf ∧ e = .returned (.slice (some ⟨Gf, 0, none⟩) (nxt xs p n q).length (nxt xs p n q).length) ∧ Blk w' Gf (wvs (nxt xs p n q)) 34 ∧ Keeps (fun _ => False) W8 w' := by
                        intro W kk
                        have := hwords_any 3 n.toNat true true va vc (hM 2 ls) W ((s2.kept hk8 (fun _ _ e => e)).kept kk (fun _ _ e => e)) (.inr rfl) (fun _ => s4 (by rw [← HTs.out, hts9])) s3 (by have := HP.out.2.2.2.2.2.1; omega)
                        rw [← s1, show ((n.toNat : Nat) : Int) = n by have := HP.out.2.2.2.2.2.1; omega, ← hnx] at this
                        exact this.mono fun e w' ⟨Gf, q1, q2, q3, q4⟩ => ⟨Gf, q1, q2, q3, kk.trans q4 fun _ _ e => e⟩
                      have hly : ∀ W Gf, Keeps (fun _ => False) W8 W → W8.heap.size ≤ Gf → Blk W Gf (wvs (nxt xs p n q)) 34 → Calls Try.prog 50 #[.pointer (some ⟨b, 0, none⟩), .int .i64 q, .slice (some ⟨Gf, 0, none⟩) (nxt xs p n q).length (nxt xs p n q).length] W fun e w' => e = .returned (.int .i64 0) ∧ Rm w' b g (nxtX xs p n (ports.take (m + 1))) ∧ Keeps (· = g) W8 w' := by
                        intro W Gf kk hGf hB
                        have := rlay_in b g (nxtX xs p n (ports.take m)) q.toNat (some ⟨Gf, 0, none⟩) (nxt xs p n q).length (nxt xs p n q) W ((hR.grown hk8).grown kk) (segW_of_blk hB) (fun x e => by cases e; have := (hR.grown hk8).ltg; show Gf ≠ g; omega) (by rw [hnl]; have := HP.out.2.2.2.2.2.1; omega) (by rw [hnl, hlen]; have := hqb.2; have := hqb.1; have := HP.out.2.2.2.2.2.1; omega)
                        rw [show ((q.toNat : Nat) : Int) = q by have := hqb.1; omega, ← hsnoc] at this
                        exact this.mono fun e w' ⟨q1, q2, q3⟩ => ⟨q1, q2, (keeps_g kk).trans q3 fun _ _ e => e⟩
                      obtain ⟨nx, hnxx⟩ : ∃ nx, nx = nxt xs p n q := ⟨_, rfl⟩
                      rw [← hnxx] at hwd hly
                      obtain ⟨Q, hQ⟩ : ∃ Q, Q = nx.length := ⟨_, rfl⟩
                      rw [← hQ] at hwd hly
                      have HWd : Hid (∀ W, Keeps (fun _ => False) W8 W → Calls Try.prog 51 #[hldv true true (.slice va vk vc), .int .i64 3, .int .i64 n] W fun e w' => ∃ Gf, W.heap.size ≤ Gf ∧ e = .returned (.slice (some ⟨Gf, 0, none⟩) Q Q) ∧ Blk w' Gf (wvs nx) 34 ∧ Keeps (fun _ => False) W8 w') := hwd
                      have HLy : Hid (∀ W Gf, Keeps (fun _ => False) W8 W → W8.heap.size ≤ Gf → Blk W Gf (wvs nx) 34 → Calls Try.prog 50 #[.pointer (some ⟨b, 0, none⟩), .int .i64 q, .slice (some ⟨Gf, 0, none⟩) Q Q] W fun e w' => e = .returned (.int .i64 0) ∧ Rm w' b g (nxtX xs p n (ports.take (m + 1))) ∧ Keeps (· = g) W8 w') := hly
                      have cq8 := cell_kept cq hk8 fun e => e
                      have hS : W8.cell? ⟨gp, op + m, none⟩ = some (.int .i64 q) ∧ W8.cell? ⟨Nb, 0, none⟩ = some (.bool true) ∧ W8.cell? ⟨Nb, 1, none⟩ = some (.bool true) ∧ W8.cell? ⟨Nb, 2, none⟩ = some (.slice va vk vc) := ⟨cq8, hB8.cell rfl, hB8.cell rfl, hB8.cell rfl⟩
                      have HBx : Hid (∀ W', Keeps (· = g) W8 W' → W'.cell? ⟨gp, op + m, none⟩ = some (.int .i64 q) ∧ W'.cell? ⟨Nb, 0, none⟩ = some (.bool true) ∧ W'.cell? ⟨Nb, 1, none⟩ = some (.bool true) ∧ W'.cell? ⟨Nb, 2, none⟩ = some (.slice va vk vc)) := fun W' kk => ⟨cell_kept cq8 kk hgpg, (hB8.kept kk hNbg).cell rfl, (hB8.kept kk hNbg).cell rfl, (hB8.kept kk hNbg).cell rfl⟩
                      have HX : Hid (W8 = wr.alloc (.cells #[.bool true, .bool true, .slice va vk vc] 83) ∧ Nb = wr.heap.size ∧ Keeps (fun _ => False) wr W8 ∧ Ds w wr g Hb Gs ts fs (.slice va vk vc) ls ∧ Olds wr g Ob xs n ports k ∧ (nxtX xs p n (ports.take (m + 1))).length = xs.length) := ⟨hW8, hNb, hk8, hD, hOl, hlen2⟩
                      rw [hts9] at d0
                      have d0' := cell_kept d0 ((Keeps.refl (fun _ => False) wr).alloc (.cells #[.bool tl, .bool false, .slice va2 vk2 vc2] 83)) fun e => e
                      have d2' := cell_kept d2 ((Keeps.refl (fun _ => False) wr).alloc (.cells #[.bool tl, .bool false, .slice va2 vk2 vc2] 83)) fun e => e
                      clear d0 d2
                      clear hR hlen hD hOl hrm hsnoc hnl hlen2 hqb hl htl hqg o4 o5 hW8 hB8 hNb hk8 hNbg s1 s2 s3 s4 s5 hnx hnxx hQ hwd hly hgpg cq8 hmp' hz hts9
                      go_wp2
                      rw [← HX.out.1, ← HX.out.2.1]
                      go_region_held3 (fun w' => w'.cell? ⟨gp, op + m, none⟩ = some (.int .i64 q) ∧ w'.cell? ⟨Nb, 0, none⟩ = some (.bool true) ∧ w'.cell? ⟨Nb, 1, none⟩ = some (.bool true) ∧ w'.cell? ⟨Nb, 2, none⟩ = some (.slice va vk vc)) (first | exact hS2 | exact hS1 | exact hS | go_keep)
                        (first | (go_at_call 51; refine (HWd.out _ ((Keeps.refl _ W8).drewN _)).mono ?_; rintro e w10 ⟨Gf, hGf, rfl, hGB, hk10⟩; have hS1 := HBx.out w10 (keeps_g hk10)) | (go_at_call 50; refine (HLy.out w10 Gf hk10 hGf hGB).mono ?_; rintro e w11 ⟨rfl, hM11, hk11⟩; have hS2 := HBx.out w11 hk11))
                      have HY : Hid (Rm w11 b g (nxtX xs p n (ports.take (m + 1))) ∧ Ds w w11 g Hb Gs ts fs (.slice va vk vc) ls ∧ Olds w11 g Ob xs n ports k) := by
                        have q := (keeps_g (g := g) HX.out.2.2.1).trans hk11 fun _ _ e => e
                        exact ⟨hM11, HX.out.2.2.2.1.kept q, HX.out.2.2.2.2.1.kept q⟩
                      clear hM11 hk11 hk10 hGB hGf hS hS1 hS2 HWd HLy HBx x0 x1 x2 d0' d2' cq
                      go_wp2
                      go_roundw
                      case rel => exact ⟨m + 1, by omega, by go_num, HY.out.1, HX.out.2.2.2.2.2, HY.out.2.1, HY.out.2.2⟩
                      case measure => simp [intOf]; omega

                  · obtain rfl : m = k := by omega
                    rw [List.take_of_length_le (by have := HP.out.2.2.2.1; omega)] at hR hlen
                    have hwd : ∀ W, Keeps (fun _ => False) wr W → Calls Try.prog 51 #[hldv false false (.slice none 0 0), .int .i64 2, .int .i64 n] W fun e w' => ∃ Gf, W.heap.size ≤ Gf ∧ e = .returned (.slice (some ⟨Gf, 0, none⟩) (2 + n.toNat) (2 + n.toNat)) ∧ Blk w' Gf (wvs (List.replicate (2 + n.toNat) 0)) 34 ∧ Keeps (fun _ => False) wr w' := by
                      intro W kk
                      have := words_none 2 n.toNat false (.slice none 0 0) W (.inl rfl) (by have := HP.out.2.2.2.2.2.1; omega)
                      unfold WdP at this
                      rw [List.length_replicate, show ((n.toNat : Nat) : Int) = n by have := HP.out.2.2.2.2.2.1; omega] at this
                      exact this.mono fun e w' ⟨Gf, q1, q2, q3, q4⟩ => ⟨Gf, q1, q2, q3, kk.trans q4 fun _ _ e => e⟩
                    have hly : ∀ W Gf, Keeps (fun _ => False) wr W → wr.heap.size ≤ Gf → Blk W Gf (wvs (List.replicate (2 + n.toNat) 0)) 34 → Calls Try.prog 50 #[.pointer (some ⟨b, 0, none⟩), .int .i64 p, .slice (some ⟨Gf, 0, none⟩) (2 + n.toNat) (2 + n.toNat)] W fun e w' => e = .returned (.int .i64 0) ∧ Rm w' b g (dlX false xs p n ports) ∧ Keeps (· = g) w w' := by
                      intro W Gf kk hGf hB
                      have hpb := H3.out.2.2.2.2.2.1
                      have hn9 := HP.out.2.2.2.2.2.1
                      have := rlay_in b g (nxtX xs p n ports) p.toNat (some ⟨Gf, 0, none⟩) (2 + n.toNat) (List.replicate (2 + n.toNat) 0) W (hR.grown kk) (segW_of_blk hB) (fun x e => by cases e; have := hR.ltg; show Gf ≠ g; omega) (by rw [List.length_replicate]; omega) (by rw [List.length_replicate, hlen]; omega)
                      rw [List.length_replicate, show ((p.toNat : Nat) : Int) = p by omega, HNx.out.1] at this
                      exact this.mono fun e w' ⟨q1, q2, q3⟩ => ⟨q1, q2, (hD.k.trans (keeps_g kk) fun _ _ e => e).trans q3 fun _ _ e => e⟩
                    obtain ⟨Q, hQ⟩ : ∃ Q, Q = 2 + n.toNat := ⟨_, rfl⟩
                    rw [← hQ] at hwd hly
                    have HWd : Hid (∀ W, Keeps (fun _ => False) wr W → Calls Try.prog 51 #[hldv false false (.slice none 0 0), .int .i64 2, .int .i64 n] W fun e w' => ∃ Gf, W.heap.size ≤ Gf ∧ e = .returned (.slice (some ⟨Gf, 0, none⟩) Q Q) ∧ Blk w' Gf (wvs (List.replicate Q 0)) 34 ∧ Keeps (fun _ => False) wr w') := hwd
                    have HLy : Hid (∀ W Gf, Keeps (fun _ => False) wr W → wr.heap.size ≤ Gf → Blk W Gf (wvs (List.replicate Q 0)) 34 → Calls Try.prog 50 #[.pointer (some ⟨b, 0, none⟩), .int .i64 p, .slice (some ⟨Gf, 0, none⟩) Q Q] W fun e w' => e = .returned (.int .i64 0) ∧ Rm w' b g (dlX false xs p n ports) ∧ Keeps (· = g) w w') := hly
                    clear hR hlen hD hOl hwd hly hQ hmk hlm
                    go_wp2_with fail
                    refine (HWd.out _ (Keeps.refl _ _)).mono ?_
                    rintro e w10 ⟨Gf, hGf, rfl, hGB, hk10⟩
                    have HL10 : Hid (Calls _ _ _ _ _) := HLy.out w10 Gf hk10 hGf hGB
                    clear hGf hGB hk10 HWd HLy
                    go_wp2_with fail
                    refine HL10.out.mono ?_
                    rintro e w11 ⟨rfl, hM11, hk11⟩
                    have HY : Hid (Rm w11 b g (dlX false xs p n ports) ∧ Keeps (· = g) w w11) := ⟨hM11, hk11⟩
                    clear hM11 hk11 HL10
                    go_wp2
                    go_ret
                    exact ⟨by rw [HNx.out.2.1]; rfl, HY.out⟩
  · obtain rfl := hw.symm
    have HE : Hid (laE xs (boxes p n ports) = 51) := by
      show laE xs (boxes p n ports) = 51
      have ht : takesE xs.length (boxes p n ports) = 51 := by
        unfold boxes takesE
        have : Bx.tk ⟨p, 2, n⟩ xs.length = 51 := hE
        rw [this, if_pos (by omega)]
      unfold laE
      rw [ht, if_pos (by omega)]
    clear hw hE HT
    go_wp2
    go_ret
    exact HF.out 51 _ HE.out (by omega) (Keeps.refl _ _)

theorem rdeliver_any (nil : Bool) (b g : Nat) (xs : List UInt32) (p n : Int) (a : Option Addr) (c : Nat) (ports : List Int) (w : World) (hm : Rm w b g xs) (hs : SegI w a ports) (hpn : ports ≠ [] → ∀ x, a = some x → x.block ≠ g) (hp1 : -9223372036854775808 ≤ p) (hp2 : p ≤ 9223372036854775807) (hps : ∀ q ∈ ports, -9223372036854775808 ≤ q ∧ q ≤ 9223372036854775807) :
    Calls Try.prog 31 #[mpv nil b, .int .i64 p, .int .i64 n, .slice a ports.length c] w (PutR w b g (dlE nil xs p n ports) (dlX nil xs p n ports)) := by
  by_cases h0 : sdE nil n = 0
  · obtain ⟨rfl, h1, h2⟩ := sdE_ok h0
    by_cases hc : ports.length < 1 ∨ 4 < ports.length
    · refine (rdl_arg b p n a ports.length c w h1 h2 hc).mono ?_
      rintro e w' ⟨rfl, rfl⟩
      have e1 : dlE false xs p n ports = 1 := by unfold dlE; rw [if_neg (by simp), if_pos hc]
      refine ⟨by rw [e1], ?_, Keeps.refl _ _⟩
      unfold dlX
      rw [e1, if_neg (by omega)]
      exact hm
    · exact rdl_in b g xs p n a c ports w hm hs (hpn fun e => by rw [e] at hc; simp at hc) (by omega) (by omega) hp1 hp2 hps h1 h2
  · refine (rdl_stand nil b p n _ w h0).mono ?_
    rintro e w' ⟨rfl, rfl⟩
    have e1 := dlE_sd (xs := xs) (p := p) (ports := ports) h0
    refine ⟨by rw [e1], ?_, Keeps.refl _ _⟩
    unfold dlX
    rw [e1, if_neg h0]
    exact hm

end Go.Proofs.Ytfcgpjojjehkiaa
