import Derived.Test.YtfbapgcopidbpaaGreatVo
namespace Go.Proofs.YtfbapgcopidbpaaGreat
open Go.RowKit Go.Shelf
open Mq (SegW wvs wvs_length wvs_get run_make_words run_copy_wb segW_of_blk Mm lay)
set_option linter.unusedVariables false
set_option maxRecDepth 8000
set_option linter.unusedSimpArgs false

theorem fds_nil (w : World) (N : Nat) : FdsIn w N none 0 [] := ⟨.inl rfl, fun h => absurd rfl h, ⟨Nat.le_refl _, Nat.zero_le _⟩, fun f hf => by cases hf⟩
theorem seg_one {w : World} {B : Nat} {p : Int} (hb : Blk w B [.int .i64 p] 3) : SegI w (some ⟨B, 0, none⟩) [p] := by
  refine .inr ⟨B, 0, rfl, fun j q hj i v hv => ?_⟩
  cases j with
  | zero =>
    simp at hj
    subst hj
    cases i with
    | zero => simp at hv; subst hv; exact hb.cell rfl
    | succ i => simp at hv
  | succ j => simp at hj
def HeP (w : World) (e : Ending) (w' : World) : Prop := e = .returned (.bool true) ∧ Keeps (fun _ => False) w w'
set_option maxHeartbeats 8000000 in
theorem hears_any (x : Cfg) (p : Int) (a : Option Addr) (c : Nat) (os : List Int) (t : Nat) (w : World) (N : Nat) (hi : x.In w N) (hN : N ≤ w.heap.size) (hs : SegI w a os) (hlo : os ≠ [] → ∀ y, a = some y → y.block < w.heap.size) (hc : os.length ≤ c ∧ c ≤ maxLen) (ht : t < 256) :
    Calls Tryz.prog 4 #[x.v, .int .i64 p, .slice a os.length c, .int .u8 (t : Int)] w (HeP w) := by
  obtain ⟨W, hW⟩ : ∃ W, W = x.laid w := ⟨_, rfl⟩
  obtain ⟨C, hC⟩ : ∃ C, C = w.heap.size := ⟨_, rfl⟩
  have hO : One w x C N W := by rw [hW, hC]; exact One.mk' hi hN
  have HO : Hid (One w x C N W) := hO
  have HV : Hid (Calls Tryz.prog 14 #[x.v] W (VsP W)) := vast_any x W N hO.cin hO.nn
  obtain ⟨L, hL⟩ : ∃ L, os.length = L := ⟨_, rfl⟩
  obtain ⟨PL, hPL⟩ : ∃ L, x.ps.length = L := ⟨_, rfl⟩
  have HS : Hid (SegI w a os ∧ (os ≠ [] → ∀ y, a = some y → y.block < w.heap.size) ∧ os.length = L ∧ x.ps.length = PL ∧ C = w.heap.size) := ⟨hs, hlo, hL, hPL, hC⟩
  rw [hL] at hc ⊢
  have hc1 : (L : Int) ≤ c := by omega
  have hc3 : (c : Int) ≤ 9223372036854775807 := by unfold maxLen at hc; omega
  obtain ⟨q0, q1, q2, q3, q4, q5, q6⟩ := HO.out.cells
  unfold Cfg.laid at hW
  clear hi hN hs hlo hL hPL hO hc
  go_enter Tryz.func4, Tryz.ntmps4
  go_upto_region 1 with fail
  rw [← hW, ← hC]
  clear hW hC
  go_wp2_with fail
  refine HV.out.mono ?_
  rintro e w1 ⟨h, hK1⟩
  have HO1 : Hid (One w x C N w1) := HO.out.kept hK1
  clear q0 q1 q2 q3 q4 q5 q6 hK1 HV
  rcases h with rfl | rfl
  · go_wp2
    go_ret
    exact ⟨rfl, HO1.out.keeps⟩
  have HC : Hid (Calls Tryz.prog 15 #[x.v, .slice none 0 0] w1 (NewP x [] w1)) := new_any x [] none 0 w1 N HO1.out.cin HO1.out.nn (fds_nil _ _)
  obtain ⟨q0, q1, q2, q3, q4, q5, q6⟩ := HO1.out.cells
  go_wp2_with fail
  refine HC.out.mono ?_
  rintro e w2 ⟨hK2, h⟩
  have HO2 : Hid (One w x C N w2) := HO1.out.kept hK2
  clear q0 q1 q2 q3 q4 q5 q6 HC
  have HA : Hid (∀ v, Calls Tryz.prog 13 #[] v (AwP v)) := fun v => awake_any v
  rcases h with ⟨h, _⟩ | ⟨_, h, rfl⟩ | ⟨_, _, h, _⟩ | ⟨_, hgd, _, d, E, m, l, R, rfl, hD⟩
  · simp at h
  · clear h hK2
    go_wp2_with fail
    refine (HA.out w2).mono ?_
    rintro e w3 ⟨rfl, hK3⟩
    have HK3 : Hid (Keeps (fun _ => False) w2 w3) := hK3
    clear hK3
    go_wp2
    go_ret
    exact ⟨rfl, HO2.out.keeps.trans HK3.out fun _ _ h => h⟩
  · exact absurd (show MayF x [] from ⟨fun f hf => (by cases hf), List.nodup_nil⟩) h
  have HD : Hid (Dv w2 d w1.heap.size x [] E m l R ∧ Gd x) := ⟨hD, hgd⟩
  obtain ⟨q0, q1, q2, q3, q4, q5, q6⟩ := HO2.out.cells
  rw [HS.out.2.2.2.1] at q5
  clear hD hgd hK2 q1 q2 q3 q4 q6
  by_cases hp0 : p < 0
  · go_wp2_with fail
    refine (HA.out w2).mono ?_
    rintro e w3 ⟨rfl, hK3⟩
    have HK3 : Hid (Keeps (fun _ => False) w2 w3) := hK3
    clear hK3
    go_wp2
    go_ret
    exact ⟨rfl, HO2.out.keeps.trans HK3.out fun _ _ h => h⟩
  by_cases hp1 : (PL : Int) ≤ p
  · go_wp2_with fail
    refine (HA.out w2).mono ?_
    rintro e w3 ⟨rfl, hK3⟩
    have HK3 : Hid (Keeps (fun _ => False) w2 w3) := hK3
    clear hK3
    go_wp2
    go_ret
    exact ⟨rfl, HO2.out.keeps.trans HK3.out fun _ _ h => h⟩
  obtain ⟨i, rfl⟩ : ∃ i : Nat, p = i := ⟨p.toNat, by omega⟩
  obtain ⟨fr, hfr⟩ : ∃ fr : Nat, x.frames = fr := ⟨x.frames.toNat, by have := HD.out.2.frames; omega⟩
  have hfb : 1 ≤ fr ∧ fr ≤ 1024 := by have := HD.out.2.frames; omega
  obtain ⟨G, hG⟩ : ∃ G, G = w2.heap.size := ⟨_, rfl⟩
  have HC : Hid (Calls Tryz.prog 6 #[.int .i64 (fr : Int)] w2 fun e w' => e = .returned (.tuple #[.pointer (some ⟨G + 1, 0, none⟩), .int .i64 0]) ∧ Mm w' (G + 1) G (List.replicate (fr * 16) 0) ∧ Keeps (fun _ => False) w2 w') := by
    have := Mq.new_in fr w2 hfb.1 hfb.2
    rw [← hG] at this
    exact this
  have HF : Hid (x.frames = fr ∧ G = w2.heap.size ∧ (i : Int) < PL) := ⟨hfr, hG, by omega⟩
  rw [hfr] at q0
  clear hfb hG hfr
  have hpl : (i : Int) < PL := by omega
  have hp2 : ¬ (i : Int) < 0 := by omega
  clear hp0
  go_wp2_with fail
  refine HC.out.mono ?_
  rintro e W4 ⟨rfl, hm4, hK4⟩
  have HM : Hid (Hm w x C N d E m w1.heap.size l R (G + 1) G a os W4 ∧ Mm W4 (G + 1) G (List.replicate (fr * 16) 0)) := by
    have hD4 := HD.out.1.kept hK4
    have h1 := HD.out.1.dev.lt
    have h2 := HD.out.1.eb.lt
    have h3 := HO2.out.cfg.lt
    have h4 := HO2.out.keeps.size
    have h5 := HF.out.2.1
    refine ⟨⟨HO2.out.kept hK4, hD4.dev, hD4.eb, hD4.ears, HD.out.2, ?_, HS.out.2.1, ⟨by omega, by omega, by omega, by omega⟩⟩, hm4⟩
    exact SegA.kept HS.out.1 (HO2.out.keeps.trans hK4 fun _ _ h => h) fun _ _ _ h => h
  clear hm4 hK4 HC q0 q5
  obtain ⟨P, hP⟩ : ∃ P, x.ps[i]? = some P := ⟨_, List.getElem?_eq_getElem (by have := HF.out.2.2; have := HS.out.2.2.2.1; omega)⟩
  obtain ⟨nm, en, ac, re, ip, O, ra, rc, rs, pp, pq, ps⟩ := P
  have HP : Hid (x.ps[i]? = some ⟨nm, en, ac, re, ip, O, ra, rc, rs, pp, pq, ps⟩ ∧ outs x i = O ∧ i < x.ps.length ∧ inP x (i : Int) = true) := by
    have h1 := HF.out.2.2
    have h2 := HS.out.2.2.2.1
    refine ⟨hP, by unfold outs; rw [hP], by omega, ?_⟩
    unfold inP
    rw [h2]
    simp
    omega
  clear hP
  have HWR : Hid (∀ wr, Keeps (· = G) W4 wr → Hm w x C N d E m w1.heap.size l R (G + 1) G a os wr) := fun wr hK => HM.out.1.kept hK
  obtain ⟨T, hT⟩ : ∃ T : Nat, t % 64 = T := ⟨_, rfl⟩
  have hT1 : ((t : Int).tmod 64) = T := by rw [Int.tmod_eq_emod_of_nonneg (by omega)]; omega
  have hT2 : (T : Int) % 256 = T := by omega
  have hT3 : IntKind.i64.wrap (T : Int) = T := by rw [IntKind.wrap_i64]; omega
  have HT : Hid (T < 64) := by show T < 64; omega
  clear hT
  go_wp2
  go_loopw [13] (fun k wr => ∃ n : Nat, n ≤ 2 ∧ k = .int .i64 n ∧ Keeps (· = G) W4 wr ∧ ∃ xs, Mm wr (G + 1) G xs ∧ (xs.length : Int) = 16 * x.frames) (fun k _ => 2 - (intOf k).toNat)
  case atStart => exact ⟨0, by omega, rfl, Keeps.refl _ _, _, HM.out.2, by have := HF.out.1; simp; omega⟩
  case round =>
    obtain ⟨k, hk, rfl, hK, xs, hm, hx⟩ := hrel
    by_cases hlt : k < 2
    · have hlt' : (k : Int) < 2 := by omega
      obtain ⟨W5, hW5⟩ : ∃ W5, W5 = wr.alloc (.cells #[.int .i64 (i : Int)] 3) := ⟨_, rfl⟩
      obtain ⟨B, hB⟩ : ∃ B, B = wr.heap.size := ⟨_, rfl⟩
      have hK5 : Keeps (fun _ => False) wr W5 := by rw [hW5]; exact (Keeps.refl _ _).alloc _
      have hb : Blk W5 B [.int .i64 (i : Int)] 3 := by rw [hW5, hB]; exact Blk.new _ _ _
      have hs5 : SegI W5 (some ⟨B, 0, none⟩) [(i : Int)] := seg_one hb
      have hK45 : Keeps (· = G) W4 W5 := hK.trans (hK5.mono fun _ _ h => h.elim) fun _ _ h => h
      have h5 := HWR.out W5 hK45
      have hBG : B ≠ G := by have := HM.out.2.row.lt; have := hK.size; omega
      have hin : [(i : Int)].all (inP x) = true := by
        have h1 := HF.out.2.2
        have h2 := HS.out.2.2.2.1
        simp only [List.all_cons, List.all_nil, Bool.and_true]
        unfold inP
        rw [h2]
        simp
        omega
      have HC : Hid (Calls Tryz.prog 11 #[.pointer (some ⟨d, 0, none⟩), .pointer (some ⟨G + 1, 0, none⟩), .slice (some ⟨B, 0, none⟩) 1 1] W5 (BegP x (G + 1) G xs [(i : Int)] W5)) :=
        begins_any x d E (.map (some m)) l (G + 1) G xs (some ⟨B, 0, none⟩) 1 [(i : Int)] W5 h5.dev h5.eb h5.ears h5.gd (hm.kept hK5 (fun h => h) fun h => h) hx ⟨h5.ne.1, h5.ne.2.1⟩ hs5 (fun _ y hy => by cases hy; exact hBG) ⟨by simp, Nat.le_of_ble_eq_true rfl⟩
      have HK : Hid (Keeps (· = G) W4 W5 ∧ (xs.length : Int) = 16 * x.frames ∧ [(i : Int)].all (inP x) = true) := ⟨hK45, hx, hin⟩
      clear hK hm hx hK5 hb hs5 hK45 h5 hBG hin
      go_wp2_with fail
      rw [← hW5, ← hB]
      clear hW5 hB
      refine HC.out.mono ?_
      rintro e w6 ⟨hK6, ⟨_, rfl, hm6⟩ | ⟨h, _⟩⟩
      rotate_left
      · exact absurd h (by rw [HK.out.2.2]; decide)
      have H6 : Hid (Keeps (· = G) W4 w6 ∧ Mm w6 (G + 1) G (begX x [(i : Int)] xs) ∧ Hw x i 0 (begX x [(i : Int)] xs)) := ⟨HK.out.1.trans hK6 fun _ _ h => h, hm6, Hw.begin HD.out.2 HK.out.2.1 (by have := HF.out.2.2; have := HS.out.2.2.2.1; omega)⟩
      clear hK6 hm6 HC
      go_wp2
      go_loopw [14, 15] (fun a14 a15 wr => ∃ (n : Nat) (ok : Int), n ≤ T ∧ a15 = .int .i64 n ∧ a14 = .int .i64 ok ∧ ok = min (n : Int) O ∧ Keeps (· = G) W4 wr ∧ ∃ xs, Mm wr (G + 1) G xs ∧ Hw x i n xs) (fun _ a15 _ => T - (intOf a15).toNat)
      case atStart => exact ⟨0, 0, by omega, rfl, rfl, by have := HP.out.2.1; have := HD.out.2.outs i; omega, H6.out.1, _, H6.out.2.1, H6.out.2.2⟩
      case round =>
        obtain ⟨n, ok, hnT, rfl, rfl, hok, hKn, ys, hmn, hwn⟩ := hrel
        have HH : Hid (Keeps (· = G) W4 wr ∧ Mm wr (G + 1) G ys ∧ Hw x i n ys) := ⟨hKn, hmn, hwn⟩
        have hO16 : 0 ≤ O ∧ O ≤ 16 := by have := HP.out.2.1; have := HD.out.2.outs i; omega
        have HOK : Hid (ok = min (n : Int) O ∧ 0 ≤ O ∧ O ≤ 16) := ⟨hok, hO16⟩
        clear hKn hmn hwn hok hO16
        by_cases hnt : n < T
        · have hnt' : (n : Int) < T := by omega
          by_cases hnl : n < L
          · have hnl' : (n : Int) < L := by omega
            obtain ⟨q, hq⟩ : ∃ q, os[n]? = some q := ⟨_, List.getElem?_eq_getElem (by have := HS.out.2.2.1; omega)⟩
            obtain ⟨g2, o2, rfl, hg2⟩ := SegA.at (HWR.out wr HH.out.1).seg hq
            have y0 := hg2 0 _ rfl
            rw [Nat.mul_one, Nat.add_zero] at y0
            clear hg2 hq
            by_cases hqi : q = (i : Int)
            · subst hqi
              have HC : Hid (Calls Tryz.prog 8 #[.pointer (some ⟨d, 0, none⟩), .pointer (some ⟨G + 1, 0, none⟩), .int .i64 (i : Int)] wr (OutP x (G + 1) G ys (i : Int) wr)) :=
                output_any x d E (.map (some m)) l (G + 1) G ys (i : Int) wr (HWR.out wr HH.out.1).dev (HWR.out wr HH.out.1).eb (HWR.out wr HH.out.1).ears HD.out.2 HH.out.2.1 HH.out.2.2.len ⟨(HWR.out wr HH.out.1).ne.1, (HWR.out wr HH.out.1).ne.2.1⟩
              go_wp2_with fail
              refine HC.out.mono ?_
              rintro e w8 ⟨hK8, ⟨_, rfl, hm8⟩ | ⟨h, _⟩⟩
              rotate_left
              · exact absurd h (by rw [HP.out.2.2.2]; decide)
              rw [Int.toNat_natCast] at hm8 ⊢
              have ho8 := Hw.own HD.out.2 HH.out.2.2 HP.out.2.2.1
              have hK48 : Keeps (· = G) W4 w8 := HH.out.1.trans hK8 fun _ _ h => h
              have H8 : Hid (Keeps (· = G) W4 w8 ∧ Mm w8 (G + 1) G (hrX ys (atN x i) (outs x i)) ∧ Hw x i (n + 1) (hrX ys (atN x i) (outs x i))) := ⟨hK48, hm8, ho8.1⟩
              have hO8 := (HWR.out w8 hK48).one
              have q5 := hO8.cells.2.2.2.2.2.1
              rw [HS.out.2.2.2.1] at q5
              obtain ⟨g1, o1, ha, hc⟩ := hO8.cin.par HP.out.1
              have p5 := hc 5 _ rfl
              dsimp only at p5
              rw [ha] at q5
              rw [HP.out.2.1] at ho8
              obtain ⟨told, htold⟩ : ∃ told, told = hrT ys (atN x i) O := ⟨_, rfl⟩
              have ho9 := ho8.2
              rw [← htold] at ho9
              rw [HP.out.2.1, ← htold]
              clear htold ho8 hc ha hO8 hK48 hm8 hK8 HC
              rcases ho9 with ⟨rfl, hn0⟩ | ⟨rfl, hn0⟩
              · have ho1 : IntKind.i64.wrap (ok + 1) = ok + 1 := by have := HOK.out; rw [IntKind.wrap_i64]; omega
                have hd : decide ((n : Int) < O) = true := by simp [hn0]
                go_wp2
                go_roundw
                case rel => exact ⟨n + 1, ok + 1, by omega, by go_num, rfl, by have := HOK.out; omega, H8.out.1, _, H8.out.2.1, H8.out.2.2⟩
                case measure => simp [intOf]; omega
              · have hn1 : ¬ (n : Int) < O := by omega
                have hd : decide ((n : Int) < O) = false := by simp [hn1]
                go_wp2
                go_roundw
                case rel => exact ⟨n + 1, ok, by omega, by go_num, rfl, by have := HOK.out; omega, H8.out.1, _, H8.out.2.1, H8.out.2.2⟩
                case measure => simp [intOf]; omega
            · have HC : Hid (Calls Tryz.prog 8 #[.pointer (some ⟨d, 0, none⟩), .pointer (some ⟨G + 1, 0, none⟩), .int .i64 q] wr (OutP x (G + 1) G ys q wr)) :=
                output_any x d E (.map (some m)) l (G + 1) G ys q wr (HWR.out wr HH.out.1).dev (HWR.out wr HH.out.1).eb (HWR.out wr HH.out.1).ears HD.out.2 HH.out.2.1 HH.out.2.2.len ⟨(HWR.out wr HH.out.1).ne.1, (HWR.out wr HH.out.1).ne.2.1⟩
              have HQ : Hid (q ≠ (i : Int)) := hqi
              go_wp2_with fail
              refine HC.out.mono ?_
              rintro e w7 ⟨hK7, h7⟩
              have hex : (∃ tv : Value, e = .returned tv) ∧ ∃ zs, Mm w7 (G + 1) G zs ∧ Hw x i n zs := by
                rcases h7 with ⟨hin, he, hm7⟩ | ⟨hin, he, hm7⟩
                · refine ⟨⟨_, he⟩, _, hm7, ?_⟩
                  unfold inP at hin
                  simp only [Bool.and_eq_true, decide_eq_true_eq] at hin
                  exact Hw.other HD.out.2 HH.out.2.2 HP.out.2.2.1 (by omega) (fun e => HQ.out (by omega))
                · exact ⟨⟨_, he⟩, _, hm7, HH.out.2.2⟩
              obtain ⟨⟨tv, rfl⟩, zs, hm7, hw7⟩ := hex
              have HH7 : Hid (Keeps (· = G) W4 w7 ∧ Mm w7 (G + 1) G zs ∧ Hw x i n zs) := ⟨HH.out.1.trans hK7 fun _ _ h => h, hm7, hw7⟩
              clear hK7 h7 hm7 hw7 HC y0 hqi HH
              have HH := HH7
              clear HH7
              have HC : Hid (Calls Tryz.prog 8 #[.pointer (some ⟨d, 0, none⟩), .pointer (some ⟨G + 1, 0, none⟩), .int .i64 (i : Int)] w7 (OutP x (G + 1) G zs (i : Int) w7)) :=
                output_any x d E (.map (some m)) l (G + 1) G zs (i : Int) w7 (HWR.out w7 HH.out.1).dev (HWR.out w7 HH.out.1).eb (HWR.out w7 HH.out.1).ears HD.out.2 HH.out.2.1 HH.out.2.2.len ⟨(HWR.out w7 HH.out.1).ne.1, (HWR.out w7 HH.out.1).ne.2.1⟩
              go_wp2_with fail
              refine HC.out.mono ?_
              rintro e w8 ⟨hK8, ⟨_, rfl, hm8⟩ | ⟨h, _⟩⟩
              rotate_left
              · exact absurd h (by rw [HP.out.2.2.2]; decide)
              rw [Int.toNat_natCast] at hm8 ⊢
              have ho8 := Hw.own HD.out.2 HH.out.2.2 HP.out.2.2.1
              have hK48 : Keeps (· = G) W4 w8 := HH.out.1.trans hK8 fun _ _ h => h
              have H8 : Hid (Keeps (· = G) W4 w8 ∧ Mm w8 (G + 1) G (hrX zs (atN x i) (outs x i)) ∧ Hw x i (n + 1) (hrX zs (atN x i) (outs x i))) := ⟨hK48, hm8, ho8.1⟩
              have hO8 := (HWR.out w8 hK48).one
              have q5 := hO8.cells.2.2.2.2.2.1
              rw [HS.out.2.2.2.1] at q5
              obtain ⟨g1, o1, ha, hc⟩ := hO8.cin.par HP.out.1
              have p5 := hc 5 _ rfl
              dsimp only at p5
              rw [ha] at q5
              rw [HP.out.2.1] at ho8
              obtain ⟨told, htold⟩ : ∃ told, told = hrT zs (atN x i) O := ⟨_, rfl⟩
              have ho9 := ho8.2
              rw [← htold] at ho9
              rw [HP.out.2.1, ← htold]
              clear htold ho8 hc ha hO8 hK48 hm8 hK8 HC
              rcases ho9 with ⟨rfl, hn0⟩ | ⟨rfl, hn0⟩
              · have ho1 : IntKind.i64.wrap (ok + 1) = ok + 1 := by have := HOK.out; rw [IntKind.wrap_i64]; omega
                have hd : decide ((n : Int) < O) = true := by simp [hn0]
                go_wp2
                go_roundw
                case rel => exact ⟨n + 1, ok + 1, by omega, by go_num, rfl, by have := HOK.out; omega, H8.out.1, _, H8.out.2.1, H8.out.2.2⟩
                case measure => simp [intOf]; omega
              · have hn1 : ¬ (n : Int) < O := by omega
                have hd : decide ((n : Int) < O) = false := by simp [hn1]
                go_wp2
                go_roundw
                case rel => exact ⟨n + 1, ok, by omega, by go_num, rfl, by have := HOK.out; omega, H8.out.1, _, H8.out.2.1, H8.out.2.2⟩
                case measure => simp [intOf]; omega
          · have hnl' : ¬ (n : Int) < L := by omega
            have HC : Hid (Calls Tryz.prog 8 #[.pointer (some ⟨d, 0, none⟩), .pointer (some ⟨G + 1, 0, none⟩), .int .i64 (i : Int)] wr (OutP x (G + 1) G ys (i : Int) wr)) :=
              output_any x d E (.map (some m)) l (G + 1) G ys (i : Int) wr (HWR.out wr HH.out.1).dev (HWR.out wr HH.out.1).eb (HWR.out wr HH.out.1).ears HD.out.2 HH.out.2.1 HH.out.2.2.len ⟨(HWR.out wr HH.out.1).ne.1, (HWR.out wr HH.out.1).ne.2.1⟩
            go_wp2_with fail
            refine HC.out.mono ?_
            rintro e w8 ⟨hK8, ⟨_, rfl, hm8⟩ | ⟨h, _⟩⟩
            rotate_left
            · exact absurd h (by rw [HP.out.2.2.2]; decide)
            rw [Int.toNat_natCast] at hm8 ⊢
            have ho8 := Hw.own HD.out.2 HH.out.2.2 HP.out.2.2.1
            have hK48 : Keeps (· = G) W4 w8 := HH.out.1.trans hK8 fun _ _ h => h
            have H8 : Hid (Keeps (· = G) W4 w8 ∧ Mm w8 (G + 1) G (hrX ys (atN x i) (outs x i)) ∧ Hw x i (n + 1) (hrX ys (atN x i) (outs x i))) := ⟨hK48, hm8, ho8.1⟩
            have hO8 := (HWR.out w8 hK48).one
            have q5 := hO8.cells.2.2.2.2.2.1
            rw [HS.out.2.2.2.1] at q5
            obtain ⟨g1, o1, ha, hc⟩ := hO8.cin.par HP.out.1
            have p5 := hc 5 _ rfl
            dsimp only at p5
            rw [ha] at q5
            rw [HP.out.2.1] at ho8
            obtain ⟨told, htold⟩ : ∃ told, told = hrT ys (atN x i) O := ⟨_, rfl⟩
            have ho9 := ho8.2
            rw [← htold] at ho9
            rw [HP.out.2.1, ← htold]
            clear htold ho8 hc ha hO8 hK48 hm8 hK8 HC
            rcases ho9 with ⟨rfl, hn0⟩ | ⟨rfl, hn0⟩
            · have ho1 : IntKind.i64.wrap (ok + 1) = ok + 1 := by have := HOK.out; rw [IntKind.wrap_i64]; omega
              have hd : decide ((n : Int) < O) = true := by simp [hn0]
              go_wp2
              go_roundw
              case rel => exact ⟨n + 1, ok + 1, by omega, by go_num, rfl, by have := HOK.out; omega, H8.out.1, _, H8.out.2.1, H8.out.2.2⟩
              case measure => simp [intOf]; omega
            · have hn1 : ¬ (n : Int) < O := by omega
              have hd : decide ((n : Int) < O) = false := by simp [hn1]
              go_wp2
              go_roundw
              case rel => exact ⟨n + 1, ok, by omega, by go_num, rfl, by have := HOK.out; omega, H8.out.1, _, H8.out.2.1, H8.out.2.2⟩
              case measure => simp [intOf]; omega
        · obtain rfl : n = T := by omega
          have hO8 := (HWR.out wr HH.out.1).one
          have q5 := hO8.cells.2.2.2.2.2.1
          rw [HS.out.2.2.2.1] at q5
          obtain ⟨g1, o1, ha, hc⟩ := hO8.cin.par HP.out.1
          have p5 := hc 5 _ rfl
          dsimp only at p5
          rw [ha] at q5
          clear hc ha hO8
          have hno : ¬ O < ok := by have := HOK.out; omega
          go_wp2
          go_roundw
          case rel => exact ⟨k + 1, by omega, by go_num, HH.out.1, _, HH.out.2.1, HH.out.2.2.len⟩
          case measure => simp [intOf]; omega
    · obtain rfl : k = 2 := by omega
      have HK : Hid (Keeps (· = G) W4 wr) := hK
      clear hK hm hx
      go_wp2_with fail
      refine (HA.out wr).mono ?_
      rintro e w3 ⟨rfl, hK3⟩
      have HK3 : Hid (Keeps (fun _ => False) wr w3) := hK3
      clear hK3
      go_wp2
      go_ret
      refine ⟨rfl, ?_⟩
      refine ((HWR.out wr HK.out).one.keeps.trans HK3.out fun _ _ h => h)
end Go.Proofs.YtfbapgcopidbpaaGreat
