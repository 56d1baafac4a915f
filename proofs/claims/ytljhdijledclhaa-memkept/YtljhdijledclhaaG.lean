import Derived.Test.YtljhdijledclhaaF
import Derived.Deep.CutBlock
import Derived.Deep.CutRange
namespace Go.Proofs.Ytljhdijledclhaa
open Go.RowKit
set_option linter.unusedVariables false

structure ActD where
  k : Int
  a : Int
  b : Int
  c : Int
  x : UInt32
  ad : Option Addr
  ys : List UInt32
  cap : Nat

def i64ok (n : Int) : Prop := -9223372036854775808 ≤ n ∧ n ≤ 9223372036854775807

structure ActD.Fine (d : ActD) : Prop where
  k : i64ok d.k
  a : i64ok d.a
  b : i64ok d.b
  c : i64ok d.c
  ys : d.ys.length ≤ maxLen

structure ActAt (w : World) (B o : Nat) (d : ActD) : Prop where
  c0 : w.cell? ⟨B, o, none⟩ = some (.int .i64 d.k)
  c1 : w.cell? ⟨B, o + 1, none⟩ = some (.int .i64 d.a)
  c2 : w.cell? ⟨B, o + 2, none⟩ = some (.int .i64 d.b)
  c3 : w.cell? ⟨B, o + 3, none⟩ = some (.int .i64 d.c)
  c4 : w.cell? ⟨B, o + 4, none⟩ = some (.int .u32 (d.x.toNat : Int))
  c5 : w.cell? ⟨B, o + 5, none⟩ = some (.slice d.ad d.ys.length d.cap)
  ws : SegW w d.ad d.ys

def ActsAt (w : World) (a : Option Addr) (ds : List ActD) : Prop :=
  ds = [] ∨ ∃ B o, a = some ⟨B, o, none⟩ ∧ ∀ j, (h : j < ds.length) → ActAt w B (o + j * 6) ds[j]

theorem ActAt.kept {w w' : World} {B o : Nat} {d : ActD} (h : ActAt w B o d) (hK : Keeps (fun _ => False) w w') : ActAt w' B o d := by
  have hlt : B < w.heap.size := World.block_lt_of_cell? w ⟨B, o, none⟩ h.c0
  have e : ∀ i, w'.cell? ⟨B, i, none⟩ = w.cell? ⟨B, i, none⟩ := fun i => World.cell?_of_block (a := ⟨B, i, none⟩) (hK.block B hlt (fun e => e))
  exact ⟨(e _).trans h.c0, (e _).trans h.c1, (e _).trans h.c2, (e _).trans h.c3, (e _).trans h.c4, (e _).trans h.c5, h.ws.kept hK fun _ _ e => e⟩

theorem same_get {zs xs : List UInt32} (h : zs = xs) (m : Nat) (h1 : m < zs.length) (h2 : m < xs.length) : zs[m] = xs[m] := by subst h; rfl

set_option maxRecDepth 20000 in
set_option maxHeartbeats 8000000 in
theorem kept_main (fr : Int) (ad : Option Addr) (cap : Nat) (ds : List ActD) (w : World) (hx : ActsAt w ad ds) (hf : ∀ d ∈ ds, d.Fine) (hl : ds.length ≤ maxLen) (hfr : i64ok fr) :
    Calls Try.prog 4 #[.int .i64 fr, .slice ad ds.length cap] w fun e w' => e = .returned (.bool true) ∧ Keeps (fun _ => False) w w' := by
  have HP : Hid (∀ w, Calls _ _ _ w _) := fun w => pick_any fr 8 w (by omega) (by omega) hfr.1 hfr.2
  have hq : pk fr 8 < 8 := pk_lt fr 8 (by omega)
  revert HP hq
  generalize pk fr 8 = q
  intro HP hq
  obtain ⟨N, hN⟩ : ∃ N : Nat, N = 1 + q := ⟨_, rfl⟩
  have hN2 : (1 : Int) + (q : Int) = (N : Int) := by omega
  have HN : Hid (∀ w, Calls _ _ _ w _) := fun w => new_in N w (by omega) (by omega)
  have hq1 : (q : Int) < 8 := by omega
  have HNq : Hid (N = 1 + q) := hN
  have HN2 : Hid ((1 : Int) + (q : Int) = (N : Int)) := hN2
  obtain ⟨n, hn⟩ : ∃ n, n = ds.length := ⟨_, rfl⟩
  have HL : Hid (n = ds.length) := hn
  have HX : Hid (ActsAt w ad ds) := hx
  have HF : Hid (∀ d ∈ ds, d.Fine) := hf
  rw [← hn] at hl ⊢
  have hn1 : (n : Int) ≤ 9223372036854775807 := by unfold maxLen at hl; omega
  clear hN hN2 hn hx hf hl hq hfr
  go_enter Try.func4, Try.ntmps4
  go_wp2_with fail
  refine (HP.out _).mono ?_
  rintro e w1 ⟨rfl, hw⟩
  obtain rfl := hw.symm
  clear hw
  go_wp2_with fail
  rw [HN2.out]
  refine (HN.out _).mono ?_
  rintro e w1 ⟨rfl, hM, hK⟩
  obtain ⟨b, hb⟩ : ∃ b, b = w.heap.size + 1 := ⟨_, rfl⟩
  obtain ⟨g, hg⟩ : ∃ g, g = w.heap.size := ⟨_, rfl⟩
  rw [← hb, ← hg] at hM
  rw [← hb]
  have HG : Hid (w.heap.size ≤ b ∧ w.heap.size ≤ g) := ⟨by omega, by omega⟩
  have HM : Hid (Mm _ _ _ _) := hM
  have HK : Hid (Keeps _ _ _) := hK
  clear hM hK hb hg HN
  go_wp2_with fail
  refine (frames_any b g _ N w1 HM.out (by rw [List.length_replicate])).mono ?_
  rintro e w2 ⟨rfl, hw⟩
  obtain rfl := hw.symm
  clear hw
  go_wp2_with fail
  refine (HP.out _).mono ?_
  rintro e w2 ⟨rfl, hw⟩
  obtain rfl := hw.symm
  clear hw
  rw [← HN2.out]
  go_wp2
  go_loopw [7] (fun i wr => ∃ (j : Nat) (xs : List UInt32), j ≤ n ∧ i = .int .i64 j ∧ Mm wr b g xs ∧ xs.length = N * 16 ∧ Keeps (fun _ => False) w wr)
    (fun i _ => n - (intOf i).toNat)
  case atStart => exact ⟨0, _, by omega, rfl, HM.out, List.length_replicate, HK.out⟩
  case round =>
    obtain ⟨j, xs, hj, rfl, hMr, hLr, hKr⟩ := hrel
    have HM : Hid (Mm wr b g xs) := hMr
    have HKr : Hid (Keeps (fun _ => False) w wr) := hKr
    have HLr : Hid (xs.length = N * 16) := hLr
    clear HK hMr hKr hLr
    by_cases hlt : j < n
    · have hjd : j < ds.length := by have := HL.out; omega
      rcases HX.out with h0 | ⟨B, o, rfl, hcell⟩
      · exact absurd hjd (by rw [h0]; simp)
      · have HA : Hid (ActAt w B (o + j * 6) ds[j]) := hcell j hjd
        have HFd : Hid (ActD.Fine ds[j]) := HF.out _ (List.getElem_mem hjd)
        obtain ⟨d, hd⟩ : ∃ d, d = ds[j] := ⟨_, rfl⟩
        rw [← hd] at HA HFd
        clear hcell hd hjd
        obtain ⟨L, hL⟩ : ∃ L, L = xs.length := ⟨_, rfl⟩
        have HLL : Hid (L = xs.length) := hL
        go_wp2_with fail
        refine (words_any b g xs wr HM.out).mono ?_
        rintro e w2 ⟨rfl, hB2, hK2⟩
        have hM2 : Mm w2 b g xs := HM.out.kept hK2 (fun e => e) (fun e => e)
        have hKw2 : Keeps (fun _ => False) w w2 := HKr.out.trans hK2 fun _ _ e => e
        obtain ⟨g1, hg1⟩ : ∃ g1, g1 = wr.heap.size := ⟨_, rfl⟩
        have hg1' : g1 ≠ g := by have := HM.out.lt; omega
        rw [← hg1] at hB2 ⊢
        rw [← hL]
        have HW : Hid (Mm w2 b g xs ∧ Blk w2 g1 (wvs xs) 26 ∧ Keeps (fun _ => False) w w2 ∧ g1 ≠ g) := ⟨hM2, hB2, hKw2, hg1'⟩
        clear hB2 hK2 hM2 hKw2 hg1 hg1' hL
        go_wp2_with fail
        refine (clone_any b g xs w2 HW.out.1).mono ?_
        rintro e w3 ⟨b2, hb2, rfl, hM3, hK3⟩
        obtain ⟨g2, hg2⟩ : ∃ g2, g2 = w2.heap.size := ⟨_, rfl⟩
        rw [← hg2] at hM3 hb2
        have hC : b2 ≠ g ∧ g2 ≠ g := by have := HW.out.1.lt; constructor <;> omega
        have HW3 : Hid (Mm w3 b g xs ∧ Blk w3 g1 (wvs xs) 26 ∧ Keeps (fun _ => False) w w3 ∧ g1 ≠ g ∧ Mm w3 b2 g2 xs ∧ b2 ≠ g ∧ g2 ≠ g) :=
          ⟨HW.out.1.kept hK3 (fun e => e) (fun e => e), HW.out.2.1.kept hK3 (fun e => e), HW.out.2.2.1.trans hK3 (fun _ _ e => e), HW.out.2.2.2, hM3, hC.1, hC.2⟩
        clear hM3 hK3 hg2 hb2 hC HW
        have hA3 : ActAt w3 B (o + j * 6) d := HA.out.kept HW3.out.2.2.1
        have c0 := hA3.c0
        have c1 := hA3.c1
        have c2 := hA3.c2
        have c3 := hA3.c3
        have c4 := hA3.c4
        have c5 := hA3.c5
        have HSeg : Hid (SegW w3 d.ad d.ys) := hA3.ws
        clear hA3
        have HDo : Hid (Calls _ _ _ w3 _) := does_any b g xs d.k d.a d.b d.c d.x d.ad d.ys d.cap w3 HW3.out.1 HSeg.out HFd.out.k.1 HFd.out.k.2 HFd.out.a.2 HFd.out.b.2
        have HPK : Hid (∀ w, Calls _ _ _ w _) := fun w => pick_any d.k 4 w (by omega) (by omega) HFd.out.k.1 HFd.out.k.2
        unfold actV at HDo
        have HKlt : Hid (pk d.k 4 < 4) := pk_lt d.k 4 (by omega)
        go_wp2_with fail
        refine HDo.out.mono ?_
        rintro e w4 ⟨er, zs, rfl, hM4, hK4, hfate⟩
        have hz : zs.length = xs.length := by
          rcases hfate with ⟨_, hg⟩ | ⟨_, hg, _⟩
          · exact hg.len
          · rw [hg]
        obtain ⟨nn, hnn⟩ : ∃ nn, nn = actN (pk d.k 4) d.b d.c d.ys.length := ⟨_, rfl⟩
        rw [← hnn] at hfate ⊢
        revert HPK HKlt hfate
        generalize pk d.k 4 = K
        intro HPK HKlt hfate
        have HFt : Hid (_ ∨ _) := hfate
        have HZ : Hid (zs.length = L) := hz.trans HLL.out.symm
        have hKw4 : Keeps (fun _ => False) w w4 := HW3.out.2.2.1.trans hK4 fun k hk e => by have := HG.out.2; omega
        have HW4 : Hid (Mm w4 b g zs ∧ Blk w4 g1 (wvs xs) 26 ∧ Keeps (fun _ => False) w w4 ∧ Mm w4 b2 g2 xs) :=
          ⟨hM4, HW3.out.2.1.kept hK4 HW3.out.2.2.2.1, hKw4, HW3.out.2.2.2.2.1.kept hK4 HW3.out.2.2.2.2.2.1 HW3.out.2.2.2.2.2.2⟩
        clear hM4 hK4 hfate hz hnn hKw4 c0 c1 c2 c3 c4 c5 HW3 HSeg HDo
        go_wp2_with fail
        refine (words_any b g zs w4 HW4.out.1).mono ?_
        rintro e w5 ⟨rfl, hB5, hK5⟩
        obtain ⟨g3, hg3⟩ : ∃ g3, g3 = w4.heap.size := ⟨_, rfl⟩
        rw [← hg3] at hB5 ⊢
        rw [HZ.out]
        have HW5 : Hid (Mm w5 b g zs ∧ Blk w5 g1 (wvs xs) 26 ∧ Keeps (fun _ => False) w w5 ∧ Mm w5 b2 g2 xs ∧ Blk w5 g3 (wvs zs) 26) :=
          ⟨HW4.out.1.kept hK5 (fun e => e) (fun e => e), HW4.out.2.1.kept hK5 (fun e => e), HW4.out.2.2.1.trans hK5 (fun _ _ e => e), HW4.out.2.2.2.kept hK5 (fun e => e) (fun e => e), hB5⟩
        clear hB5 hK5 hg3 HW4
        have hLs : (L : Int) ≤ 16384 := by have := HW5.out.2.2.2.1.small; have := HLL.out; omega
        have hLq : ((L : Int) != 16 * (1 + (q : Int))) = false := by
          have h1 := HLL.out; have h2 := HLr.out; have h3 := HN2.out
          simp; omega
        go_upto_region 11 with fail
        go_cut [14] from 40 to 221 (fun t wx => (∃ th : Bool, t = .bool th ∧ (th = true ↔ (0 ≤ d.a ∧ 0 ≤ nn ∧ d.a + nn ≤ (L : Int)))) ∧ wx = w5)
        case first => as_aux_lemma =>
          go_wp2
          all_goals go_meet
          all_goals (
            case rel => exact ⟨⟨_, rfl, by simp <;> omega⟩, rfl⟩)
        case rest =>
          obtain ⟨⟨th, rfl, hth⟩, hwc⟩ := hcut
          obtain rfl := hwc.symm
          clear hwc
          have HTh : Hid (th = true ↔ (0 ≤ d.a ∧ 0 ≤ nn ∧ d.a + nn ≤ (L : Int))) := hth
          clear hth
          go_upto_region 12 with fail
          go_cut [103] from 40 to 221 (fun t wx => t = .bool false ∧ wx = w5)
          case first => as_aux_lemma =>
            have her : er = 51 ∨ (er = 0 ∧ th = true) := by
              rcases HFt.out with ⟨h, hg⟩ | ⟨h, _⟩
              · exact .inr ⟨h, HTh.out.2 ⟨hg.a0, hg.n0, by rw [HLL.out]; exact hg.fit⟩⟩
              · exact .inl h
            clear HFt HTh
            go_wp2_with fail
            refine (HP.out _).mono ?_
            rintro e w6 ⟨rfl, hw⟩
            obtain rfl := hw.symm
            clear hw
            rcases her with rfl | ⟨rfl, rfl⟩
            · cases th
              · go_wp2
                go_meet
                case rel => exact ⟨rfl, rfl⟩
              · go_wp2
                go_meet
                case rel => exact ⟨rfl, rfl⟩
            · go_wp2
              go_meet
              case rel => exact ⟨rfl, rfl⟩
          case rest =>
            obtain ⟨rfl, hwc⟩ := hcut
            obtain rfl := hwc.symm
            clear hwc
            go_upto_region 14 with fail
            go_cut [117] from 40 to 221 (fun t wx => t = .bool false ∧ wx = w5)
            case first => as_aux_lemma =>
              have her : er = 0 ∨ (er = 51 ∧ ¬ (K < 3 ∧ th = true)) := by
                rcases HFt.out with ⟨h, hg⟩ | ⟨h, _, hg⟩
                · exact .inl h
                · exact .inr ⟨h, fun e => hg e.1 (by have := HTh.out.1 e.2; rw [← HLL.out]; exact this)⟩
              have c0 := (HA.out.kept HW5.out.2.2.1).c0
              clear HFt HTh
              go_wp2_with fail
              refine (HPK.out _).mono ?_
              rintro e w6 ⟨rfl, hw⟩
              obtain rfl := hw.symm
              clear hw c0
              by_cases hk : (K : Int) < 3
              · rcases her with rfl | ⟨rfl, her⟩
                · cases th
                  · go_wp2
                    go_meet
                    case rel => exact ⟨rfl, rfl⟩
                  · go_wp2
                    go_meet
                    case rel => exact ⟨rfl, rfl⟩
                · obtain rfl : th = false := by
                    cases th with
                    | false => rfl
                    | true => exact absurd ⟨by omega, rfl⟩ her
                  go_wp2
                  go_meet
                  case rel => exact ⟨rfl, rfl⟩
              · clear her
                go_wp2
                go_meet
                case rel => exact ⟨rfl, rfl⟩
            case rest =>
              obtain ⟨rfl, hwc⟩ := hcut
              obtain rfl := hwc.symm
              clear hwc
              go_upto_block 2 with fail
              go_cut [15, 16, 17, 18] from 40 to 221 (fun k x y z wx => Keeps (fun _ => False) w5 wx)
              case first =>
                rcases HFt.out with ⟨rfl, hgood⟩ | ⟨rfl, hzs, hno⟩
                · have HGd : Hid (Good K d.a d.b nn d.x d.ys xs zs) := hgood
                  have g0 := hgood.a0
                  have g1' := hgood.n0
                  have g2' : d.a + nn ≤ (L : Int) := by have := hgood.fit; have := HLL.out; omega
                  clear hgood HFt HTh
                  obtain hK02 | rfl | rfl : (K = 0 ∨ K = 2) ∨ K = 1 ∨ K = 3 := by have := HKlt.out; omega
                  · as_aux_lemma =>
                      go_wp2
                      go_loopw [15] (fun i wk => ∃ m : Nat, m ≤ L ∧ i = .int .i64 m ∧ Keeps (fun _ => False) w5 wk)
                        (fun i _ => L - (intOf i).toNat)
                      case atStart => exact ⟨0, by omega, rfl, Keeps.refl _ _⟩
                      case round =>
                        obtain ⟨m, hm, rfl, hKk⟩ := hrel
                        have HKk : Hid (Keeps (fun _ => False) w5 wr) := hKk
                        clear hKk
                        by_cases hlt2 : m < L
                        · have hmx : m < xs.length := by have := HLL.out; omega
                          have hmz : m < zs.length := by have := HZ.out; omega
                          have cw := (HW5.out.2.1.kept HKk.out fun e => e).cell (wvs_get xs m hmx)
                          have cn := (HW5.out.2.2.2.2.kept HKk.out fun e => e).cell (wvs_get zs m hmz)
                          by_cases hin : d.a ≤ (m : Int) ∧ (m : Int) < d.a + nn
                          · obtain ⟨hi1, hi2⟩ := hin
                            have hmm : d.a.toNat + ((m : Int) - d.a).toNat = m := by omega
                            have hAk := HA.out.kept (HW5.out.2.2.1.trans HKk.out fun _ _ e => e)
                            have c0 := hAk.c0
                            have c2 := hAk.c2
                            have c4 := hAk.c4
                            obtain ⟨y4, hy4⟩ : ∃ y : Nat, y = d.x.toNat := ⟨_, rfl⟩
                            rw [← hy4] at c4
                            have hzx : zs[m] = d.x := by
                              have h1 := HGd.out.low hK02 ((m : Int) - d.a).toNat (by omega)
                              rw [hmm, List.getElem?_eq_getElem hmz] at h1
                              exact Option.some.inj h1
                            rw [hzx, ← hy4] at cn
                            have hk1 : ((K : Int) == 1) = false := by rcases hK02 with h | h <;> subst h <;> rfl
                            have hk3 : ((K : Int) == 3) = false := by rcases hK02 with h | h <;> subst h <;> rfl
                            clear hAk hy4 hzx hmm hmx hmz cw hK02
                            go_wp2
                            go_quiet (fail)
                            go_wp2_with fail
                            refine (HPK.out _).mono ?_
                            rintro e w6 ⟨rfl, hw⟩
                            obtain rfl := hw.symm
                            clear hw
                            go_wp2_with fail
                            refine (HPK.out _).mono ?_
                            rintro e w6 ⟨rfl, hw⟩
                            obtain rfl := hw.symm
                            clear hw
                            go_wp2_with fail
                            refine (HPK.out _).mono ?_
                            rintro e w6 ⟨rfl, hw⟩
                            obtain rfl := hw.symm
                            clear hw
                            go_wp2
                            go_roundw
                            case rel => exact ⟨m + 1, by omega, by go_num, HKk.out.drewN _⟩
                            case measure => simp [intOf]; omega
                          · have hzx : zs[m] = xs[m] := by
                              have h1 := HGd.out.out m hin
                              rw [List.getElem?_eq_getElem hmz, List.getElem?_eq_getElem hmx] at h1
                              exact Option.some.inj h1
                            rw [hzx] at cn
                            obtain ⟨y, hy⟩ : ∃ y : Nat, y = xs[m].toNat := ⟨_, rfl⟩
                            rw [← hy] at cn cw
                            clear hy hzx hmx hmz
                            by_cases hq0 : (m : Int) < d.a
                            · clear hin
                              go_wp2
                              go_quiet (fail)
                              go_wp2
                              go_roundw
                              case rel => exact ⟨m + 1, by omega, by go_num, HKk.out.drewN _⟩
                              case measure => simp [intOf]; omega
                            · have hq1 : d.a + nn ≤ (m : Int) := by omega
                              clear hin
                              go_wp2
                              go_quiet (fail)
                              go_wp2
                              go_roundw
                              case rel => exact ⟨m + 1, by omega, by go_num, HKk.out.drewN _⟩
                              case measure => simp [intOf]; omega
                        · obtain rfl : m = L := by omega
                          go_wp2
                          go_meet
                          case rel => exact HKk.out
                  · as_aux_lemma =>
                      go_wp2
                      go_loopw [15] (fun i wk => ∃ m : Nat, m ≤ L ∧ i = .int .i64 m ∧ Keeps (fun _ => False) w5 wk)
                        (fun i _ => L - (intOf i).toNat)
                      case atStart => exact ⟨0, by omega, rfl, Keeps.refl _ _⟩
                      case round =>
                        obtain ⟨m, hm, rfl, hKk⟩ := hrel
                        have HKk : Hid (Keeps (fun _ => False) w5 wr) := hKk
                        clear hKk
                        by_cases hlt2 : m < L
                        · have hmx : m < xs.length := by have := HLL.out; omega
                          have hmz : m < zs.length := by have := HZ.out; omega
                          have cw := (HW5.out.2.1.kept HKk.out fun e => e).cell (wvs_get xs m hmx)
                          have cn := (HW5.out.2.2.2.2.kept HKk.out fun e => e).cell (wvs_get zs m hmz)
                          by_cases hin : d.a ≤ (m : Int) ∧ (m : Int) < d.a + nn
                          · obtain ⟨hi1, hi2⟩ := hin
                            have hmm : d.a.toNat + ((m : Int) - d.a).toNat = m := by omega
                            have hAk := HA.out.kept (HW5.out.2.2.1.trans HKk.out fun _ _ e => e)
                            have c0 := hAk.c0
                            have c2 := hAk.c2
                            have c4 := hAk.c4
                            obtain ⟨y4, hy4⟩ : ∃ y : Nat, y = d.x.toNat := ⟨_, rfl⟩
                            rw [← hy4] at c4
                            have h1 := HGd.out.one rfl
                            have hyl : (m : Int) - d.a < (d.ys.length : Int) := by have := h1.1; omega
                            have hzx := h1.2 ((m : Int) - d.a).toNat (by omega)
                            have hylt : ((m : Int) - d.a).toNat < d.ys.length := by omega
                            rw [hmm, List.getElem?_eq_getElem hmz, List.getElem?_eq_getElem hylt] at hzx
                            replace hzx := Option.some.inj hzx
                            have c5 := hAk.c5
                            rcases hAk.ws with h0 | ⟨gg, oo, hadd, hcy⟩
                            · rw [h0] at hylt; simp at hylt
                            have cy := hcy ((m : Int) - d.a).toNat hylt
                            rw [hzx] at cn
                            rw [hadd] at c5
                            obtain ⟨y, hy⟩ : ∃ y : Nat, y = (d.ys[((m : Int) - d.a).toNat]).toNat := ⟨_, rfl⟩
                            rw [← hy] at cn cy
                            obtain ⟨yl, hyl'⟩ : ∃ yl : Nat, yl = d.ys.length := ⟨_, rfl⟩
                            rw [← hyl'] at hyl c5
                            clear hAk hy4 hzx hmm hmx hmz cw hcy hadd hy hyl' hylt h1
                            go_wp2
                            go_quiet (fail)
                            go_wp2_with fail
                            refine (HPK.out _).mono ?_
                            rintro e w6 ⟨rfl, hw⟩
                            obtain rfl := hw.symm
                            clear hw
                            go_wp2_with fail
                            refine (HPK.out _).mono ?_
                            rintro e w6 ⟨rfl, hw⟩
                            obtain rfl := hw.symm
                            clear hw
                            go_wp2_with fail
                            refine (HPK.out _).mono ?_
                            rintro e w6 ⟨rfl, hw⟩
                            obtain rfl := hw.symm
                            clear hw
                            go_wp2
                            go_roundw
                            case rel => exact ⟨m + 1, by omega, by go_num, HKk.out.drewN _⟩
                            case measure => simp [intOf]; omega
                          · have hzx : zs[m] = xs[m] := by
                              have h1 := HGd.out.out m hin
                              rw [List.getElem?_eq_getElem hmz, List.getElem?_eq_getElem hmx] at h1
                              exact Option.some.inj h1
                            rw [hzx] at cn
                            obtain ⟨y, hy⟩ : ∃ y : Nat, y = xs[m].toNat := ⟨_, rfl⟩
                            rw [← hy] at cn cw
                            clear hy hzx hmx hmz
                            by_cases hq0 : (m : Int) < d.a
                            · clear hin
                              go_wp2
                              go_quiet (fail)
                              go_wp2
                              go_roundw
                              case rel => exact ⟨m + 1, by omega, by go_num, HKk.out.drewN _⟩
                              case measure => simp [intOf]; omega
                            · have hq1 : d.a + nn ≤ (m : Int) := by omega
                              clear hin
                              go_wp2
                              go_quiet (fail)
                              go_wp2
                              go_roundw
                              case rel => exact ⟨m + 1, by omega, by go_num, HKk.out.drewN _⟩
                              case measure => simp [intOf]; omega
                        · obtain rfl : m = L := by omega
                          go_wp2
                          go_meet
                          case rel => exact HKk.out
                  · as_aux_lemma =>
                      go_wp2
                      go_loopw [15] (fun i wk => ∃ m : Nat, m ≤ L ∧ i = .int .i64 m ∧ Keeps (fun _ => False) w5 wk)
                        (fun i _ => L - (intOf i).toNat)
                      case atStart => exact ⟨0, by omega, rfl, Keeps.refl _ _⟩
                      case round =>
                        obtain ⟨m, hm, rfl, hKk⟩ := hrel
                        have HKk : Hid (Keeps (fun _ => False) w5 wr) := hKk
                        clear hKk
                        by_cases hlt2 : m < L
                        · have hmx : m < xs.length := by have := HLL.out; omega
                          have hmz : m < zs.length := by have := HZ.out; omega
                          have cw := (HW5.out.2.1.kept HKk.out fun e => e).cell (wvs_get xs m hmx)
                          have cn := (HW5.out.2.2.2.2.kept HKk.out fun e => e).cell (wvs_get zs m hmz)
                          by_cases hin : d.a ≤ (m : Int) ∧ (m : Int) < d.a + nn
                          · obtain ⟨hi1, hi2⟩ := hin
                            have hmm : d.a.toNat + ((m : Int) - d.a).toNat = m := by omega
                            have hAk := HA.out.kept (HW5.out.2.2.1.trans HKk.out fun _ _ e => e)
                            have c0 := hAk.c0
                            have c2 := hAk.c2
                            have c4 := hAk.c4
                            obtain ⟨y4, hy4⟩ : ∃ y : Nat, y = d.x.toNat := ⟨_, rfl⟩
                            rw [← hy4] at c4
                            have h1 := HGd.out.thr rfl
                            have t0 := h1.1
                            have t1 : d.b + nn ≤ (L : Int) := by have := h1.2.1; have := HLL.out; omega
                            have hfl : (d.b + (m : Int) - d.a).toNat < xs.length := by have := HLL.out; omega
                            have hzx := h1.2.2 ((m : Int) - d.a).toNat (by omega)
                            rw [hmm, List.getElem?_eq_getElem hmz, show d.b.toNat + ((m : Int) - d.a).toNat = (d.b + (m : Int) - d.a).toNat by omega, List.getElem?_eq_getElem hfl] at hzx
                            replace hzx := Option.some.inj hzx
                            have cy := (HW5.out.2.1.kept HKk.out fun e => e).cell (wvs_get xs _ hfl)
                            rw [hzx] at cn
                            obtain ⟨y, hy⟩ : ∃ y : Nat, y = (xs[(d.b + (m : Int) - d.a).toNat]).toNat := ⟨_, rfl⟩
                            rw [← hy] at cn cy
                            clear hAk hy4 hzx hmm hmx hmz cw hy hfl h1
                            go_wp2
                            go_quiet (fail)
                            go_wp2_with fail
                            refine (HPK.out _).mono ?_
                            rintro e w6 ⟨rfl, hw⟩
                            obtain rfl := hw.symm
                            clear hw
                            go_wp2_with fail
                            refine (HPK.out _).mono ?_
                            rintro e w6 ⟨rfl, hw⟩
                            obtain rfl := hw.symm
                            clear hw
                            go_wp2_with fail
                            refine (HPK.out _).mono ?_
                            rintro e w6 ⟨rfl, hw⟩
                            obtain rfl := hw.symm
                            clear hw
                            go_wp2
                            go_roundw
                            case rel => exact ⟨m + 1, by omega, by go_num, HKk.out.drewN _⟩
                            case measure => simp [intOf]; omega
                          · have hzx : zs[m] = xs[m] := by
                              have h1 := HGd.out.out m hin
                              rw [List.getElem?_eq_getElem hmz, List.getElem?_eq_getElem hmx] at h1
                              exact Option.some.inj h1
                            rw [hzx] at cn
                            obtain ⟨y, hy⟩ : ∃ y : Nat, y = xs[m].toNat := ⟨_, rfl⟩
                            rw [← hy] at cn cw
                            clear hy hzx hmx hmz
                            by_cases hq0 : (m : Int) < d.a
                            · clear hin
                              go_wp2
                              go_quiet (fail)
                              go_wp2
                              go_roundw
                              case rel => exact ⟨m + 1, by omega, by go_num, HKk.out.drewN _⟩
                              case measure => simp [intOf]; omega
                            · have hq1 : d.a + nn ≤ (m : Int) := by omega
                              clear hin
                              go_wp2
                              go_quiet (fail)
                              go_wp2
                              go_roundw
                              case rel => exact ⟨m + 1, by omega, by go_num, HKk.out.drewN _⟩
                              case measure => simp [intOf]; omega
                        · obtain rfl : m = L := by omega
                          go_wp2
                          go_meet
                          case rel => exact HKk.out
                · have HZS : Hid (zs = xs) := hzs
                  clear hno hzs HFt HTh
                  as_aux_lemma =>
                    go_wp2
                    go_loopw [15] (fun i wk => ∃ m : Nat, m ≤ L ∧ i = .int .i64 m ∧ Keeps (fun _ => False) w5 wk)
                      (fun i _ => L - (intOf i).toNat)
                    case atStart => exact ⟨0, by omega, rfl, Keeps.refl _ _⟩
                    case round =>
                      obtain ⟨m, hm, rfl, hKk⟩ := hrel
                      have HKk : Hid (Keeps (fun _ => False) w5 wr) := hKk
                      clear hKk
                      by_cases hlt2 : m < L
                      · have hmx : m < xs.length := by have := HLL.out; omega
                        have hmz : m < zs.length := by have := HZ.out; omega
                        have cw := (HW5.out.2.1.kept HKk.out fun e => e).cell (wvs_get xs m hmx)
                        have cn := (HW5.out.2.2.2.2.kept HKk.out fun e => e).cell (wvs_get zs m hmz)
                        have hzx : zs[m] = xs[m] := same_get HZS.out m hmz hmx
                        rw [hzx] at cn
                        obtain ⟨y, hy⟩ : ∃ y : Nat, y = xs[m].toNat := ⟨_, rfl⟩
                        rw [← hy] at cn cw
                        clear hy hzx hmx hmz
                        go_wp2
                        go_quiet (fail)
                        go_wp2
                        go_roundw
                        case rel => exact ⟨m + 1, by omega, by go_num, HKk.out.drewN _⟩
                        case measure => simp [intOf]; omega
                      · obtain rfl : m = L := by omega
                        go_wp2
                        go_meet
                        case rel => exact HKk.out
              case rest => as_aux_lemma =>
                have HKk : Hid (Keeps (fun _ => False) w5 wc) := hcut
                clear hcut
                go_wp2_with fail
                refine (words_any b2 g2 xs wc ((HW5.out.2.2.2.1).kept HKk.out (fun e => e) (fun e => e))).mono ?_
                rintro e w7 ⟨rfl, hB7, hK7⟩
                obtain ⟨g4, hg4⟩ : ∃ g4, g4 = wc.heap.size := ⟨_, rfl⟩
                rw [← hg4] at hB7 ⊢
                have HW7 : Hid (Mm w7 b g zs ∧ Keeps (fun _ => False) w w7) := ⟨(HW5.out.1.kept HKk.out (fun e => e) (fun e => e)).kept hK7 (fun e => e) (fun e => e), (HW5.out.2.2.1.trans HKk.out fun _ _ e => e).trans hK7 fun _ _ e => e⟩
                have HS : Hid (Calls _ _ _ w7 _) := sameWords_any g4 g1 xs xs.length L w7 hB7 ((HW5.out.2.1.kept HKk.out fun e => e).kept hK7 fun e => e) HW5.out.2.2.2.1.small
                rw [← HLL.out] at HS ⊢
                clear hB7 hK7 hg4
                go_wp2_with fail
                refine HS.out.mono ?_
                rintro e w8 ⟨rfl, hK8⟩
                have HW8 : Hid (Mm w8 b g zs ∧ Keeps (fun _ => False) w w8) := ⟨HW7.out.1.kept hK8 (fun e => e) (fun e => e), HW7.out.2.trans hK8 fun _ _ e => e⟩
                clear hK8 HS HW7
                go_wp2
                go_roundw
                case rel => exact ⟨j + 1, zs, by omega, by go_num, HW8.out.1, by rw [HZ.out, HLL.out, HLr.out], HW8.out.2⟩
                case measure => simp [intOf]; omega
    · obtain rfl : j = n := by omega
      go_wp2
      go_ret
      exact ⟨rfl, HKr.out⟩

end Go.Proofs.Ytljhdijledclhaa
