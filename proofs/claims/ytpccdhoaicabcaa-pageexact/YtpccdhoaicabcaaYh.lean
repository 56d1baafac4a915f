import Derived.Test.YtpccdhoaicabcaaYg
import Derived.Test.YtpccdhoaicabcaaYi
import Derived.Deep.CutBlock
import Derived.Deep.CutRange
namespace Go.Proofs.Ytpccdhoaicabcaa
open Go.RowKit
set_option linter.unusedVariables false
set_option maxRecDepth 20000

set_option maxHeartbeats 8000000 in
theorem pageExact_any (F : Int) (a : Option Addr) (cap : Nat) (os : List Od) (w0 : World) (hF : I64 F) (hl : os.length ≤ cap ∧ cap ≤ maxLen) (hS : SegOd w0 a os) (hO : ∀ o ∈ os, o.Ok w0) (hB : ∀ o ∈ os, o.ts.length ≤ 17592186044416 ∧ o.rs.length ≤ 4398046511104) :
    Calls Try.prog 3 #[.int .i64 F, .slice a os.length cap] w0 fun e w' => e = .returned (.bool true) ∧ Keeps (fun _ => False) w0 w' := by
  obtain ⟨n, hn⟩ : ∃ n, n = os.length := ⟨_, rfl⟩
  have HN : Hid (n = os.length ∧ SegOd w0 a os ∧ (∀ o ∈ os, o.Ok w0) ∧ ∀ o ∈ os, o.ts.length ≤ 17592186044416 ∧ o.rs.length ≤ 4398046511104) := ⟨hn, hS, hO, hB⟩
  rw [← hn] at hl ⊢
  have hnI : (n : Int) ≤ 9223372036854775807 := by unfold maxLen at hl; omega
  have hnc : (n : Int) ≤ cap := by omega
  have hcI : (cap : Int) ≤ 9223372036854775807 := by unfold maxLen at hl; omega
  obtain ⟨m, hm⟩ : ∃ m, m = pk F 40 := ⟨_, rfl⟩
  have hm40 : m < 40 := by rw [hm]; exact pk_lt F 40 (by omega)
  have HPk : Hid (Calls Try.prog 8 #[.int .i64 F, .int .i64 40] w0 fun e w' => e = .returned (.int .i64 (m : Nat)) ∧ w' = w0) := by rw [hm]; exact pick_any F 40 w0 (by omega) (by omega) hF.1 hF.2
  have hb := begun_any (20 + m) w0 (by omega) (by omega)
  rw [show (((20 + m : Nat) : Int)) = 20 + (m : Int) by omega] at hb
  have HB : Hid (Calls _ _ _ _ _) := hb
  have hmI : (m : Int) < 40 := by omega
  have HM : Hid (m < 40) := hm40
  clear hn hS hO hB hl hb hm hF hm40
  go_enter Try.func3, Try.ntmps3
  go_wp2_with fail
  refine HPk.out.mono ?_
  rintro e w1 ⟨rfl, hw1⟩
  obtain rfl := hw1.symm
  clear hw1 HPk
  go_wp2_with fail
  refine HB.out.mono ?_
  rintro e w1 ⟨P, b, g, rb, rg, rfl, hbeg⟩
  have HG0 : Hid (Beg w0 w1 P b g rb rg (20 + m) (xs0 (20 + m))) := hbeg
  clear hbeg HB
  go_wp2_with fail
  go_loopw [6, 7] (fun ok i wr => ∃ (j : Nat), j ≤ n ∧ ok = .bool true ∧ i = .int .i64 (j : Int) ∧ (∃ ys, Pr wr P b g rb rg (20 + m) ys) ∧ Keeps (fun k => k = g ∨ k = rg) w0 wr) (fun _ i _ => n - (intOf i).toNat)
  case atStart => exact ⟨0, by omega, rfl, rfl, ⟨_, HG0.out.pr⟩, HG0.out.k.mono fun _ _ e => e.elim⟩
  case round =>
    obtain ⟨j, hj, rfl, rfl, ⟨ys, hp⟩, hK⟩ := hrel
    have HJ : Hid (Pr wr P b g rb rg (20 + m) ys ∧ Keeps (fun k => k = g ∨ k = rg) w0 wr ∧ w0.heap.size ≤ g ∧ w0.heap.size ≤ rg) := ⟨hp, hK, HG0.out.g1, HG0.out.s1⟩
    clear hp hK
    by_cases hlt : j < n
    · have hlt' : (j : Int) < n := by omega
      have hjx : j < os.length := by rw [← HN.out.1]; exact hlt
      obtain ⟨x, hx⟩ : ∃ x, os[j]? = some x := ⟨_, List.getElem?_eq_getElem hjx⟩
      have hxo := HN.out.2.2.1 x (List.mem_of_getElem? hx)
      have hxb := HN.out.2.2.2 x (List.mem_of_getElem? hx)
      obtain ⟨ga, oa, ha, hcells⟩ : ∃ g o, a = some ⟨g, o, none⟩ ∧ ∀ j x, os[j]? = some x → OdAt w0 g (o + j * 7) x := by
        rcases HN.out.2.1 with h | h
        · rw [h] at hjx; simp at hjx
        · exact h
      subst ha
      have hc0 := hcells j x hx
      have hgl : ga < w0.heap.size := World.block_lt_of_cell? w0 _ (hc0 0 _ rfl)
      have hc := hc0.grown HJ.out.2.1 (by have := HJ.out.2.2; omega)
      have c0 := hc 0 _ rfl
      have c1 := hc 1 _ rfl
      have c2 := hc 2 _ rfl
      have c3 := hc 3 _ rfl
      have c4 := hc 4 _ rfl
      have c5 := hc 5 _ rfl
      have c6 := hc 6 _ rfl
      rw [Nat.add_zero] at c0
      obtain ⟨K, hKK⟩ : ∃ K, K = x.k := ⟨_, rfl⟩
      obtain ⟨L2, hL2⟩ : ∃ L, L = x.ts.length := ⟨_, rfl⟩
      obtain ⟨L, hL⟩ : ∃ L, L = x.rs.length := ⟨_, rfl⟩
      obtain ⟨u, hu⟩ : ∃ u : Int, u = (x.W.toNat : Int) := ⟨_, rfl⟩
      have HV : Hid (Value.agg x.cells = .agg #[.int .i64 K, .int .i64 x.A, .int .i64 x.B, .int .i64 x.C, .int .u32 u, .slice x.a2 L2 x.c2, .slice x.a L x.c]) := by rw [hKK, hL2, hL, hu]; rfl
      have hl1 : (L2 : Int) ≤ 17592186044416 := by omega
      have hl2 : (L : Int) ≤ 4398046511104 := by omega
      have HX : Hid (x.Ok w0 ∧ L2 = x.ts.length ∧ L = x.rs.length) := ⟨hxo, hL2, hL⟩
      rw [← hKK] at c0
      rw [← hu] at c4
      rw [← hL2] at c5
      rw [← hL] at c6
      clear hcells hc0 hc hjx hx hxo hxb hKK hL hL2 hu hgl
      by_cases hbig : (2147483647 : Int) < (L2 : Int) + (L : Int)
      · have hbig2 : (L2 : Int) + (L : Int) > 2147483647 := hbig
        go_wp2_with fail
        have hwr : IntKind.i64.wrap ((L2 : Int) + (L : Int)) = (L2 : Int) + (L : Int) := by rw [IntKind.wrap_i64]; omega
        have hbd : decide ((2147483647 : Int) < (L2 : Int) + (L : Int)) = true := decide_eq_true (by omega)
        go_still Try.mixed
        go_wp2_with fail
        go_ret
        exact ⟨rfl, ((Keeps.refl (fun _ => False) w0).trans HJ.out.2.1 fun k hk e => by have := HJ.out.2.2; omega).drew⟩
      · have HC : Hid (Calls _ _ _ _ _) := step_all x w0 wr.drew P b g rb rg (20 + m) ys HX.out.1 (HJ.out.1.grown ((Keeps.refl (fun _ => False) wr).drew)) (HJ.out.2.1.drew) HJ.out.2.2.1 HJ.out.2.2.2 (by have := HX.out.2; omega)
        rw [HV.out] at HC
        have hbig' : ¬ ((L2 : Int) + (L : Int) > 2147483647) := hbig
        go_wp2_with fail
        have hbd : decide ((2147483647 : Int) < (L2 : Int) + (L : Int)) = false := decide_eq_false (by omega)
        have hwr : IntKind.i64.wrap ((L2 : Int) + (L : Int)) = (L2 : Int) + (L : Int) := by rw [IntKind.wrap_i64]; omega
        go_still Try.mixed
        go_wp2_with fail
        refine HC.out.mono ?_
        rintro e w2 ⟨rfl, ys2, hp2, hk2⟩
        have HR : Hid (Pr w2 P b g rb rg (20 + m) ys2 ∧ Keeps (fun k => k = g ∨ k = rg) w0 w2) := ⟨hp2, (HJ.out.2.1.drew).trans hk2 fun _ _ e => e⟩
        clear hp2 hk2 HC c0 c1 c2 c3 c4 c5 c6 hwr hbd
        go_wp2
        go_roundw
        case rel => exact ⟨j + 1, by omega, rfl, by go_num, ⟨ys2, HR.out.1⟩, HR.out.2⟩
        case measure => simp [intOf]; omega
    · have ejn : n = j := by omega
      subst ejn
      have hlt' : ¬ (n : Int) < n := by omega
      obtain ⟨wz, hwz⟩ : ∃ wz, wz = wr := ⟨_, rfl⟩
      subst hwz
      obtain ⟨q, hq⟩ : ∃ q, q = ys.length := ⟨_, rfl⟩
      have hq2 : q = (20 + m) * 16 := by rw [hq]; exact HJ.out.1.m.len
      have hqI : (q : Int) ≤ 16384 := by have := HM.out; omega
      have HW := words_any b g ys wz HJ.out.1.m.mm
      rw [← hq] at HW
      have HW : Hid (Calls _ _ _ _ _) := HW
      have cP := HJ.out.1.p.cell (i := 0) rfl
      have HQ : Hid (q = ys.length) := hq
      clear hq hq2 HG0 HN
      go_wp2_with fail
      refine HW.out.mono ?_
      rintro e w5 ⟨rfl, hw5, hk5⟩
      obtain ⟨Bw, hBw⟩ : ∃ B, B = wz.heap.size := ⟨_, rfl⟩
      rw [← hBw] at hw5 ⊢
      have p5 := HJ.out.1.grown hk5
      have kz : Keeps (fun _ => False) w0 w5 := ((Keeps.refl (fun _ => False) w0).trans HJ.out.2.1 fun k hk e => by have := HJ.out.2.2; omega).trans hk5 fun _ _ e => e
      have H5 : Hid (Pr w5 P b g rb rg (20 + m) ys ∧ Blk w5 Bw (wvs ys) 27 ∧ Keeps (fun _ => False) w0 w5) := ⟨p5, hw5, kz⟩
      have d1 := p5.p.cell (i := 1) rfl
      have d2 := p5.r.blk.cell (i := 0) rfl
      rw [← HQ.out] at d2
      clear hw5 hk5 p5 kz hBw HW cP HJ
      go_wp2
      clear d1 d2
      go_loopw [9] (fun i wr => ∃ k : Nat, k ≤ q ∧ i = .int .i64 (k : Int) ∧ Keeps (fun _ => False) w5 wr) (fun i _ => q - (intOf i).toNat)
      case atStart => exact ⟨0, by omega, rfl, Keeps.refl _ _⟩
      case round =>
        obtain ⟨k, hk, rfl, hK⟩ := hrel
        have HK : Hid (Keeps (fun _ => False) w5 wr) := hK
        by_cases hkl : k < q
        · have hky : k < ys.length := by rw [← HQ.out]; exact hkl
          have hkl' : (k : Int) < q := by omega
          have p6 := H5.out.1.grown hK
          have e0 := (H5.out.2.1.kept hK fun e => e).cell (wvs_get ys k hky)
          have e1 := p6.r.row.cell (wvs_get ys k hky)
          have e2 := p6.p.cell (i := 1) rfl
          have e3 := p6.r.blk.cell (i := 0) rfl
          rw [← HQ.out] at e3
          obtain ⟨v, hv⟩ : ∃ v : Nat, v = (ys[k]'hky).toNat := ⟨_, rfl⟩
          rw [← hv] at e0 e1
          clear p6 hK hv hky
          go_wp2_with fail
          go_still Try.mixed
          go_wp2
          go_roundw
          case rel => exact ⟨k + 1, by omega, by go_num, HK.out.drew⟩
          case measure => simp [intOf]; omega
        · have ekq : q = k := by omega
          subst ekq
          have hkl' : ¬ (q : Int) < q := by omega
          clear hK
          go_wp2
          go_ret
          exact ⟨rfl, H5.out.2.2.trans HK.out fun _ _ e => e⟩
end Go.Proofs.Ytpccdhoaicabcaa
