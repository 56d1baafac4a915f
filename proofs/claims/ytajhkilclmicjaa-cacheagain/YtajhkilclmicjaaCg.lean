import Derived.Test.YtajhkilclmicjaaSa
namespace Go.Proofs.Ytajhkilclmicjaa
open Go.RowKit Go.Shelf
set_option linter.unusedVariables false

theorem Duo.ca1 {w0 w : World} {c1 c2 : Nat} {s1 s2 : Nat → List Int} (h : Duo w0 w c1 c2 s1 s2) : ∃ F, Ca w c1 s1 F := by
  obtain ⟨F1, F2, h1, h2, h3, h4, h5, h6⟩ := h
  exact ⟨F1, h1⟩
theorem Duo.same {w0 w : World} {c1 c2 : Nat} {s1 s2 t1 t2 : Nat → List Int} (h : Duo w0 w c1 c2 s1 s2) (e1 : ∀ i, i < 4 → t1 i = s1 i) (e2 : ∀ i, i < 4 → t2 i = s2 i) : Duo w0 w c1 c2 t1 t2 := by
  obtain ⟨F1, F2, h1, h2, h3, h4, h5, h6⟩ := h
  exact ⟨F1, F2, h1.same e1, h2.same e2, h3, h4, h5, h6⟩

set_option maxRecDepth 20000 in
set_option maxHeartbeats 4000000 in
theorem again_any (a0 : Option Addr) (ws : List Nat) (cap : Nat) (b0 : Option Addr) (us : List Nat) (cap2 : Nat) (w : World) (hseg : SegU w a0 ws) (hlen : ws.length ≤ maxLen) (hws : ∀ x ∈ ws, x ≤ 65535)
    (hseg2 : SegU w b0 us) (hlen2 : us.length ≤ maxLen) (hus : ∀ x ∈ us, x ≤ 65535) :
    Calls Try.prog 6 #[.slice a0 ws.length cap, .slice b0 us.length cap2] w fun r w' => r = .returned (.bool true) ∧ Keeps (fun _ => False) w w' := by
  have H0 : Hid (Calls _ _ _ _ _) := touched_any a0 ws cap w hseg hlen hws
  obtain ⟨N, hN⟩ : ∃ N, N = ws.length := ⟨_, rfl⟩
  obtain ⟨L, hL⟩ : ∃ L, L = us.length := ⟨_, rfl⟩
  rw [← hN] at H0 ⊢
  rw [← hL]
  have hN2 : (N : Int) ≤ 9223372036854775807 := by unfold maxLen at hlen; omega
  have hL2 : (L : Int) ≤ 9223372036854775807 := by unfold maxLen at hlen2; omega
  have HU : Hid (SegU w b0 us ∧ L = us.length ∧ ∀ x ∈ us, x ≤ 65535) := ⟨hseg2, hL, hus⟩
  obtain ⟨ca, hca⟩ : ∃ c, c = w.heap.size := ⟨_, rfl⟩
  rw [← hca] at H0
  have HC : Hid (ca = w.heap.size) := hca
  clear hca hseg hlen hws hL hN hseg2 hlen2 hus
  go_enter Try.func6, Try.ntmps6
  go_wp2_with fail
  refine H0.out.mono ?_
  rintro r w1 ⟨rfl, ⟨st, F1, f1, f2, f3⟩, f4⟩
  have HF : Hid (Ca w1 ca st F1 ∧ Good st ∧ (∀ b, F1 b → w.heap.size ≤ b) ∧ Keeps (fun _ => False) w w1) := ⟨f1, f2, fun b hb => by have := f3 b hb; have := HC.out; omega, f4⟩
  have H1 : Hid (Calls _ _ _ _ _) := lines_any ca st F1 w1 f1
  clear H0 f1 f2 f3 f4
  go_wp2_with fail
  refine H1.out.mono ?_
  rintro r w2 ⟨G, vs, rfl, g1, g2, g3⟩
  have HG : Hid (Four w2 G vs st (fun b => w1.heap.size ≤ b) ∧ w1.heap.size ≤ G ∧ Keeps (fun _ => False) w1 w2) := ⟨g1, g2, g3⟩
  have H2 : Hid (Calls _ _ _ _ _) := newC_any w2
  obtain ⟨cb, hcb⟩ : ∃ c, c = w2.heap.size := ⟨_, rfl⟩
  rw [← hcb] at H2
  have HB : Hid (cb = w2.heap.size) := hcb
  clear H1 g1 g2 g3 hcb
  go_wp2_with fail
  refine H2.out.mono ?_
  rintro r w3 ⟨rfl, ⟨F2, k1, k2⟩, k3⟩
  have H3 : Hid (Calls Try.prog 16 #[ptr cb, .int .i64 0] w3 _) := touch_any cb 0 _ F2 w3 k1 (by omega)
  have HK : Hid (Ca w3 cb (fun _ => []) F2 ∧ (∀ b, F2 b → w2.heap.size ≤ b) ∧ Keeps (fun _ => False) w2 w3) := ⟨k1, fun b hb => by have := k2 b hb; have := HB.out; omega, k3⟩
  obtain ⟨n0, hn0⟩ : ∃ n, n = cost (0 / 4) (fun _ => []) := ⟨_, rfl⟩
  rw [← hn0] at H3
  clear H2 k1 k2 k3 hn0
  go_wp2_with fail
  refine H3.out.mono ?_
  rintro r w4 ⟨rfl, hN4⟩
  obtain ⟨F4, m1, m2, m3⟩ := hN4.step HK.out.2.2 HK.out.2.1
  have H5 : Hid (Calls Try.prog 19 #[ptr cb, .slice (some ⟨G, 0, none⟩) 4 4] w4 fun e w' => e = .returned (.int .i64 0) ∧ Duo w w' ca cb st st) := by
    obtain ⟨p1, p2, p3, p4⟩ := HF.out
    obtain ⟨q1, q2, q3⟩ := HG.out
    have hca4 := (p1.kept q3 fun _ _ h => h).kept m3 fun _ _ h => h
    have hK4 : Keeps (fun _ => False) w w4 := (p4.trans q3 fun _ _ h => h).trans m3 fun _ _ h => h
    have hlt1 := p1.lt
    have hGlt := q1.blk.lt
    refine (restore_any cb _ F4 G vs st 4 w4 m1 (fun w' hK => ?_) (fun i hi => ⟨p1.fits i hi, p1.nodup i hi⟩) p2).mono ?_
    · have hq := (q1.mono (D' := fun b => b < w2.heap.size) fun b hb hlt => hlt).kept m3 (fun h => h) fun _ _ h => h
      refine (hq.kept hK (fun hf => ?_) fun b hb hf => ?_).lst
      · have := m2 G hf; omega
      · have := m2 b hf; omega
    · rintro r w' ⟨rfl, hN⟩
      refine ⟨rfl, (Duo.one m1 hca4 (fun b hb hb2 => ?_) (fun b hb => ?_) (fun b hb => p3 b hb) hK4 hN).swap⟩
      · have := m2 b hb; have := hlt1 b hb2; have := q3.size; omega
      · have := m2 b hb; have := p4.size; have := q3.size; omega
  clear H3 hN4 m1 m2 m3 HF HG HK
  go_wp2_with fail
  refine H5.out.mono ?_
  rintro r w5 ⟨rfl, hD⟩
  have HD : Hid (Duo w w5 ca cb st st) := hD
  clear H5 hD
  go_wp2
  go_loopw [31] (fun i wr => ∃ (j : Nat) (s1 s2 : Nat → List Int), j ≤ L ∧ i = .int .i64 j ∧ Duo w wr ca cb s1 s2 ∧ ∀ i, i < 4 → s1 i = s2 i) (fun i _ => L - (intOf i).toNat)
  case atStart => exact ⟨0, _, _, by omega, rfl, HD.out, fun _ _ => rfl⟩
  case round =>
    obtain ⟨j, s1, s2, hj, rfl, hD, hs⟩ := hrel
    by_cases hlt : j < L
    · obtain ⟨hseg, hLw, hws⟩ := HU.out
      have hju : j < us.length := by omega
      rcases hseg with h0 | ⟨b, o, rfl, hcell⟩
      · exact absurd hju (by rw [h0]; simp)
      · have cu : wr.cell? ⟨b, o + j, none⟩ = some (.int .u16 (us[j]'hju : Nat)) := cell_kept (hcell j hju) hD.keeps fun h => h
        have HCU : Hid (w.cell? ⟨b, o + j, none⟩ = some (.int .u16 (us[j]'hju : Nat))) := hcell j hju
        have hx := hws _ (List.getElem_mem hju)
        obtain ⟨x, hxx⟩ : ∃ x, x = us[j]'hju := ⟨_, rfl⟩
        rw [← hxx] at cu hx HCU
        have H1 : Hid (∀ w, Calls _ _ _ _ _) := fun w => at_in x w hx
        obtain ⟨a, ha⟩ : ∃ a, a = x % 16384 := ⟨_, rfl⟩
        have ha4 : a < 16384 := by omega
        rw [← ha] at H1
        have H2 : Hid (Calls _ _ _ _ _) := hD.touch1 a ha4
        have hltz : (j : Int) < L := by omega
        have HFF : Hid ((∀ i, i < 4 → s1 i = s2 i) ∧ a < 16384 ∧ j < L) := ⟨hs, ha4, hlt⟩
        obtain ⟨n, hn⟩ : ∃ n, n = cost (a / 4) s1 := ⟨_, rfl⟩
        rw [← hn] at H2
        have HN : Hid (n = cost (a / 4) s1) := hn
        clear hcell hju hxx hx ha ha4 hs hws hLw hD hlt hj hn HU HD
        go_wp2_with fail
        refine (H1.out _).mono ?_
        rintro r w6 ⟨rfl, rfl⟩
        go_wp2_with fail
        refine H2.out.mono ?_
        rintro r w7 ⟨rfl, hD7⟩
        have H3 : Hid (Calls _ _ _ _ _) := hD7.touch2 a HFF.out.2.1
        have hcc : cost (a / 4) s2 = n := by
          rw [HN.out]; unfold cost; rw [HFF.out.1 _ (by omega)]
        rw [hcc] at H3
        have cu := cell_kept HCU.out hD7.keeps fun h => h
        clear H2 hD7 hcc
        go_wp2_with fail
        refine (H1.out _).mono ?_
        rintro r w8 ⟨rfl, rfl⟩
        go_wp2_with fail
        refine H3.out.mono ?_
        rintro r w9 ⟨rfl, hD9⟩
        have HD9 : Hid (Duo w w9 ca cb (step (a / 4) s1) (step (a / 4) s2)) := hD9
        clear H3 hD9 cu
        go_wp2
        go_roundw
        case rel =>
          refine ⟨j + 1, _, _, by have := HFF.out.2.2; omega, by simp, HD9.out, fun i hi => ?_⟩
          unfold step
          rw [HFF.out.1 i hi]
        case measure => have := HFF.out.2.2; simp [intOf]; omega
    · obtain rfl : j = L := by omega
      obtain ⟨Fa, hFa⟩ := hD.ca1
      obtain ⟨Fb, hFb⟩ := hD.swap.ca1
      have H1 : Hid (Calls _ _ _ _ _) := lines_any ca s1 Fa wr hFa
      have HR : Hid (Ca wr ca s1 Fa ∧ Ca wr cb s2 Fb ∧ (∀ i, i < 4 → s1 i = s2 i) ∧ Keeps (fun _ => False) w wr) := ⟨hFa, hFb, hs, hD.keeps⟩
      clear hD hs hj hlt HU HD hFa hFb
      go_wp2_with fail
      refine H1.out.mono ?_
      rintro r w6 ⟨G1, vs1, rfl, g1, g2, g3⟩
      have H2 : Hid (Calls _ _ _ _ _) := lines_any cb s2 Fb w6 (HR.out.2.1.kept g3 fun _ _ h => h)
      have HG1 : Hid (Lst w6 G1 vs1 s1 ∧ Keeps (fun _ => False) w w6) := ⟨g1.lst, HR.out.2.2.2.trans g3 fun _ _ h => h⟩
      clear H1 g1 g2 g3
      go_wp2_with fail
      refine H2.out.mono ?_
      rintro r w7 ⟨G2, vs2, rfl, g1, g2, g3⟩
      have H3 : Hid (Calls _ _ _ _ _) := same_any G1 G2 vs1 vs2 s1 4 4 w7 (HG1.out.1.kept g3) (g1.same (fun i hi => HR.out.2.2.1 i hi)).lst (fun i hi => HR.out.1.fits i hi)
      have HK7 : Hid (Keeps (fun _ => False) w w7) := HG1.out.2.trans g3 fun _ _ h => h
      clear H2 g1 g2 g3
      go_wp2_with fail
      refine H3.out.mono ?_
      rintro r w8 ⟨rfl, hK8⟩
      have HK8 : Hid (Keeps (fun _ => False) w w8) := HK7.out.trans hK8 fun _ _ h => h
      clear H3 hK8
      go_wp2
      go_ret
      exact ⟨rfl, HK8.out⟩

end Go.Proofs.Ytajhkilclmicjaa
