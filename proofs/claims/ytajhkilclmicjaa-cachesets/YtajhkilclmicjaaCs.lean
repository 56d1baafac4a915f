import Derived.Test.YtajhkilclmicjaaDuo
namespace Go.Proofs.Ytajhkilclmicjaa
open Go.RowKit Go.Shelf
set_option linter.unusedVariables false

set_option maxRecDepth 20000 in
set_option maxHeartbeats 2000000 in
theorem sets_any (a0 : Option Addr) (ws : List Nat) (cap set : Nat) (w : World) (hseg : SegU w a0 ws) (hlen : ws.length ≤ maxLen) (hws : ∀ x ∈ ws, x ≤ 65535) (hset : set ≤ 255) :
    Calls Try.prog 4 #[.slice a0 ws.length cap, .int .u8 set] w fun r w' => r = .returned (.bool true) ∧ Keeps (fun _ => False) w w' := by
  obtain ⟨L, hL⟩ : ∃ L, L = ws.length := ⟨_, rfl⟩
  rw [← hL]
  have hL2 : (L : Int) ≤ 9223372036854775807 := by unfold maxLen at hlen; omega
  have HU : Hid (SegU w a0 ws ∧ L = ws.length ∧ ∀ x ∈ ws, x ≤ 65535) := ⟨hseg, hL, hws⟩
  have H0 : Hid (Calls _ _ _ _ _) := newC_any w
  obtain ⟨c1, hc1⟩ : ∃ c1, c1 = w.heap.size := ⟨_, rfl⟩
  rw [← hc1] at H0
  have HC1 : Hid (c1 = w.heap.size) := hc1
  clear hc1 hseg hlen hws hL
  go_enter Try.func4, Try.ntmps4
  go_wp2_with fail
  refine H0.out.mono ?_
  rintro r w1 ⟨rfl, ⟨F1, g1, g2⟩, g3⟩
  have H2 : Hid (Calls _ _ _ _ _) := Duo.first (w0 := w) g1 (fun b hb => by have := g2 b hb; have := HC1.out; omega) g3
  obtain ⟨c2, hc2⟩ : ∃ c2, c2 = w1.heap.size := ⟨_, rfl⟩
  rw [← hc2] at H2
  clear H0 g1 g2 g3 hc2
  go_wp2_with fail
  refine H2.out.mono ?_
  rintro r w2 ⟨rfl, hD⟩
  have HD : Hid (Duo w w2 c1 c2 (fun _ => []) (fun _ => [])) := hD
  clear H2 hD
  go_wp2
  obtain ⟨k, hk⟩ : ∃ k, k = set % 4 := ⟨_, rfl⟩
  have hkz : (set : Int) % 4 = (k : Int) := by omega
  rw [hkz]
  have hk4 : k < 4 := by omega
  have HK4 : Hid (k < 4) := hk4
  clear hkz hk hk4 hset
  go_loopw [8, 22] (fun f i wr => ∃ (j : Nat) (s1 s2 : Nat → List Int) (fb : Bool), j ≤ L ∧ i = .int .i64 j ∧ f = .bool fb ∧ Duo w wr c1 c2 s1 s2 ∧ s1 k = s2 k ∧ (fb = true → s1 k = [])) (fun _ i _ => L - (intOf i).toNat)
  case atStart => exact ⟨0, _, _, true, by omega, rfl, rfl, HD.out, rfl, fun _ => rfl⟩
  case round =>
    obtain ⟨j, s1, s2, fb, hj, rfl, rfl, hD, hs, hf⟩ := hrel
    by_cases hlt : j < L
    · obtain ⟨hseg, hLw, hws⟩ := HU.out
      have hju : j < ws.length := by omega
      rcases hseg with h0 | ⟨b, o, rfl, hcell⟩
      · exact absurd hju (by rw [h0]; simp)
      · have cu : wr.cell? ⟨b, o + j, none⟩ = some (.int .u16 (ws[j]'hju : Nat)) := by
          have h1 := hcell j hju
          have hb := World.block_lt_of_cell? w ⟨b, o + j, none⟩ h1
          rw [World.cell?_of_block (w := w) (hD.keeps.block b hb fun h => h)]
          exact h1
        have hx := hws _ (List.getElem_mem hju)
        obtain ⟨x, hxx⟩ : ∃ x, x = ws[j]'hju := ⟨_, rfl⟩
        rw [← hxx] at cu hx
        have H1 : Hid (Calls _ _ _ _ _) := at_in x wr hx
        obtain ⟨a, ha⟩ : ∃ a, a = x % 16384 := ⟨_, rfl⟩
        have ha4 : a < 16384 := by omega
        rw [← ha] at H1
        have H2 : Hid (Calls _ _ _ _ _) := hD.touch1 a ha4
        have hltz : (j : Int) < L := by omega
        have HF : Hid (s1 k = s2 k ∧ (fb = true → s1 k = []) ∧ a < 16384 ∧ j < L) := ⟨hs, hf, ha4, hlt⟩
        obtain ⟨n, hn⟩ : ∃ n, n = cost (a / 4) s1 := ⟨_, rfl⟩
        rw [← hn] at H2
        have HN : Hid (n = cost (a / 4) s1) := hn
        clear hcell hju hxx hx ha ha4 hs hf hws hLw hD hlt hj hn HU HD
        go_wp2_with fail
        refine H1.out.mono ?_
        rintro r w3 ⟨rfl, rfl⟩
        clear H1
        go_wp2_with fail
        refine H2.out.mono ?_
        rintro r w4 ⟨rfl, hD4⟩
        have HD4 : Hid (Duo w w4 c1 c2 (step (a / 4) s1) s2) := hD4
        clear H2 hD4 cu
        obtain ⟨l, hl⟩ : ∃ l, l = a / 4 := ⟨_, rfl⟩
        have hw : wrap64 ((a : Int) / 4) = (l : Int) := by
          have e1 : (a : Int) / 4 = (l : Int) := by omega
          have := HF.out.2.2.1
          rw [e1]
          unfold wrap64
          omega
        rw [← hl] at HD4 HN
        have HL : Hid (l = a / 4) := hl
        clear hl
        by_cases he : l % 4 = k
        · have hez : (l : Int) % 4 = k := by omega
          have hcc : cost l s2 = n := by
            rw [HN.out]; unfold cost; rw [he, HF.out.1]
          have H5 : Hid (Calls _ _ _ _ _) := HD4.out.touch2 a HF.out.2.2.1
          rw [← HL.out, hcc] at H5
          clear hcc
          have h3 : (n = 1 ∧ fb = false) ∨ (n = 7 ∧ fb = true) ∨ (n = 7 ∧ fb = false) := by
            have h1 := cost_or l s1
            rw [← HN.out] at h1
            cases fb with
            | false => rcases h1 with h | h <;> simp [h]
            | true =>
              have h2 := HF.out.2.1 rfl
              refine .inr (.inl ⟨?_, rfl⟩)
              rw [HN.out]; unfold cost; rw [he, h2]; simp
          rcases h3 with ⟨rfl, rfl⟩ | ⟨rfl, rfl⟩ | ⟨rfl, rfl⟩
          · go_wp2_with fail
            refine H5.out.mono ?_
            rintro r w5 ⟨rfl, hD5⟩
            have HD5 : Hid (Duo w w5 c1 c2 (step l s1) (step l s2)) := hD5
            clear H5 hD5 HD4
            go_wp2
            go_roundw
            case rel => exact ⟨j + 1, _, _, false, by have := HF.out.2.2.2; omega, by simp, rfl, HD5.out, by rw [← he, step_same, step_same, he, HF.out.1], by simp⟩
            case measure => have := HF.out.2.2.2; simp [intOf]; omega
          · go_wp2_with fail
            refine H5.out.mono ?_
            rintro r w5 ⟨rfl, hD5⟩
            have HD5 : Hid (Duo w w5 c1 c2 (step l s1) (step l s2)) := hD5
            clear H5 hD5 HD4
            go_wp2
            go_roundw
            case rel => exact ⟨j + 1, _, _, false, by have := HF.out.2.2.2; omega, by simp, rfl, HD5.out, by rw [← he, step_same, step_same, he, HF.out.1], by simp⟩
            case measure => have := HF.out.2.2.2; simp [intOf]; omega
          · go_wp2_with fail
            refine H5.out.mono ?_
            rintro r w5 ⟨rfl, hD5⟩
            have HD5 : Hid (Duo w w5 c1 c2 (step l s1) (step l s2)) := hD5
            clear H5 hD5 HD4
            go_wp2
            go_roundw
            case rel => exact ⟨j + 1, _, _, false, by have := HF.out.2.2.2; omega, by simp, rfl, HD5.out, by rw [← he, step_same, step_same, he, HF.out.1], by simp⟩
            case measure => have := HF.out.2.2.2; simp [intOf]; omega
        · have hez : ¬ ((l : Int) % 4 = k) := by omega
          rcases cost_or l s1 with hc | hc
          · obtain rfl : n = 1 := HN.out.trans hc
            go_wp2
            go_roundw
            case rel => exact ⟨j + 1, _, _, fb, by have := HF.out.2.2.2; omega, by simp, rfl, HD4.out, by rw [step_other (fun h => he h.symm)]; exact HF.out.1, by rw [step_other (fun h => he h.symm)]; exact HF.out.2.1⟩
            case measure => have := HF.out.2.2.2; simp [intOf]; omega
          · obtain rfl : n = 7 := HN.out.trans hc
            go_wp2
            go_roundw
            case rel => exact ⟨j + 1, _, _, fb, by have := HF.out.2.2.2; omega, by simp, rfl, HD4.out, by rw [step_other (fun h => he h.symm)]; exact HF.out.1, by rw [step_other (fun h => he h.symm)]; exact HF.out.2.1⟩
            case measure => have := HF.out.2.2.2; simp [intOf]; omega
    · obtain rfl : j = L := by omega
      have HK : Hid (Keeps (fun _ => False) w wr) := hD.keeps
      clear hD hs hf hj hlt HU HD HK4
      go_wp2
      go_ret
      exact ⟨rfl, HK.out⟩

end Go.Proofs.Ytajhkilclmicjaa
