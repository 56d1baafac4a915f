import Derived.Test.YtajhkilclmicjaaHo
namespace Go.Proofs.Ytajhkilclmicjaa
open Go.RowKit Go.Shelf
set_option linter.unusedVariables false

theorem putL_mem (k : Int) (ks : List Int) : k ∈ putL 2 k ks := by
  unfold putL
  split
  · simp
  · split <;> simp
theorem putL_last (k : Int) (ks : List Int) : ∃ us, putL 2 k ks = us ++ [k] := by
  unfold putL
  split
  · exact ⟨_, rfl⟩
  · split <;> exact ⟨_, rfl⟩

/-- Behind the latest line another one: just these two. -/
theorem putL_two {l o : Int} {us : List Int} (hn : (us ++ [l]).Nodup) (hl : (us ++ [l]).length ≤ 2) (ho : o ≠ l) : putL 2 o (us ++ [l]) = [l, o] := by
  match us, hn, hl with
  | [], _, _ =>
    unfold putL
    simp [ho]
  | [u], hn, _ =>
    unfold putL
    by_cases e : o = u
    · subst e
      simp
    · simp [e, ho]
  | u :: v :: us, _, hl => simp at hl
theorem putL_three {l o p : Int} (h1 : p ≠ l) (h2 : p ≠ o) : putL 2 p [l, o] = [o, p] := by
  unfold putL
  simp [h1, h2]

def other (l d j : Nat) : Nat := (l / 4 + d + j - 1) % 1024 * 4 + l % 4
theorem wrap_nat {n : Nat} (h : n < 100000) : wrap64 (n : Int) = (n : Int) := by unfold wrap64; omega
theorem other_arith (l d j : Nat) (hl : l < 4096) (hd : d ≤ 1022) (hj1 : 1 ≤ j) (hj2 : j ≤ 2) :
    wrap64 (wrap64 (wrap64 ((wrap64 (wrap64 (wrap64 (wrap64 ((l : Int) / 4) + (d : Int)) + (j : Int)) - 1)).tmod 1024 * 4) + (l : Int) % 4) * 4) = ((other l d j * 4 : Nat) : Int) := by
  have e1 : (l : Int) / 4 = ((l / 4 : Nat) : Int) := by omega
  rw [e1, wrap_nat (by omega)]
  have e2 : ((l / 4 : Nat) : Int) + (d : Int) = ((l / 4 + d : Nat) : Int) := by omega
  rw [e2, wrap_nat (by omega)]
  have e3 : ((l / 4 + d : Nat) : Int) + (j : Int) = ((l / 4 + d + j : Nat) : Int) := by omega
  rw [e3, wrap_nat (by omega)]
  have e4 : ((l / 4 + d + j : Nat) : Int) - 1 = ((l / 4 + d + j - 1 : Nat) : Int) := by omega
  rw [e4, wrap_nat (by omega), Int.tmod_eq_emod_of_nonneg (by omega)]
  have e5 : ((l / 4 + d + j - 1 : Nat) : Int) % 1024 * 4 = (((l / 4 + d + j - 1) % 1024 * 4 : Nat) : Int) := by omega
  rw [e5, wrap_nat (by omega)]
  have e6 : (((l / 4 + d + j - 1) % 1024 * 4 : Nat) : Int) + (l : Int) % 4 = ((other l d j : Nat) : Int) := by unfold other; omega
  have e7 : other l d j < 4096 := by unfold other; omega
  rw [e6, wrap_nat (by omega)]
  have e8 : ((other l d j : Nat) : Int) * 4 = ((other l d j * 4 : Nat) : Int) := by omega
  rw [e8, wrap_nat (by omega)]
theorem other_facts (l d : Nat) (hl : l < 4096) (hd1 : 1 ≤ d) (hd : d ≤ 1022) : other l d 1 ≠ l ∧ other l d 2 ≠ l ∧ other l d 2 ≠ other l d 1 ∧ ∀ j, other l d j < 4096 ∧ other l d j % 4 = l % 4 := by
  refine ⟨?_, ?_, ?_, fun j => ⟨?_, ?_⟩⟩ <;> unfold other <;> omega

set_option maxRecDepth 20000 in
set_option maxHeartbeats 4000000 in
theorem last_any (a0 : Option Addr) (ws : List Nat) (cap x y : Nat) (w : World) (hseg : SegU w a0 ws) (hlen : ws.length ≤ maxLen) (hws : ∀ x ∈ ws, x ≤ 65535) (hx : x ≤ 65535) (hy : y ≤ 65535) :
    Calls Try.prog 5 #[.slice a0 ws.length cap, .int .u16 x, .int .u16 y] w fun r w' => r = .returned (.bool true) ∧ Keeps (fun _ => False) w w' := by
  obtain ⟨L, hL⟩ : ∃ L, L = ws.length := ⟨_, rfl⟩
  have H0 : Hid (Calls _ _ _ _ _) := touched_any a0 ws cap w hseg hlen hws
  rw [← hL] at H0 ⊢
  have hL2 : (L : Int) ≤ 9223372036854775807 := by unfold maxLen at hlen; omega
  obtain ⟨c, hc⟩ : ∃ c, c = w.heap.size := ⟨_, rfl⟩
  rw [← hc] at H0
  have HC : Hid (c = w.heap.size) := hc
  have HA : Hid (∀ w, Calls _ _ _ _ _) := fun w => at_in x w hx
  obtain ⟨a, ha⟩ : ∃ a, a = x % 16384 := ⟨_, rfl⟩
  rw [← ha] at HA
  have ha4 : a < 16384 := by omega
  obtain ⟨l, hl⟩ : ∃ l, l = a / 4 := ⟨_, rfl⟩
  have HL : Hid (l = a / 4 ∧ a < 16384 ∧ l < 4096 ∧ x ≤ 65535 ∧ y ≤ 65535) := ⟨hl, ha4, by omega, hx, hy⟩
  clear hc hseg hlen hws hL ha ha4 hl hx hy
  go_enter Try.func5, Try.ntmps5
  go_wp2_with fail
  refine H0.out.mono ?_
  rintro r w1 ⟨rfl, ⟨st, F, g1, g2, g3⟩, g4⟩
  have H1 : Hid (Calls _ _ _ _ _) := touch_any c a st F w1 g1 HL.out.2.1
  have HF : Hid ((∀ b, F b → w.heap.size ≤ b) ∧ Keeps (fun _ => False) w w1) := ⟨fun b hb => by have := g3 b hb; have := HC.out; omega, g4⟩
  rw [← HL.out.1] at H1
  obtain ⟨n1, hn1⟩ : ∃ n, n = cost l st := ⟨_, rfl⟩
  rw [← hn1] at H1
  clear H0 g1 g2 g3 g4 hn1
  go_wp2_with fail
  refine (HA.out _).mono ?_
  rintro r w2 ⟨rfl, rfl⟩
  go_wp2_with fail
  refine H1.out.mono ?_
  rintro r w3 ⟨rfl, hN⟩
  obtain ⟨F3, f1, f2, f3⟩ := hN.step HF.out.2 HF.out.1
  have H2 : Hid (Calls _ _ _ _ _) := holds_any c a _ F3 w3 f1 HL.out.2.1
  rw [← HL.out.1, step_same, decide_eq_true (putL_mem _ _)] at H2
  have HF3 : Hid (Ca w3 c (step l st) F3 ∧ (∀ b, F3 b → w.heap.size ≤ b) ∧ Keeps (fun _ => False) w w3) := ⟨f1, f2, f3⟩
  clear HF H1 hN f1 f2 f3
  go_wp2_with fail
  refine (HA.out _).mono ?_
  rintro r w4 ⟨rfl, rfl⟩
  go_wp2_with fail
  refine H2.out.mono ?_
  rintro r w5 ⟨rfl, hK5⟩
  have HF5 : Hid (Ca w5 c (step l st) F3 ∧ (∀ b, F3 b → w.heap.size ≤ b) ∧ Keeps (fun _ => False) w w5) := ⟨HF3.out.1.kept hK5 fun _ _ h => h, HF3.out.2.1, HF3.out.2.2.trans hK5 fun _ _ h => h⟩
  clear H2 HF3 hK5
  go_wp2_with fail
  refine (HA.out _).mono ?_
  rintro r w6 ⟨rfl, rfl⟩
  obtain ⟨b4, hb4⟩ : ∃ b, b = l * 4 := ⟨_, rfl⟩
  have hw1 : wrap64 ((a : Int) / 4) = (l : Int) := by
    obtain ⟨h1, h2, h3, -, -⟩ := HL.out
    unfold wrap64; omega
  have hw2 : wrap64 ((l : Int) * 4) = (b4 : Int) := by
    obtain ⟨h1, h2, h3, -, -⟩ := HL.out
    unfold wrap64; omega
  have H3 : Hid (Calls _ _ _ _ _) := touch_any c b4 _ F3 w6 HF5.out.1 (by have := HL.out.2.2.1; omega)
  have e4 : b4 / 4 = l := by omega
  rw [e4, show cost l (step l st) = 1 by unfold cost; rw [step_same, if_pos (putL_mem _ _)]] at H3
  clear hb4 e4
  go_wp2_with fail
  refine H3.out.mono ?_
  rintro r w7 ⟨rfl, hN⟩
  obtain ⟨F7, f1, f2, f3⟩ := hN.step HF5.out.2.2 HF5.out.2.1
  have HF7 : Hid (Ca w7 c (step l (step l st)) F7 ∧ (∀ b, F7 b → w.heap.size ≤ b) ∧ Keeps (fun _ => False) w w7) := ⟨f1, f2, f3⟩
  clear H3 HF5 hN f1 f2 f3 hw2
  go_wp2_with fail
  refine (HA.out _).mono ?_
  rintro r w8 ⟨rfl, rfl⟩
  go_wp2
  obtain ⟨d, hd⟩ : ∃ d, d = 1 + y % 1022 := ⟨_, rfl⟩
  have hw3 : wrap64 (1 + (wrap64 (y : Int)).tmod 1022) = (d : Int) := by
    obtain ⟨-, -, -, -, h5⟩ := HL.out
    have e1 : wrap64 (y : Int) = (y : Int) := by unfold wrap64; omega
    rw [e1, Int.tmod_eq_emod_of_nonneg (by omega)]
    unfold wrap64; omega
  rw [hw1, hw3]
  clear hw1
  have HD : Hid (1 ≤ d ∧ d ≤ 1022) := ⟨by omega, by omega⟩
  clear hd hw3
  obtain ⟨k, hk⟩ : ∃ k, k = l % 4 := ⟨_, rfl⟩
  have HK : Hid (k = l % 4) := hk
  clear hk
  go_loopw [13] (fun i wr => ∃ (j : Nat) (st : Nat → List Int) (F : Nat → Prop), 1 ≤ j ∧ j ≤ 3 ∧ i = .int .i64 j ∧ Ca wr c st F ∧ (∀ b, F b → w.heap.size ≤ b) ∧ Keeps (fun _ => False) w wr ∧ (j = 1 → ∃ us, st k = us ++ [(l : Int)]) ∧ (j = 2 → st k = [(l : Int), (other l d 1 : Int)]) ∧ (j = 3 → st k = [(other l d 1 : Int), (other l d 2 : Int)])) (fun i _ => 3 - (intOf i).toNat)
  case atStart =>
    refine ⟨1, _, F7, by omega, by omega, rfl, HF7.out.1, HF7.out.2.1, HF7.out.2.2, fun _ => ?_, by omega, by omega⟩
    rw [HK.out, step_same]
    exact putL_last _ _
  case round =>
    obtain ⟨j, st, F, hj1, hj3, rfl, hA, hF, hKw, h1, h2, h3⟩ := hrel
    by_cases hlt : j ≤ 2
    · have HR : Hid (Ca wr c st F ∧ (∀ b, F b → w.heap.size ≤ b) ∧ Keeps (fun _ => False) w wr ∧ (j = 1 → ∃ us, st k = us ++ [(l : Int)]) ∧ (j = 2 → st k = [(l : Int), (other l d 1 : Int)]) ∧ 1 ≤ j ∧ j ≤ 2) := ⟨hA, hF, hKw, h1, h2, hj1, hlt⟩
      have hltz : (j : Int) ≤ 2 := by omega
      clear hA hF hKw h1 h2 h3 hj1 hj3 hlt HF7
      have H1 : Hid (Calls _ _ _ _ _) := touch_any c (other l d j * 4) st F wr HR.out.1 (by have := ((other_facts l d HL.out.2.2.1 HD.out.1 HD.out.2).2.2.2 j).1; omega)
      rw [show other l d j * 4 / 4 = other l d j by omega] at H1
      obtain ⟨n2, hn2⟩ : ∃ n, n = cost (other l d j) st := ⟨_, rfl⟩
      rw [← hn2] at H1
      clear hn2
      go_wp2_with fail
      rw [other_arith l d j HL.out.2.2.1 HD.out.2 HR.out.2.2.2.2.2.1 HR.out.2.2.2.2.2.2]
      refine H1.out.mono ?_
      rintro r w9 ⟨rfl, hN⟩
      have HN : Hid (∃ F', Ca w9 c (step (other l d j) st) F' ∧ (∀ b, F' b → w.heap.size ≤ b) ∧ Keeps (fun _ => False) w w9) := hN.step HR.out.2.2.1 HR.out.2.1
      clear hN H1
      go_wp2
      go_roundw
      case rel =>
        obtain ⟨r1, r2, r3, r4, r5, r6, r7⟩ := HR.out
        obtain ⟨o1, o2, o3, o4⟩ := other_facts l d HL.out.2.2.1 HD.out.1 HD.out.2
        obtain ⟨F', g1, g2, g3⟩ := HN.out
        have ek : k = other l d j % 4 := by rw [(o4 j).2]; exact HK.out
        have es : step (other l d j) st k = putL 2 (other l d j : Int) (st k) := by rw [ek]; exact step_same _ _
        refine ⟨j + 1, _, F', by omega, by omega, by simp, g1, g2, g3, by omega, fun hj => ?_, fun hj => ?_⟩
        · obtain rfl : j = 1 := by omega
          obtain ⟨us, hu⟩ := r4 rfl
          have hk4 : k < 4 := by have := HK.out; omega
          have n1 := r1.nodup k hk4
          have n2 := r1.fits k hk4
          rw [hu] at n1 n2
          rw [es, hu]
          exact putL_two n1 n2 (by omega)
        · obtain rfl : j = 2 := by omega
          rw [es, r5 rfl]
          exact putL_three (by omega) (by omega)
      case measure => have := HR.out.2.2.2.2.2; simp [intOf]; omega
    · obtain rfl : j = 3 := by omega
      obtain ⟨o1, o2, o3, o4⟩ := other_facts l d HL.out.2.2.1 HD.out.1 HD.out.2
      have hnot : (l : Int) ∉ st (l % 4) := by
        rw [← HK.out, h3 rfl]
        simp
        omega
      have H1 : Hid (Calls _ _ _ _ _) := holds_any c a st F wr hA HL.out.2.1
      rw [← HL.out.1, decide_eq_false hnot] at H1
      have HR : Hid (Ca wr c st F ∧ (∀ b, F b → w.heap.size ≤ b) ∧ Keeps (fun _ => False) w wr ∧ (l : Int) ∉ st (l % 4)) := ⟨hA, hF, hKw, hnot⟩
      clear hA hF hKw h1 h2 h3 hj1 hj3 hlt HF7 o1 o2 o3 o4 hnot
      go_wp2_with fail
      refine (HA.out _).mono ?_
      rintro r w10 ⟨rfl, rfl⟩
      go_wp2_with fail
      refine H1.out.mono ?_
      rintro r w11 ⟨rfl, hK11⟩
      have H2 : Hid (Calls _ _ _ _ _) := touch_any c a st F w11 (HR.out.1.kept hK11 fun _ _ h => h) HL.out.2.1
      rw [← HL.out.1, show cost l st = 7 by unfold cost; rw [if_neg HR.out.2.2.2]] at H2
      have HK11 : Hid (Keeps (fun _ => False) w w11) := HR.out.2.2.1.trans hK11 fun _ _ h => h
      clear H1 hK11
      go_wp2_with fail
      refine (HA.out _).mono ?_
      rintro r w12 ⟨rfl, rfl⟩
      go_wp2_with fail
      refine H2.out.mono ?_
      rintro r w13 ⟨rfl, hN⟩
      have HK13 : Hid (Keeps (fun _ => False) w w13) := HK11.out.trans hN.2 fun b hb hf => by have := HR.out.2.1 b hf; omega
      clear H2 hN HR
      go_wp2
      go_ret
      exact ⟨rfl, HK13.out⟩

end Go.Proofs.Ytajhkilclmicjaa
