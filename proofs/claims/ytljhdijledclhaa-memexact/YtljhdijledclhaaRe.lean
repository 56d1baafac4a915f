import Derived.Test.YtljhdijledclhaaRb
namespace Go.Proofs.Ytljhdijledclhaa
open Go.RowKit
set_option linter.unusedVariables false
set_option linter.unusedSimpArgs false

set_option maxHeartbeats 400000 in
theorem rfill_out (b g : Nat) (xs : List UInt32) (p n : Int) (x : Nat) (w : World) (h : Rm w b g xs) (hp1 : -9223372036854775808 ≤ p) (hp2 : p ≤ 9223372036854775807) (hf : ¬ (0 ≤ p ∧ 0 ≤ n ∧ p + n ≤ xs.length)) :
    Calls Try.prog 48 #[.pointer (some ⟨b, 0, none⟩), .int .i64 p, .int .i64 n, .int .u32 x] w fun e w' => e = .returned (.int .i64 51) ∧ w' = w := by
  have H1 := rrun_n b g xs p n w h hp1 hp2
  rw [show inN p n xs.length = false by unfold inN; rw [decide_eq_false (by omega)]] at H1
  have H1 : Hid (Calls _ _ _ _ _) := H1
  clear h hp1 hp2 hf
  go_enter Try.func48, Try.ntmps48
  go_wp2_with fail
  refine H1.out.mono ?_
  rintro e w1 ⟨rfl, hw⟩
  obtain rfl := hw.symm
  clear hw H1
  go_wp2
  go_ret
  exact ⟨rfl, rfl⟩

theorem fill_snoc {xs : List UInt32} {p j : Nat} {x : UInt32} (h : p + j < xs.length) : lay xs p (List.replicate (j + 1) x) = lay (lay xs p (List.replicate j x)) (p + j) [x] := by
  have hl : (List.replicate (j + 1) x).length = j + 1 := by simp
  have e := lay_snoc (xs := xs) (p := p) (j := j) (ys := List.replicate (j + 1) x) (by simp) (by simp; omega)
  rw [List.take_of_length_le (by simp)] at e
  rw [e]
  simp

set_option maxRecDepth 20000 in
set_option maxHeartbeats 1000000 in
theorem rfill_in (b g : Nat) (xs : List UInt32) (p n : Nat) (x : UInt32) (w : World) (h : Rm w b g xs) (hf : p + n ≤ xs.length) :
    Calls Try.prog 48 #[.pointer (some ⟨b, 0, none⟩), .int .i64 p, .int .i64 n, .int .u32 (x.toNat : Int)] w fun e w' => e = .returned (.int .i64 0) ∧ Rm w' b g (lay xs p (List.replicate n x)) ∧ Keeps (· = g) w w' := by
  have H1 := rrun_n b g xs p n w h (by omega) (by have := h.small; omega)
  rw [show inN p n xs.length = true by unfold inN; rw [decide_eq_true (by omega)]] at H1
  have H1 : Hid (Calls _ _ _ _ _) := H1
  have HP : Hid (Rm w b g xs ∧ p + n ≤ xs.length) := ⟨h, hf⟩
  have b2 : (p : Int) ≤ 16384 := by have := h.small; omega
  have b1 : (n : Int) ≤ 16384 := by have := h.small; omega
  obtain ⟨N, hN⟩ : ∃ N, N = xs.length := ⟨_, rfl⟩
  have HN : Hid (N = xs.length) := hN
  have b3 : (p : Int) + (n : Int) ≤ N := by omega
  clear h hf hN
  go_enter Try.func48, Try.ntmps48
  go_wp2_with fail
  refine H1.out.mono ?_
  rintro e w1 ⟨rfl, hw⟩
  obtain rfl := hw.symm
  clear hw H1
  go_wp2
  go_loopw [9] (fun i wr => ∃ j : Nat, j ≤ n ∧ i = .int .i64 j ∧ Rm wr b g (lay xs p (List.replicate j x)) ∧ Keeps (· = g) w wr) (fun i _ => n - (intOf i).toNat)
  case atStart => exact ⟨0, by omega, rfl, by simpa [lay] using HP.out.1, Keeps.refl _ _⟩
  case round =>
    obtain ⟨j, hj, rfl, hR, hK⟩ := hrel
    by_cases hlt : j < n
    · have hlt' : (j : Int) < n := by omega
      have hf := HP.out.2
      have hlen : (lay xs p (List.replicate j x)).length = xs.length := lay_length _ _ _ (by rw [List.length_replicate]; omega)
      have hpj : p + j < (lay xs p (List.replicate j x)).length := by omega
      have cu := hR.cell (p + j) hpj
      have fu := hR.frozen (p + j)
      obtain ⟨c0, hc, hb⟩ := hR.blk
      have cb := hb.cell (i := 0) rfl
      rw [hlen, ← HN.out] at cb
      have HR' : Hid (Rm (wr.setCell ⟨g, p + j, none⟩ (.int .u32 (x.toNat : Int))) b g (lay xs p (List.replicate (j + 1) x)) ∧ Keeps (· = g) w (wr.setCell ⟨g, p + j, none⟩ (.int .u32 (x.toNat : Int)))) := by
        rw [fill_snoc (by omega)]
        exact ⟨hR.set (p + j) _ hpj, hK.setCell _ _ fun _ => rfl⟩
      obtain ⟨u, hu⟩ : ∃ y : Nat, y = ((lay xs p (List.replicate j x))[p + j]'hpj).toNat := ⟨_, rfl⟩
      rw [← hu] at cu
      have q1 : (p : Int) + (j : Int) < N := by omega
      have q2 : p + j < N := by omega
      have hwr : IntKind.i64.wrap ((p : Int) + (j : Int)) = (p : Int) + (j : Int) := by rw [IntKind.wrap_i64]; omega
      have q0 : (0 : Int) ≤ (p : Int) + (j : Int) := by omega
      have n1 : ¬ b = g := hR.ne
      clear hf hlen hpj hR hK hc hb hu hj
      go_wp2
      go_roundw
      case rel => exact ⟨j + 1, by omega, by go_num, HR'.out⟩
      case measure => simp [intOf]; omega
    · obtain rfl : j = n := by omega
      have HF : Hid (Rm wr b g (lay xs p (List.replicate j x)) ∧ Keeps (· = g) w wr) := ⟨hR, hK⟩
      clear hR hK hlt hj
      go_wp2
      go_ret
      exact ⟨rfl, HF.out⟩

set_option maxHeartbeats 400000 in
theorem rmove_out (b g : Nat) (xs : List UInt32) (p q n : Int) (w : World) (h : Rm w b g xs) (hp1 : -9223372036854775808 ≤ p) (hp2 : p ≤ 9223372036854775807) (hf : ¬ (0 ≤ p ∧ 0 ≤ n ∧ p + n ≤ xs.length)) :
    Calls Try.prog 49 #[.pointer (some ⟨b, 0, none⟩), .int .i64 p, .int .i64 q, .int .i64 n] w fun e w' => e = .returned (.int .i64 51) ∧ w' = w := by
  have H1 := rrun_n b g xs p n w h hp1 hp2
  rw [show inN p n xs.length = false by unfold inN; rw [decide_eq_false (by omega)]] at H1
  have H1 : Hid (Calls _ _ _ _ _) := H1
  clear h hp1 hp2 hf
  go_enter Try.func49, Try.ntmps49
  go_wp2_with fail
  refine H1.out.mono ?_
  rintro e w1 ⟨rfl, hw⟩
  obtain rfl := hw.symm
  clear hw H1
  go_wp2
  go_ret
  exact ⟨rfl, rfl⟩

set_option maxHeartbeats 400000 in
theorem rmove_out2 (b g : Nat) (xs : List UInt32) (p q n : Int) (w : World) (h : Rm w b g xs) (hp1 : -9223372036854775808 ≤ p) (hp2 : p ≤ 9223372036854775807) (hq1 : -9223372036854775808 ≤ q) (hq2 : q ≤ 9223372036854775807) (hf : 0 ≤ p ∧ 0 ≤ n ∧ p + n ≤ xs.length) (hf2 : ¬ (0 ≤ q ∧ 0 ≤ n ∧ q + n ≤ xs.length)) :
    Calls Try.prog 49 #[.pointer (some ⟨b, 0, none⟩), .int .i64 p, .int .i64 q, .int .i64 n] w fun e w' => e = .returned (.int .i64 51) ∧ w' = w := by
  have H1 := rrun_n b g xs p n w h hp1 hp2
  rw [show inN p n xs.length = true by unfold inN; rw [decide_eq_true (by omega)]] at H1
  have H1 : Hid (Calls _ _ _ _ _) := H1
  have H2 := rrun_n b g xs q n w h hq1 hq2
  rw [show inN q n xs.length = false by unfold inN; rw [decide_eq_false (by omega)]] at H2
  have H2 : Hid (Calls _ _ _ _ _) := H2
  clear h hp1 hp2 hf hq1 hq2 hf2
  go_enter Try.func49, Try.ntmps49
  go_wp2_with fail
  refine H1.out.mono ?_
  rintro e w1 ⟨rfl, hw⟩
  obtain rfl := hw.symm
  clear hw H1
  go_wp2_with fail
  refine H2.out.mono ?_
  rintro e w1 ⟨rfl, hw⟩
  obtain rfl := hw.symm
  clear hw H2
  go_wp2
  go_ret
  exact ⟨rfl, rfl⟩

set_option maxHeartbeats 400000 in
theorem rmove_in (b g : Nat) (xs : List UInt32) (p q n : Nat) (w : World) (h : Rm w b g xs) (hf : p + n ≤ xs.length) (hq : q + n ≤ xs.length) :
    Calls Try.prog 49 #[.pointer (some ⟨b, 0, none⟩), .int .i64 p, .int .i64 q, .int .i64 n] w fun e w' => e = .returned (.int .i64 0) ∧ Rm w' b g (lay xs p (win xs q n)) ∧ Keeps (· = g) w w' := by
  have hs := h.small
  have H1 := rrun_n b g xs p n w h (by omega) (by omega)
  rw [show inN p n xs.length = true by unfold inN; rw [decide_eq_true (by omega)]] at H1
  have H1 : Hid (Calls _ _ _ _ _) := H1
  have H2 := rrun_n b g xs q n w h (by omega) (by omega)
  rw [show inN q n xs.length = true by unfold inN; rw [decide_eq_true (by omega)]] at H2
  have H2 : Hid (Calls _ _ _ _ _) := H2
  have H3 : Hid (Calls _ _ _ _ _) := rtake_in b g xs q n w h hq
  have HL : Hid (∀ a c w1, OwnW w w1 (.slice a n c) (win xs q n) → Calls Try.prog 47 #[.pointer (some ⟨b, 0, none⟩), .int .i64 p, .slice a n c] w1 fun e w' => e = .returned (.int .i64 0) ∧ Rm w' b g (lay xs p (win xs q n)) ∧ Keeps (· = g) w w') := by
    intro a c w1 hO
    have hl := win_length xs q n hq
    have hown : w1.ownsRow 0 26 1 (.slice a (win xs q n).length c) (win xs q n).length (wvs (win xs q n)) := by
      have h := hO.own
      rw [hl] at h ⊢
      exact h
    have hseg := owns_segW hown
    have hg := h.ltg
    have hne : ∀ x, a = some x → x.block ≠ g := by
      intro x hx e
      have := hO.new x.block (by rw [hx]; rfl)
      omega
    have hR := h.grown hO.k
    have hC := rlay_in b g xs p a c (win xs q n) w1 hR hseg (fun x hx _ => hne x hx) (by omega)
    rw [hl] at hC
    refine hC.mono ?_
    rintro e w' ⟨rfl, h1, h2⟩
    exact ⟨rfl, h1, hO.k.none.trans h2 fun _ _ e => e⟩
  clear h hf hq hs
  go_enter Try.func49, Try.ntmps49
  go_wp2_with fail
  refine H1.out.mono ?_
  rintro e w1 ⟨rfl, hw⟩
  obtain rfl := hw.symm
  clear hw H1
  go_wp2_with fail
  refine H2.out.mono ?_
  rintro e w1 ⟨rfl, hw⟩
  obtain rfl := hw.symm
  clear hw H2
  go_wp2_with fail
  refine H3.out.mono ?_
  rintro e w1 ⟨a, c, rfl, hO⟩
  have HO : Hid (OwnW w w1 (.slice a n c) (win xs q n)) := hO
  clear hO H3
  go_wp2_with fail
  refine (HL.out a c _ HO.out).mono ?_
  rintro e w2 ⟨rfl, h1, h2⟩
  have HF : Hid (Rm w2 b g (lay xs p (win xs q n)) ∧ Keeps (· = g) w w2) := ⟨h1, h2⟩
  clear h1 h2 HL HO
  go_wp2
  go_ret
  exact ⟨rfl, HF.out⟩

end Go.Proofs.Ytljhdijledclhaa
