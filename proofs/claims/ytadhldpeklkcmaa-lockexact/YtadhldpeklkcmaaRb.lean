import Derived.Test.YtadhldpeklkcmaaRa
namespace Go.Proofs.Ytadhldpeklkcmaa
open Go.RowKit
set_option linter.unusedVariables false

set_option maxHeartbeats 400000 in
theorem rtake_any (b g : Nat) (xs : List UInt32) (p : Int) (w : World) (h : Rm w b g xs) :
    Calls Try.prog 31 #[.pointer (some ⟨b, 0, none⟩), .int .i64 p] w fun e w' => e = .returned (.tuple #[.int .u32 ((tkT xs p).toNat : Int), .int .i64 (tkE xs p : Nat)]) ∧ Rm w' b g (tkX xs p) ∧ Keeps (· = g) w w' := by
  by_cases hk : LkOk xs p
  · have H1 := rwords_in b g xs p w h hk
    have e1 := succ32 (nx xs p)
    have e2 : (((nx xs p - tu xs p).toNat : Nat) : Int) = (((nx xs p).toNat : Int) - (tu xs p).toNat) % 4294967296 := by
      rw [UInt32.toNat_sub]; have := (nx xs p).toNat_lt; have := (tu xs p).toNat_lt; omega
    unfold tkT tkE tkX
    rw [if_pos hk, if_pos hk, if_pos hk]
    obtain ⟨q, hq⟩ : ∃ q : Nat, p = q := ⟨p.toNat, by have := hk.1; omega⟩
    have hqL : q < xs.length := by have := hk.2; omega
    by_cases hf : nx xs p - tu xs p = 0xffffffff
    · rw [if_pos hf, if_pos hf, if_pos hf]
      have hd : (((nx xs p).toNat : Int) - (tu xs p).toNat) % 4294967296 = 4294967295 := by rw [← e2, hf]; rfl
      obtain ⟨n, hn'⟩ : ∃ n : Nat, n = (nx xs p).toNat := ⟨_, rfl⟩
      obtain ⟨t, ht'⟩ : ∃ t : Nat, t = (tu xs p).toNat := ⟨_, rfl⟩
      rw [← hn', ← ht'] at H1 hd
      have H1 : Hid (Calls _ _ _ _ _) := H1
      have HM : Hid (Rm w b g xs) := h
      clear h hk hf hn' ht' e1 e2 hq hqL
      go_enter Try.func31, Try.ntmps31
      go_wp2_with fail
      refine H1.out.mono ?_
      rintro e w1 ⟨rfl, hw⟩
      have HW : Hid (Keeps _ _ _) := hw
      clear hw
      go_wp2
      go_ret2
      exact ⟨rfl, HM.out.grown HW.out, HW.out.none⟩
    · rw [if_neg hf, if_neg hf, if_neg hf]
      have hd : ¬ (((nx xs p).toNat : Int) - (tu xs p).toNat) % 4294967296 = 4294967295 := by
        rw [← e2]
        intro e
        apply hf
        apply UInt32.toNat_inj.1
        have : (0xffffffff : UInt32).toNat = 4294967295 := rfl
        omega
      have hd2 : (((((nx xs p).toNat : Int) - (tu xs p).toNat) % 4294967296) == 4294967295) = false := beq_eq_false_iff_ne.2 hd
      have HS := fun w1 (h1 : Rm w1 b g xs) => h1.set q (nx xs p + 1) hqL
      have eq : p.toNat = q := by omega
      rw [eq]
      rw [hq]
      rw [hq] at H1 hd hd2 e1 HS
      obtain ⟨ys, hys⟩ : ∃ ys, ys = lay xs q [nx xs q + 1] := ⟨_, rfl⟩
      rw [← hys] at HS ⊢
      rw [e1] at HS
      obtain ⟨n, hn'⟩ : ∃ n : Nat, n = (nx xs q).toNat := ⟨_, rfl⟩
      obtain ⟨t, ht'⟩ : ∃ t : Nat, t = (tu xs q).toNat := ⟨_, rfl⟩
      rw [← hn', ← ht'] at H1 hd hd2
      rw [← hn'] at HS ⊢
      have H1 : Hid (Calls _ _ _ _ _) := H1
      have HM : Hid (Rm w b g xs ∧ q < xs.length) := ⟨h, hqL⟩
      have HS : Hid (∀ w1, Rm w1 b g xs → _) := HS
      obtain ⟨L, hL⟩ : ∃ L, L = xs.length := ⟨_, rfl⟩
      have h6 : (q : Int) < L := by omega
      have HL : Hid (L = xs.length) := hL
      clear h hk hf hn' ht' e1 e2 hqL eq hys hq hL
      go_enter Try.func31, Try.ntmps31
      go_wp2_with fail
      refine H1.out.mono ?_
      rintro e w1 ⟨rfl, hw⟩
      have hM1 := HM.out.1.grown hw
      have c0 := hM1.blk.cell (i := 0) rfl
      rw [← HL.out] at c0
      have c1 := hM1.row.cell (wvs_get xs q HM.out.2)
      have z1 := hM1.row.frozen q
      have HF : Hid (Rm (w1.setCell ⟨g, q, none⟩ (.int .u32 (((n : Int) + 1) % 4294967296))) b g ys) := HS.out w1 hM1
      have HW : Hid (Keeps _ _ _) := hw
      clear hw hM1 HS
      go_wp2
      go_ret2
      exact ⟨rfl, HF.out, HW.out.none.setCell _ _ fun _ => rfl⟩
  · have H1 : Hid (Calls _ _ _ _ _) := rwords_out b g xs p w h hk
    unfold tkT tkE tkX
    rw [if_neg hk, if_neg hk, if_neg hk]
    have HM : Hid (Rm w b g xs) := h
    clear h hk
    go_enter Try.func31, Try.ntmps31
    go_wp2_with fail
    refine H1.out.mono ?_
    rintro e w1 ⟨rfl, hw⟩
    obtain rfl := hw.symm
    clear hw
    go_wp2
    go_ret2
    exact ⟨rfl, HM.out, Keeps.refl _ _⟩

set_option maxHeartbeats 400000 in
theorem rmine_any (b g : Nat) (xs : List UInt32) (p : Int) (k : UInt32) (w : World) (h : Rm w b g xs) :
    Calls Try.prog 33 #[.pointer (some ⟨b, 0, none⟩), .int .i64 p, .int .u32 (k.toNat : Int)] w fun e w' => e = .returned (.tuple #[.bool (mnB xs p k), .int .i64 (okE xs p : Nat)]) ∧ Keeps (fun _ => False) w w' := by
  by_cases hk : LkOk xs p
  · have H1 : Hid (Calls _ _ _ _ _) := rwords_in b g xs p w h hk
    unfold mnB okE
    rw [if_pos hk, if_pos hk]
    have E1 : Hid (((k.toNat : Int) == ((tu xs p).toNat : Int)) = (tu xs p == k)) := by
      show _ = _
      by_cases e : tu xs p = k
      · rw [e]; simp
      · have e1 : (tu xs p == k) = false := beq_eq_false_iff_ne.2 e
        have e2 : ((k.toNat : Int) == ((tu xs p).toNat : Int)) = false := beq_eq_false_iff_ne.2 (fun e2 => e (UInt32.toNat_inj.1 (by omega)))
        rw [e1, e2]
    clear h hk
    go_enter Try.func33, Try.ntmps33
    go_wp2_with fail
    refine H1.out.mono ?_
    rintro e w1 ⟨rfl, hw⟩
    have HW : Hid (Keeps _ _ _) := hw
    clear hw
    go_wp2
    go_ret2
    refine ⟨?_, HW.out⟩
    rw [← E1.out]
    first | rfl | simp
  · have H1 : Hid (Calls _ _ _ _ _) := rwords_out b g xs p w h hk
    unfold mnB okE
    rw [if_neg hk, if_neg hk]
    clear h hk
    go_enter Try.func33, Try.ntmps33
    go_wp2_with fail
    refine H1.out.mono ?_
    rintro e w1 ⟨rfl, hw⟩
    obtain rfl := hw.symm
    clear hw
    go_wp2
    go_ret2
    exact ⟨rfl, Keeps.refl _ _⟩

set_option maxHeartbeats 400000 in
theorem rwaiting_any (b g : Nat) (xs : List UInt32) (p : Int) (w : World) (h : Rm w b g xs) :
    Calls Try.prog 36 #[.pointer (some ⟨b, 0, none⟩), .int .i64 p] w fun e w' => e = .returned (.tuple #[.int .i64 (wtN xs p : Nat), .int .i64 (okE xs p : Nat)]) ∧ Keeps (fun _ => False) w w' := by
  by_cases hk : LkOk xs p
  · have H1 : Hid (Calls _ _ _ _ _) := rwords_in b g xs p w h hk
    have e2 : (((nx xs p - tu xs p).toNat : Nat) : Int) = (((nx xs p).toNat : Int) - (tu xs p).toNat) % 4294967296 := by
      rw [UInt32.toNat_sub]; have := (nx xs p).toNat_lt; have := (tu xs p).toNat_lt; omega
    unfold wtN okE
    rw [if_pos hk, if_pos hk]
    have h0 : IntKind.i64.wrap ((((nx xs p).toNat : Int) - (tu xs p).toNat) % 4294967296) = (((nx xs p).toNat : Int) - (tu xs p).toNat) % 4294967296 := by rw [IntKind.wrap_i64]; omega
    have E2 : Hid (_ = _) := e2
    clear h hk e2
    go_enter Try.func36, Try.ntmps36
    go_wp2_with fail
    refine H1.out.mono ?_
    rintro e w1 ⟨rfl, hw⟩
    have HW : Hid (Keeps _ _ _) := hw
    clear hw
    go_wp2
    go_ret2
    refine ⟨?_, HW.out⟩
    rw [E2.out]
    first | rfl | simp
  · have H1 : Hid (Calls _ _ _ _ _) := rwords_out b g xs p w h hk
    unfold wtN okE
    rw [if_neg hk, if_neg hk]
    clear h hk
    go_enter Try.func36, Try.ntmps36
    go_wp2_with fail
    refine H1.out.mono ?_
    rintro e w1 ⟨rfl, hw⟩
    obtain rfl := hw.symm
    clear hw
    go_wp2
    go_ret2
    exact ⟨rfl, Keeps.refl _ _⟩

theorem sub32_zero (a b : UInt32) : a - b = 0 ↔ a = b := by
  constructor
  · intro h
    apply UInt32.toNat_inj.1
    have h1 := congrArg UInt32.toNat h
    rw [UInt32.toNat_sub] at h1
    have : (0 : UInt32).toNat = 0 := rfl
    have := a.toNat_lt
    have := b.toNat_lt
    omega
  · rintro rfl
    apply UInt32.toNat_inj.1
    rw [UInt32.toNat_sub]
    have : (0 : UInt32).toNat = 0 := rfl
    have := a.toNat_lt
    omega

set_option maxHeartbeats 400000 in
theorem rfree_any (b g : Nat) (xs : List UInt32) (p : Int) (k : UInt32) (w : World) (h : Rm w b g xs) :
    Calls Try.prog 35 #[.pointer (some ⟨b, 0, none⟩), .int .i64 p, .int .u32 (k.toNat : Int)] w fun e w' => e = .returned (.int .i64 (frE xs p k : Nat)) ∧ Rm w' b g (frX xs p k) ∧ Keeps (· = g) w w' := by
  by_cases hk : LkOk xs p
  · have H1 := rwords_in b g xs p w h hk
    have e1 := succ32 (tu xs p)
    unfold frE frX
    rw [if_pos hk, if_pos hk]
    obtain ⟨q, hq⟩ : ∃ q : Nat, p = q := ⟨p.toNat, by have := hk.1; omega⟩
    have hqL : q + 1 < xs.length := by have := hk.2; omega
    have hs := h.small
    by_cases hz : nx xs p = tu xs p
    · have hf : nx xs p - tu xs p = 0 ∨ tu xs p ≠ k := .inl ((sub32_zero _ _).2 hz)
      rw [if_pos hf, if_pos hf]
      rw [hz] at H1
      obtain ⟨t, ht'⟩ : ∃ t : Nat, t = (tu xs p).toNat := ⟨_, rfl⟩
      rw [← ht'] at H1
      have H1 : Hid (Calls _ _ _ _ _) := H1
      have HM : Hid (Rm w b g xs) := h
      clear h hk hf ht' e1 hq hqL hz hs
      go_enter Try.func35, Try.ntmps35
      go_wp2_with fail
      refine H1.out.mono ?_
      rintro e w1 ⟨rfl, hw⟩
      have HW : Hid (Keeps _ _ _) := hw
      clear hw
      go_wp2
      go_ret
      exact ⟨rfl, HM.out.grown HW.out, HW.out.none⟩
    · have hz1 : ¬ (nx xs p).toNat = (tu xs p).toNat := fun e => hz (UInt32.toNat_inj.1 e)
      have hz0 : ¬ nx xs p - tu xs p = 0 := fun e => hz ((sub32_zero _ _).1 e)
      by_cases ht : tu xs p = k
      · rw [if_neg (by rintro (e | e); exact hz0 e; exact e ht), if_neg (by rintro (e | e); exact hz0 e; exact e ht)]
        have HS := fun w1 (h1 : Rm w1 b g xs) => h1.set (q + 1) (tu xs p + 1) hqL
        have eq : p.toNat = q := by omega
        rw [eq, ← ht]
        rw [hq]
        rw [hq] at H1 hz1 e1 HS
        obtain ⟨ys, hys⟩ : ∃ ys, ys = lay xs (q + 1) [tu xs q + 1] := ⟨_, rfl⟩
        rw [← hys] at HS ⊢
        rw [e1] at HS
        obtain ⟨n, hn'⟩ : ∃ n : Nat, n = (nx xs q).toNat := ⟨_, rfl⟩
        obtain ⟨t, ht'⟩ : ∃ t : Nat, t = (tu xs q).toNat := ⟨_, rfl⟩
        rw [← hn', ← ht'] at H1 hz1
        rw [← ht'] at HS ⊢
        have hz2 : ¬ (n : Int) = (t : Int) := by omega
        have hz3 : (n == t) = false := beq_eq_false_iff_ne.2 hz1
        have hz4 : ((n : Int) == (t : Int)) = false := beq_eq_false_iff_ne.2 hz2
        have H1 : Hid (Calls _ _ _ _ _) := H1
        have HM : Hid (Rm w b g xs ∧ q + 1 < xs.length) := ⟨h, hqL⟩
        have HS : Hid (∀ w1, Rm w1 b g xs → _) := HS
        obtain ⟨L, hL⟩ : ∃ L, L = xs.length := ⟨_, rfl⟩
        obtain ⟨q1, hq1⟩ : ∃ q1, q1 = q + 1 := ⟨_, rfl⟩
        have h6 : (q1 : Int) < L := by omega
        have h5 : IntKind.i64.wrap ((q : Int) + 1) = (q1 : Int) := by rw [IntKind.wrap_i64]; omega
        have HL : Hid (L = xs.length ∧ q1 = q + 1) := ⟨hL, hq1⟩
        rw [← hq1] at HS HM
        clear h hk hn' ht' e1 hqL eq hys hq hL hz hz0 ht hq1 hs
        go_enter Try.func35, Try.ntmps35
        go_wp2_with fail
        refine H1.out.mono ?_
        rintro e w1 ⟨rfl, hw⟩
        have hM1 := HM.out.1.grown hw
        have c0 := hM1.blk.cell (i := 0) rfl
        rw [← HL.out.1] at c0
        have c1 := hM1.row.cell (wvs_get xs q1 HM.out.2)
        have z1 := hM1.row.frozen q1
        have HF : Hid (Rm (w1.setCell ⟨g, q1, none⟩ (.int .u32 (((t : Int) + 1) % 4294967296))) b g ys) := HS.out w1 hM1
        have HW : Hid (Keeps _ _ _) := hw
        clear hw hM1 HS
        go_wp2
        go_ret
        exact ⟨rfl, HF.out, HW.out.none.setCell _ _ fun _ => rfl⟩
      · have hf : nx xs p - tu xs p = 0 ∨ tu xs p ≠ k := .inr ht
        rw [if_pos hf, if_pos hf]
        have ht1 : ¬ k.toNat = (tu xs p).toNat := fun e => ht (UInt32.toNat_inj.1 e.symm)
        obtain ⟨n, hn'⟩ : ∃ n : Nat, n = (nx xs p).toNat := ⟨_, rfl⟩
        obtain ⟨t, ht'⟩ : ∃ t : Nat, t = (tu xs p).toNat := ⟨_, rfl⟩
        obtain ⟨kk, hkk⟩ : ∃ t : Nat, t = k.toNat := ⟨_, rfl⟩
        rw [← hn', ← ht'] at H1 hz1
        rw [← hkk, ← ht'] at ht1
        rw [← hkk]
        have hz2 : ¬ (n : Int) = (t : Int) := by omega
        have hz3 : (n == t) = false := beq_eq_false_iff_ne.2 hz1
        have hz4 : ((n : Int) == (t : Int)) = false := beq_eq_false_iff_ne.2 hz2
        have ht2 : ¬ (kk : Int) = (t : Int) := by omega
        have ht3 : (kk != t) = true := bne_iff_ne.2 ht1
        have ht4 : ((kk : Int) != (t : Int)) = true := bne_iff_ne.2 ht2
        have H1 : Hid (Calls _ _ _ _ _) := H1
        have HM : Hid (Rm w b g xs) := h
        clear h hk hf ht' hn' e1 hq hqL hz hz0 ht hkk hs
        go_enter Try.func35, Try.ntmps35
        go_wp2_with fail
        refine H1.out.mono ?_
        rintro e w1 ⟨rfl, hw⟩
        have HW : Hid (Keeps _ _ _) := hw
        clear hw
        go_wp2
        go_ret
        exact ⟨rfl, HM.out.grown HW.out, HW.out.none⟩
  · have H1 : Hid (Calls _ _ _ _ _) := rwords_out b g xs p w h hk
    unfold frE frX
    rw [if_neg hk, if_neg hk]
    have HM : Hid (Rm w b g xs) := h
    clear h hk
    go_enter Try.func35, Try.ntmps35
    go_wp2_with fail
    refine H1.out.mono ?_
    rintro e w1 ⟨rfl, hw⟩
    obtain rfl := hw.symm
    clear hw
    go_wp2
    go_ret
    exact ⟨rfl, HM.out, Keeps.refl _ _⟩

/-- A word of the document's memory is written. -/
def wrX (xs : List UInt32) (p : Int) (x : UInt32) : List UInt32 := if 0 ≤ p ∧ p < xs.length then lay xs p.toNat [x] else xs
def wrE (xs : List UInt32) (p : Int) : Nat := if 0 ≤ p ∧ p < xs.length then 0 else 51

theorem write_any (b g : Nat) (xs : List UInt32) (p : Int) (x : UInt32) (w : World) (h : Mm w b g xs) (hp : p ≤ 9223372036854775807) :
    Calls Try.prog 37 #[.pointer (some ⟨b, 0, none⟩), .int .i64 p, .int .u32 (x.toNat : Int)] w fun e w' => e = .returned (.int .i64 (wrE xs p : Nat)) ∧ Mm w' b g (wrX xs p x) ∧ Keeps (· = g) w w' := by
  unfold wrE wrX
  by_cases hf : 0 ≤ p ∧ p < xs.length
  · rw [if_pos hf, if_pos hf]
    have H := write_in b g xs p.toNat x w h (by omega)
    rw [Int.toNat_of_nonneg hf.1] at H
    exact H
  · rw [if_neg hf, if_neg hf]
    refine (write_out b g xs p x.toNat w h hf hp).mono ?_
    rintro e w' ⟨rfl, rfl⟩
    exact ⟨rfl, h, Keeps.refl _ _⟩

set_option maxHeartbeats 400000 in
theorem rrun_any (b g : Nat) (xs : List UInt32) (p : Int) (w : World) (h : Rm w b g xs) (hp1 : -9223372036854775808 ≤ p) (hp2 : p ≤ 9223372036854775807) :
    Calls Try.prog 65 #[.pointer (some ⟨b, 0, none⟩), .int .i64 p, .int .i64 1] w fun e w' => e = .returned (.bool (decide (0 ≤ p ∧ p < xs.length))) ∧ w' = w := by
  have cb := h.blk.cell (i := 0) rfl
  have hs := h.small
  obtain ⟨N, hN⟩ : ∃ N, N = xs.length := ⟨_, rfl⟩
  rw [← hN] at cb ⊢
  have hN2 : (N : Int) ≤ 16384 := by omega
  clear h hs hN
  by_cases h0 : 0 ≤ p
  · by_cases h1 : p ≤ N
    · have h3 : IntKind.i64.wrap ((N : Int) - p) = N - p := by rw [IntKind.wrap_i64]; omega
      by_cases h2 : p < N
      · have h4 : (1 : Int) ≤ N - p := by omega
        rw [decide_eq_true ⟨h0, h2⟩]
        go_enter Try.func65, Try.ntmps65
        go_wp2
        go_ret
        exact ⟨ret_bool (by simp), rfl⟩
      · have h4 : ¬ (1 : Int) ≤ N - p := by omega
        rw [decide_eq_false (fun e => h2 e.2)]
        go_enter Try.func65, Try.ntmps65
        go_wp2
        go_ret
        exact ⟨ret_bool (by simp), rfl⟩
    · rw [decide_eq_false (fun e => by omega)]
      go_enter Try.func65, Try.ntmps65
      go_wp2
      go_ret
      exact ⟨rfl, rfl⟩
  · rw [decide_eq_false (fun e => h0 e.1)]
    go_enter Try.func65, Try.ntmps65
    go_wp2
    go_ret
    exact ⟨rfl, rfl⟩

set_option maxHeartbeats 400000 in
theorem rwrite_any (b g : Nat) (xs : List UInt32) (p : Int) (x : UInt32) (w : World) (h : Rm w b g xs) (hp1 : -9223372036854775808 ≤ p) (hp2 : p ≤ 9223372036854775807) :
    Calls Try.prog 38 #[.pointer (some ⟨b, 0, none⟩), .int .i64 p, .int .u32 (x.toNat : Int)] w fun e w' => e = .returned (.int .i64 (wrE xs p : Nat)) ∧ Rm w' b g (wrX xs p x) ∧ Keeps (· = g) w w' := by
  have H1 := rrun_any b g xs p w h hp1 hp2
  unfold wrE wrX
  by_cases hf : 0 ≤ p ∧ p < xs.length
  · rw [if_pos hf, if_pos hf]
    rw [decide_eq_true hf] at H1
    have H1 : Hid (Calls _ _ _ _ _) := H1
    obtain ⟨q, rfl⟩ : ∃ q : Nat, p = q := ⟨p.toNat, by omega⟩
    have hq : q < xs.length := by omega
    have cb := h.blk.cell (i := 0) rfl
    have cw := h.row.cell (wvs_get xs q hq)
    have zw := h.row.frozen q
    have HR : Hid (Rm (w.setCell ⟨g, q, none⟩ (.int .u32 (x.toNat : Int))) b g (lay xs q [x])) := h.set q x hq
    obtain ⟨v, hv⟩ : ∃ v : Nat, v = (xs[q]'hq).toNat := ⟨_, rfl⟩
    rw [← hv] at cw
    obtain ⟨N, hN⟩ : ∃ N, N = xs.length := ⟨_, rfl⟩
    rw [← hN] at cb hq
    obtain ⟨X, hX⟩ : ∃ X : Nat, X = x.toNat := ⟨_, rfl⟩
    rw [← hX] at HR ⊢
    have hq' : (q : Int) < N := by omega
    rw [show (q : Int).toNat = q from rfl]
    clear h hv hN hX hf hp1 hp2
    go_enter Try.func38, Try.ntmps38
    go_wp2_with fail
    refine H1.out.mono ?_
    rintro e w1 ⟨rfl, hw⟩
    obtain rfl := hw.symm
    clear hw
    go_wp2
    go_ret
    exact ⟨rfl, HR.out, (Keeps.refl (· = g) w).setCell _ _ fun _ => rfl⟩
  · rw [if_neg hf, if_neg hf]
    rw [decide_eq_false hf] at H1
    have H1 : Hid (Calls _ _ _ _ _) := H1
    have HM : Hid (Rm w b g xs) := h
    clear h hf hp1 hp2
    go_enter Try.func38, Try.ntmps38
    go_wp2_with fail
    refine H1.out.mono ?_
    rintro e w1 ⟨rfl, hw⟩
    obtain rfl := hw.symm
    clear hw
    go_wp2
    go_ret
    exact ⟨rfl, HM.out, Keeps.refl _ _⟩

set_option maxRecDepth 20000 in
set_option maxHeartbeats 400000 in
theorem rnew_in (n : Nat) (w : World) (h1 : 1 ≤ n) (h2 : n ≤ 1024) :
    Calls Try.prog 30 #[.int .i64 n] w fun e w' => e = .returned (.tuple #[.pointer (some ⟨w.heap.size + 1, 0, none⟩), .int .i64 0]) ∧ Rm w' (w.heap.size + 1) w.heap.size (List.replicate (n * 16) 0) ∧ Keeps (fun _ => False) w w' := by
  have hmk := run_make_words (w := w) (n * 16) (by omega)
  obtain ⟨W1, hW⟩ : ∃ W1, W1 = w.alloc (.cells (wvs (List.replicate (n * 16) 0)).toArray 26) := ⟨_, rfl⟩
  rw [← hW] at hmk
  have hK1 : Keeps (fun _ => False) w W1 := by rw [hW]; exact (Keeps.refl _ w).alloc _
  have hB1 : Blk W1 w.heap.size (wvs (List.replicate (n * 16) 0)) 26 := by rw [hW]; exact Blk.new w _ 26
  have hsz : W1.heap.size = w.heap.size + 1 := by rw [hW]; simp
  have e1 : ((n * 16 : Nat) : Int) = 16 * (n : Int) := by omega
  rw [e1] at hmk
  have HM : Hid (_ = _) := hmk
  have HH : Hid (Keeps (fun _ => False) w W1 ∧ Blk W1 w.heap.size (wvs (List.replicate (n * 16) 0)) 26 ∧ W1.heap.size = w.heap.size + 1 ∧ n ≤ 1024) := ⟨hK1, hB1, hsz, h2⟩
  have hn1 : (1 : Int) ≤ n := by omega
  have hn2 : (n : Int) ≤ 1024 := by omega
  obtain ⟨N, hN⟩ : ∃ N, N = n * 16 := ⟨_, rfl⟩
  rw [← hN] at HM HH ⊢
  have HN : Hid (N = n * 16) := hN
  clear hmk hW hK1 hB1 hsz e1 h1 h2 hN
  go_enter Try.func30, Try.ntmps30
  go_wp2_with (at_make; refine wpList_make_run rfl (.tmp 11) (.tmp 11) 28 rfl (.int .i64 ((16 : Int) * n)) (.int .i64 ((16 : Int) * n)) (.slice (some ⟨w.heap.size, 0, none⟩) N N) W1 rfl rfl HM.out ?_; refine Hid.out ?_)
  unfold Hid
  go_wp2
  go_ret2
  have hB := Blk.new W1 #[.slice (some ⟨w.heap.size, 0, none⟩) N N] 45
  rw [HH.out.2.2.1] at hB
  have e2 : (List.replicate N (0 : UInt32)).length = N := List.length_replicate
  refine ⟨by rw [← HH.out.2.2.1]; rfl, ⟨by omega, ?_, HH.out.2.1.alloc _, by rw [e2]; have := HN.out; have := HH.out.2.2.2; omega⟩, HH.out.1.alloc _⟩
  rw [e2]; exact hB

end Go.Proofs.Ytadhldpeklkcmaa
