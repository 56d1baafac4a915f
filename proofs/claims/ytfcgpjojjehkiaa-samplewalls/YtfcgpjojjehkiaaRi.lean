import Derived.Test.YtfcgpjojjehkiaaRh
namespace Go.Proofs.Ytfcgpjojjehkiaa
open Go.RowKit
set_option linter.unusedVariables false

theorem lkE_eq {nil : Bool} {xs : List UInt32} {p : Int} {h : Nat} {n : Int} : lkE nil xs p h n = if tkE nil xs.length p h n ≠ 0 then tkE nil xs.length p h n else if rightB h n.toNat (win xs p.toNat (h + n.toNat)) then 0 else 191 := rfl

set_option maxHeartbeats 400000 in
theorem rstaged_stand (nil : Bool) (b : Nat) (p n : Int) (w : World) (he : sdE nil n ≠ 0) :
    Calls Try.prog 30 #[mpv nil b, .int .i64 p, .int .i64 n] w fun e w' => e = .returned (.tuple #[.int .i64 0, .int .i64 (sdE nil n)]) ∧ w' = w := by
  have HS := stand_any nil b n w
  obtain ⟨E, hE⟩ : ∃ E, E = sdE nil n := ⟨_, rfl⟩
  rw [← hE] at HS he ⊢
  have hE2 : (E != 0) = true := bne_iff_ne.2 he
  unfold mpv at HS ⊢
  obtain ⟨pv, hpv⟩ : ∃ pv : Option Addr, pv = if nil then none else some ⟨b, 0, none⟩ := ⟨_, rfl⟩
  rw [← hpv] at HS ⊢
  have HS : Hid (Calls _ _ _ _ _) := HS
  clear he hE hpv
  go_enter Try.func30, Try.ntmps30
  go_wp2_with fail
  refine HS.out.mono ?_
  rintro e w1 ⟨rfl, hw⟩
  obtain rfl := hw.symm
  clear hw HS
  go_wp2
  go_ret2
  exact ⟨rfl, rfl⟩

set_option maxRecDepth 20000 in
set_option maxHeartbeats 1000000 in
theorem rstaged_in (b g : Nat) (xs : List UInt32) (p n : Int) (w : World) (hm : Rm w b g xs) (hp1 : -9223372036854775808 ≤ p) (hp2 : p ≤ 9223372036854775807) (h1 : 1 ≤ n) (h2 : n ≤ 16) :
    Calls Try.prog 30 #[.pointer (some ⟨b, 0, none⟩), .int .i64 p, .int .i64 n] w fun e w' => e = .returned (.tuple #[.int .i64 (stN false xs p n : Int), .int .i64 (lkE false xs p 2 n)]) ∧ Keeps (fun _ => False) w w' := by
  have HS := stand_any false b n w
  rw [show sdE false n = 0 by unfold sdE; rw [if_neg (by simp), if_neg (by omega)]] at HS
  have HS : Hid (Calls _ _ _ _ _) := HS
  have HT := rtk_any b g xs p 2 n w hm (.inl rfl) h1 h2 hp1 hp2
  obtain ⟨M, hM⟩ : ∃ M : Int, M = 2 + n := ⟨_, rfl⟩
  rw [show ((2 : Nat) : Int) + n = M by rw [hM]; rfl] at HT
  have HT : Hid (Calls _ _ _ _ _) := HT
  have e1 : 2 + n = M := hM.symm
  have e2 : M ≤ 18 := by omega
  have e3 : 3 ≤ M := by omega
  clear hm hp1 hp2 h1 h2 hM
  go_enter Try.func30, Try.ntmps30
  go_wp2_with fail
  refine HS.out.mono ?_
  rintro e w1 ⟨rfl, hw⟩
  obtain rfl := hw.symm
  clear hw HS
  go_wp2_with fail
  refine HT.out.mono ?_
  rintro e w2 (⟨hE, G, cG, hGs, rfl, hGc, hGB, hk2⟩ | ⟨hE, rfl, hw⟩)
  · obtain ⟨-, t1, t2, t3, t4⟩ := tkE_ok hE
    have hll : (win xs p.toNat (2 + n.toNat)).length = 2 + n.toNat := win_length _ _ _ (by omega)
    have HPE : lkE false xs p 2 n = if rightB 2 n.toNat (win xs p.toNat (2 + n.toNat)) then 0 else 191 := by rw [lkE_eq, if_neg (by simpa using hE)]
    have HRd := hread_any 2 n.toNat G cG (win xs p.toNat (2 + n.toNat)) w2 hGB hll hGc (.inl rfl) (by omega) (by omega)
    have hw0 : wd (win xs p.toNat (2 + n.toNat)) 0 = wd xs p.toNat := by rw [win_wd _ _ _ _ (by omega), Nat.add_zero]
    obtain ⟨l, hl⟩ : ∃ l, l = win xs p.toNat (2 + n.toNat) := ⟨_, rfl⟩
    rw [← hl] at HRd HPE hw0 ⊢
    obtain ⟨L, hL⟩ : ∃ L, L = l.length := ⟨_, rfl⟩
    rw [← hL] at HRd ⊢
    have HRd : Hid (Calls _ _ _ _ _) := HRd
    have HX : Hid ((lkE false xs p 2 n = if rightB 2 n.toNat l then 0 else 191) ∧ wd l 0 = wd xs p.toNat ∧ Keeps (fun _ => False) w w2) := ⟨HPE, hw0, hk2⟩
    clear hE hGs hGc hGB hk2 t1 t2 t3 t4 hll hl hL HT HPE hw0
    go_wp2_with fail
    refine HRd.out.mono ?_
    rintro e w3 ⟨T, F, va, vk, vc, rfl, hv, hk3⟩
    have H3 : Hid (Keeps (fun _ => False) w w3) := HX.out.2.2.trans hk3 fun _ _ e => e
    clear hk3 HRd
    cases hr : rightB 2 n.toNat l
    · have HE : Hid (lkE false xs p 2 n = 191 ∧ stN false xs p n = 0) := by
        have : lkE false xs p 2 n = 191 := by rw [HX.out.1, hr]; rfl
        refine ⟨this, ?_⟩
        unfold stN
        rw [this, if_neg (by omega)]
      clear hr hv
      go_wp2
      go_ret2
      exact ⟨by rw [HE.out.1, HE.out.2]; rfl, H3.out.alloc _⟩
    · obtain ⟨rfl, rfl, -⟩ := hv hr
      have HE : Hid (lkE false xs p 2 n = 0 ∧ stN false xs p n = if hT l then 1 else 0) := by
        have : lkE false xs p 2 n = 0 := by rw [HX.out.1, hr]; rfl
        refine ⟨this, ?_⟩
        unfold stN hT
        rw [this, if_pos rfl, ← HX.out.2.1]
        by_cases h0 : wd l 0 = 0
        · rw [h0]; rfl
        · rw [if_pos (by simpa using h0), (right_len hr h0).1]; rfl
      obtain ⟨t, ht⟩ : ∃ t, t = hT l := ⟨_, rfl⟩
      rw [← ht] at HE ⊢
      clear hr ht hv
      cases t
      all_goals
        go_wp2
        go_ret2
        exact ⟨by rw [HE.out.1, HE.out.2]; rfl, H3.out.alloc _⟩
  · obtain rfl := hw.symm
    have HE : Hid (lkE false xs p 2 n = 51 ∧ stN false xs p n = 0) := by
      have : lkE false xs p 2 n = 51 := by rw [lkE_eq, hE, if_pos (by omega)]
      refine ⟨this, ?_⟩
      unfold stN
      rw [this, if_neg (by omega)]
    clear hw hE HT
    go_wp2
    go_ret2
    exact ⟨by rw [HE.out.1, HE.out.2]; rfl, Keeps.refl _ _⟩

theorem lkE_sd {nil : Bool} {xs : List UInt32} {p : Int} {h : Nat} {n : Int} (e : sdE nil n ≠ 0) : lkE nil xs p h n = sdE nil n := by
  rw [lkE_eq, tkE_sd e, if_pos e]

theorem rstaged_any (nil : Bool) (b g : Nat) (xs : List UInt32) (p n : Int) (w : World) (hm : Rm w b g xs) (hp1 : -9223372036854775808 ≤ p) (hp2 : p ≤ 9223372036854775807) :
    Calls Try.prog 30 #[mpv nil b, .int .i64 p, .int .i64 n] w fun e w' => e = .returned (.tuple #[.int .i64 (stN nil xs p n : Int), .int .i64 (lkE nil xs p 2 n)]) ∧ Keeps (fun _ => False) w w' := by
  by_cases h0 : sdE nil n = 0
  · obtain ⟨rfl, h1, h2⟩ := sdE_ok h0
    exact rstaged_in b g xs p n w hm hp1 hp2 h1 h2
  · refine (rstaged_stand nil b p n w h0).mono ?_
    rintro e w' ⟨rfl, rfl⟩
    have : stN nil xs p n = 0 := by unfold stN; rw [lkE_sd h0, if_neg h0]
    rw [this, lkE_sd h0]
    exact ⟨rfl, Keeps.refl _ _⟩

/-- What the document's Read tells. -/
def RrP (w : World) (ms : List UInt32) (F T : Bool) (E : Int) (e : Ending) (w' : World) : Prop :=
  ∃ a c, e = .returned (.tuple #[.slice a ms.length c, .bool F, .bool T, .int .i64 E]) ∧ SegW w' a ms ∧ Keeps (fun _ => False) w w'

set_option maxHeartbeats 400000 in
theorem rread_stand (nil : Bool) (b : Nat) (p n : Int) (w : World) (he : sdE nil n ≠ 0) :
    Calls Try.prog 33 #[mpv nil b, .int .i64 p, .int .i64 n] w fun e w' => e = .returned (.tuple #[.slice none 0 0, .bool false, .bool false, .int .i64 (sdE nil n)]) ∧ w' = w := by
  have HS := stand_any nil b n w
  obtain ⟨E, hE⟩ : ∃ E, E = sdE nil n := ⟨_, rfl⟩
  rw [← hE] at HS he ⊢
  have hE2 : (E != 0) = true := bne_iff_ne.2 he
  unfold mpv at HS ⊢
  obtain ⟨pv, hpv⟩ : ∃ pv : Option Addr, pv = if nil then none else some ⟨b, 0, none⟩ := ⟨_, rfl⟩
  rw [← hpv] at HS ⊢
  have HS : Hid (Calls _ _ _ _ _) := HS
  clear he hE hpv
  go_enter Try.func33, Try.ntmps33
  go_wp2_with fail
  refine HS.out.mono ?_
  rintro e w1 ⟨rfl, hw⟩
  obtain rfl := hw.symm
  clear hw HS
  go_wp2
  go_returns
  exact ⟨rfl, rfl⟩

set_option maxRecDepth 20000 in
set_option maxHeartbeats 1000000 in
theorem rread_inn (b g : Nat) (xs : List UInt32) (p n : Int) (w : World) (hm : Rm w b g xs) (hp1 : -9223372036854775808 ≤ p) (hp2 : p ≤ 9223372036854775807) (h1 : 1 ≤ n) (h2 : n ≤ 16) :
    Calls Try.prog 33 #[.pointer (some ⟨b, 0, none⟩), .int .i64 p, .int .i64 n] w (RrP w (rdM false xs p n) (rdF false xs p n) (rdT false xs p n) (lkE false xs p 3 n)) := by
  have HS := stand_any false b n w
  rw [show sdE false n = 0 by unfold sdE; rw [if_neg (by simp), if_neg (by omega)]] at HS
  have HS : Hid (Calls _ _ _ _ _) := HS
  have HT := rtk_any b g xs p 3 n w hm (.inr rfl) h1 h2 hp1 hp2
  obtain ⟨M, hM⟩ : ∃ M : Int, M = 3 + n := ⟨_, rfl⟩
  rw [show ((3 : Nat) : Int) + n = M by rw [hM]; rfl] at HT
  have HT : Hid (Calls _ _ _ _ _) := HT
  have e1 : 3 + n = M := hM.symm
  have e2 : M ≤ 19 := by omega
  have e3 : 3 ≤ M := by omega
  have HNo : Hid (lkE false xs p 3 n ≠ 0 → rdM false xs p n = [] ∧ rdF false xs p n = false ∧ rdT false xs p n = false) := by
    intro he
    have e1 : rdT false xs p n = false := by unfold rdT; rw [decide_eq_false he]; rfl
    exact ⟨by unfold rdM; rw [e1]; rfl, by unfold rdF; rw [e1]; rfl, e1⟩
  clear hm hp1 hp2 h1 h2 hM
  go_enter Try.func33, Try.ntmps33
  go_wp2_with fail
  refine HS.out.mono ?_
  rintro e w1 ⟨rfl, hw⟩
  obtain rfl := hw.symm
  clear hw HS
  go_wp2_with fail
  refine HT.out.mono ?_
  rintro e w2 (⟨hE, G, cG, hGs, rfl, hGc, hGB, hk2⟩ | ⟨hE, rfl, hw⟩)
  · obtain ⟨-, t1, t2, t3, t4⟩ := tkE_ok hE
    have hll : (win xs p.toNat (3 + n.toNat)).length = 3 + n.toNat := win_length _ _ _ (by omega)
    have HPE : lkE false xs p 3 n = if rightB 3 n.toNat (win xs p.toNat (3 + n.toNat)) then 0 else 191 := by rw [lkE_eq, if_neg (by simpa using hE)]
    have HRd := hread_any 3 n.toNat G cG (win xs p.toNat (3 + n.toNat)) w2 hGB hll hGc (.inr rfl) (by omega) (by omega)
    have hw0 : wd (win xs p.toNat (3 + n.toNat)) 0 = wd xs p.toNat := by rw [win_wd _ _ _ _ (by omega), Nat.add_zero]
    have hw1 : wd (win xs p.toNat (3 + n.toNat)) 1 = wd xs (p.toNat + 1) := by rw [win_wd _ _ _ _ (by omega)]
    have hw2 : wd (win xs p.toNat (3 + n.toNat)) 2 = wd xs (p.toNat + 2) := by rw [win_wd _ _ _ _ (by omega)]
    have hms : ∀ k, k ≤ n.toNat → win xs (p.toNat + 3) k = ((win xs p.toNat (3 + n.toNat)).drop 3).take k := by
      intro k hk
      unfold win
      rw [List.drop_take, List.drop_drop, List.take_take, show 3 + n.toNat - 3 = n.toNat by omega, Nat.min_eq_left hk]
    obtain ⟨l, hl⟩ : ∃ l, l = win xs p.toNat (3 + n.toNat) := ⟨_, rfl⟩
    rw [← hl] at HRd HPE hw0 hw1 hw2 hGB hll hms ⊢
    obtain ⟨L, hL⟩ : ∃ L, L = l.length := ⟨_, rfl⟩
    rw [← hL] at HRd ⊢
    have HRd : Hid (Calls _ _ _ _ _) := HRd
    have HX : Hid ((lkE false xs p 3 n = if rightB 3 n.toNat l then 0 else 191) ∧ wd l 0 = wd xs p.toNat ∧ wd l 1 = wd xs (p.toNat + 1) ∧ wd l 2 = wd xs (p.toNat + 2) ∧ SegW w2 (some ⟨G, 0, none⟩) l ∧ l.length = 3 + n.toNat ∧ (∀ k, k ≤ n.toNat → win xs (p.toNat + 3) k = (l.drop 3).take k) ∧ Keeps (fun _ => False) w w2) := ⟨HPE, hw0, hw1, hw2, hGB, hll, hms, hk2⟩
    clear hE hGs hGc hGB hk2 t1 t2 t3 t4 hll hl hL HT HPE hw0 hw1 hw2 hms
    go_wp2_with fail
    refine HRd.out.mono ?_
    rintro e w3 ⟨T, F, va, vk, vc, rfl, hv, hk3⟩
    have H3 : Hid (Keeps (fun _ => False) w w3 ∧ Keeps (fun _ => False) w2 w3) := ⟨HX.out.2.2.2.2.2.2.2.trans hk3 (fun _ _ e => e), hk3⟩
    clear hk3 HRd
    cases hr : rightB 3 n.toNat l
    · have HE : Hid (lkE false xs p 3 n = 191) := by show lkE false xs p 3 n = 191; rw [HX.out.1, hr]; rfl
      have HZ : Hid (rdM false xs p n = [] ∧ rdF false xs p n = false ∧ rdT false xs p n = false) := HNo.out (by rw [HE.out]; omega)
      clear hr hv
      go_wp2
      go_returns
      exact ⟨none, 0, by rw [HE.out, HZ.out.1, HZ.out.2.1, HZ.out.2.2]; rfl, by rw [HZ.out.1]; exact .inl rfl, H3.out.1.alloc _⟩
    · obtain ⟨rfl, rfl, hvv⟩ := hv hr
      have hE0 : lkE false xs p 3 n = 0 := by rw [HX.out.1, hr]; rfl
      have hTT : rdT false xs p n = hT l := by unfold rdT hT; rw [hE0, ← HX.out.2.1]; simp
      have hFF : rdF false xs p n = hF 3 l := by unfold rdF hF; rw [hTT, ← HX.out.2.2.1]; simp
      have hMM : (rdM false xs p n).length = vk ∧ ∀ W, Keeps (fun _ => False) w2 W → SegW W va (rdM false xs p n) := by
        unfold rdM
        rw [hTT]
        unfold hV at hvv
        unfold hT
        by_cases h0 : wd l 0 = 0
        · rw [if_pos h0] at hvv
          injection hvv with q1 q2 q3
          subst q1 q2 q3
          rw [if_neg (by simpa using h0)]
          exact ⟨rfl, fun W _ => .inl rfl⟩
        · rw [if_neg h0] at hvv
          injection hvv with q1 q2 q3
          obtain ⟨-, k1, k2⟩ := right_len hr h0
          have k2' : (wd l 2).toNat ≤ n.toNat := k2
          rw [if_pos (by simpa using h0), ← HX.out.2.2.2.1, HX.out.2.2.2.2.2.2.1 _ k2']
          have hll := HX.out.2.2.2.2.2.1
          have hmm : ((l.drop 3).take (wd l 2).toNat).length = (wd l 2).toNat := by simp; omega
          refine ⟨by rw [hmm, q2], fun W kk => ?_⟩
          rw [q1]
          refine .inr ⟨G, 3, rfl, fun i hi => ?_⟩
          rw [hmm] at hi
          have := (HX.out.2.2.2.2.1.kept kk (fun _ _ e => e)).wd (j := 3 + i) (by omega)
          rw [Nat.zero_add] at this
          rw [this, wd_get (by omega)]
          simp
      have HF : Hid (∀ W, Keeps (fun _ => False) w3 W → RrP w (rdM false xs p n) (rdF false xs p n) (rdT false xs p n) (lkE false xs p 3 n) (.returned (.tuple #[.slice va vk vc, .bool (hF 3 l), .bool (hT l), .int .i64 0])) W) := fun W kk =>
        ⟨va, vc, by rw [hE0, hTT, hFF, hMM.1], hMM.2 W (H3.out.2.trans kk fun _ _ e => e), H3.out.1.trans kk fun _ _ e => e⟩
      obtain ⟨f, hf⟩ : ∃ f, f = hF 3 l := ⟨_, rfl⟩
      obtain ⟨t, ht⟩ : ∃ f, f = hT l := ⟨_, rfl⟩
      rw [← hf, ← ht] at HF
      rw [← hf, ← ht]
      clear hr hv hvv hE0 hTT hFF hMM hf ht
      have hB4 := Blk.new w3 #[.bool t, .bool f, .slice va vk vc] 83
      have m0 := hB4.cell (i := 0) rfl
      have m1 := hB4.cell (i := 1) rfl
      have m2 := hB4.cell (i := 2) rfl
      clear hB4
      go_wp2
      go_quiet (fail)
      go_wp2
      go_returns
      exact HF.out _ (((Keeps.refl _ w3).alloc _).drewN _)
  · obtain rfl := hw.symm
    have HE : Hid (lkE false xs p 3 n = 51) := by show lkE false xs p 3 n = 51; rw [lkE_eq, hE, if_pos (by omega)]
    have HZ : Hid (rdM false xs p n = [] ∧ rdF false xs p n = false ∧ rdT false xs p n = false) := HNo.out (by rw [HE.out]; omega)
    clear hw hE HT
    go_wp2
    go_returns
    exact ⟨none, 0, by rw [HE.out, HZ.out.1, HZ.out.2.1, HZ.out.2.2]; rfl, by rw [HZ.out.1]; exact .inl rfl, Keeps.refl _ _⟩

theorem rread_any (nil : Bool) (b g : Nat) (xs : List UInt32) (p n : Int) (w : World) (hm : Rm w b g xs) (hp1 : -9223372036854775808 ≤ p) (hp2 : p ≤ 9223372036854775807) :
    Calls Try.prog 33 #[mpv nil b, .int .i64 p, .int .i64 n] w (RrP w (rdM nil xs p n) (rdF nil xs p n) (rdT nil xs p n) (lkE nil xs p 3 n)) := by
  by_cases h0 : sdE nil n = 0
  · obtain ⟨rfl, h1, h2⟩ := sdE_ok h0
    exact rread_inn b g xs p n w hm hp1 hp2 h1 h2
  · refine (rread_stand nil b p n w h0).mono ?_
    rintro e w' ⟨rfl, rfl⟩
    have he : lkE nil xs p 3 n ≠ 0 := by rw [lkE_sd h0]; exact h0
    have e1 : rdT nil xs p n = false := by unfold rdT; rw [decide_eq_false he]; rfl
    have e2 : rdF nil xs p n = false := by unfold rdF; rw [e1]; rfl
    have e3 : rdM nil xs p n = [] := by unfold rdM; rw [e1]; rfl
    rw [e1, e2, e3, lkE_sd h0]
    exact ⟨none, 0, rfl, .inl rfl, Keeps.refl _ _⟩

end Go.Proofs.Ytfcgpjojjehkiaa
