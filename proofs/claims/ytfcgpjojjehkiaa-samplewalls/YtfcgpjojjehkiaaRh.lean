import Derived.Test.YtfcgpjojjehkiaaRg
namespace Go.Proofs.Ytfcgpjojjehkiaa
open Go.RowKit
set_option linter.unusedVariables false

def sdE (nil : Bool) (n : Int) : Int := if nil then 3 else if n < 1 ∨ 16 < n then 1 else 0

set_option maxHeartbeats 400000 in
theorem stand_any (nil : Bool) (b : Nat) (n : Int) (w : World) : Calls Try.prog 47 #[mpv nil b, .int .i64 n] w fun e w' => e = .returned (.int .i64 (sdE nil n)) ∧ w' = w := by
  unfold sdE
  cases nil
  · by_cases h1 : n < 1
    · rw [if_neg (by simp), if_pos (.inl h1)]
      go_enter Try.func47, Try.ntmps47
      go_wp2
      go_ret
      exact ⟨rfl, rfl⟩
    · by_cases h2 : 16 < n
      · rw [if_neg (by simp), if_pos (.inr h2)]
        go_enter Try.func47, Try.ntmps47
        go_wp2
        go_ret
        exact ⟨rfl, rfl⟩
      · rw [if_neg (by simp), if_neg (by omega)]
        go_enter Try.func47, Try.ntmps47
        go_wp2
        go_ret
        exact ⟨rfl, rfl⟩
  · rw [if_pos rfl]
    go_enter Try.func47, Try.ntmps47
    go_wp2
    go_ret
    exact ⟨rfl, rfl⟩

theorem tkE_sd {nil : Bool} {N : Nat} {p : Int} {h : Nat} {n : Int} (e : sdE nil n ≠ 0) : tkE nil N p h n = sdE nil n := by
  unfold sdE tkE at *
  cases nil
  · simp only [Bool.false_eq_true, if_false] at e ⊢
    by_cases h1 : n < 1 ∨ 16 < n
    · rw [if_pos h1, if_pos h1]
    · rw [if_neg h1] at e; exact absurd rfl e
  · rfl
theorem sdE_ok {nil : Bool} {n : Int} (e : sdE nil n = 0) : nil = false ∧ 1 ≤ n ∧ n ≤ 16 := by
  unfold sdE at e
  cases nil
  · simp only [Bool.false_eq_true, if_false] at e
    by_cases h1 : n < 1 ∨ 16 < n
    · rw [if_pos h1] at e; omega
    · exact ⟨rfl, by omega, by omega⟩
  · simp at e
theorem tkE_fit {N : Nat} {p : Int} {h : Nat} {n : Int} (h1 : 1 ≤ n) (h2 : n ≤ 16) : tkE false N p h n = if 0 ≤ p ∧ p + ((h : Int) + n) ≤ N then 0 else 51 := by
  unfold tkE
  rw [if_neg (by simp), if_neg (by omega)]
theorem fillW_hd2 (n : Nat) (ms : List UInt32) : fillW 2 n ms = hdW 2 n true false ms := rfl
theorem fillW_hd3 (n : Nat) (ms : List UInt32) : fillW 3 n ms = hdW 3 n true true ms := rfl

/-- The document's Take of a box, whatever it is. -/
theorem rtk_any (b g : Nat) (xs : List UInt32) (p : Int) (h : Nat) (n : Int) (w : World) (hm : Rm w b g xs) (hh : h = 2 ∨ h = 3) (h1 : 1 ≤ n) (h2 : n ≤ 16) (hp1 : -9223372036854775808 ≤ p) (hp2 : p ≤ 9223372036854775807) :
    Calls Try.prog 48 #[.pointer (some ⟨b, 0, none⟩), .int .i64 p, .int .i64 ((h : Int) + n)] w fun e w' => (tkE false xs.length p h n = 0 ∧ TkR w (win xs p.toNat (h + n.toNat)) e w') ∨ (tkE false xs.length p h n = 51 ∧ e = .returned (.tuple #[.slice none 0 0, .int .i64 51]) ∧ w' = w) := by
  rw [tkE_fit h1 h2]
  by_cases hf : 0 ≤ p ∧ p + ((h : Int) + n) ≤ xs.length
  · rw [if_pos hf]
    have := rtake_in b g xs p.toNat (h + n.toNat) w hm (by omega) (by omega) (by omega)
    rw [show ((p.toNat : Nat) : Int) = p by omega, show ((h + n.toNat : Nat) : Int) = (h : Int) + n by omega] at this
    exact this.mono fun e w' h => .inl ⟨rfl, h⟩
  · rw [if_neg hf]
    exact (rtake_out b g xs p ((h : Int) + n) w hm hp1 hp2 (by omega) (by omega) hf).mono fun e w' ⟨q1, q2⟩ => .inr ⟨rfl, q1, q2⟩

/-- What the document's Put leaves. -/
def PutR (w : World) (b g : Nat) (E : Int) (ys : List UInt32) (e : Ending) (w' : World) : Prop :=
  e = .returned (.int .i64 E) ∧ Rm w' b g ys ∧ Keeps (· = g) w w'

set_option maxHeartbeats 400000 in
theorem rput_stand (nil : Bool) (b : Nat) (p n : Int) (v : Value) (w : World) (he : sdE nil n ≠ 0) :
    Calls Try.prog 29 #[mpv nil b, .int .i64 p, .int .i64 n, v] w fun e w' => e = .returned (.int .i64 (sdE nil n)) ∧ w' = w := by
  have HS := stand_any nil b n w
  obtain ⟨E, hE⟩ : ∃ E, E = sdE nil n := ⟨_, rfl⟩
  rw [← hE] at HS he ⊢
  have hE2 : (E != 0) = true := bne_iff_ne.2 he
  unfold mpv at HS ⊢
  obtain ⟨pv, hpv⟩ : ∃ pv : Option Addr, pv = if nil then none else some ⟨b, 0, none⟩ := ⟨_, rfl⟩
  rw [← hpv] at HS ⊢
  have HS : Hid (Calls _ _ _ _ _) := HS
  clear he hE hpv
  go_enter Try.func29, Try.ntmps29
  go_wp2_with fail
  refine HS.out.mono ?_
  rintro e w1 ⟨rfl, hw⟩
  obtain rfl := hw.symm
  clear hw HS
  go_wp2
  go_ret
  exact ⟨rfl, rfl⟩

set_option maxRecDepth 20000 in
set_option maxHeartbeats 2000000 in
theorem rput_in (b g : Nat) (xs : List UInt32) (p n : Int) (a : Option Addr) (c : Nat) (ms : List UInt32) (w : World) (hm : Rm w b g xs) (hs : SegW w a ms) (hp1 : -9223372036854775808 ≤ p) (hp2 : p ≤ 9223372036854775807) (h1 : 1 ≤ n) (h2 : n ≤ 16) :
    Calls Try.prog 29 #[.pointer (some ⟨b, 0, none⟩), .int .i64 p, .int .i64 n, .slice a ms.length c] w (PutR w b g (putE false xs p n ms.length) (putX false xs p n ms)) := by
  have HS := stand_any false b n w
  rw [show sdE false n = 0 by unfold sdE; rw [if_neg (by simp), if_neg (by omega)]] at HS
  have HS : Hid (Calls _ _ _ _ _) := HS
  have HT := rtk_any b g xs p 2 n w hm (.inl rfl) h1 h2 hp1 hp2
  obtain ⟨M, hM⟩ : ∃ M : Int, M = 2 + n := ⟨_, rfl⟩
  rw [show ((2 : Nat) : Int) + n = M by rw [hM]; rfl] at HT
  have HT : Hid (Calls _ _ _ _ _) := HT
  have HP : Hid (Rm w b g xs ∧ SegW w a ms ∧ 1 ≤ n ∧ n ≤ 16) := ⟨hm, hs, h1, h2⟩
  obtain ⟨k, hk⟩ : ∃ k, k = ms.length := ⟨_, rfl⟩
  have HKk : Hid (k = ms.length) := hk
  rw [← hk]
  have e1 : 2 + n = M := hM.symm
  have e2 : M ≤ 18 := by omega
  have e3 : 3 ≤ M := by omega
  clear hm hs hp1 hp2 h1 h2 hM hk
  go_enter Try.func29, Try.ntmps29
  go_wp2_with fail
  refine HS.out.mono ?_
  rintro e w1 ⟨rfl, hw⟩
  obtain rfl := hw.symm
  clear hw HS
  go_wp2_with fail
  refine HT.out.mono ?_
  rintro e w2 (⟨hE, G, cG, hGs, rfl, hGc, hGB, hk2⟩ | ⟨hE, rfl, hw⟩)
  · obtain ⟨-, t1, t2, t3, t4⟩ := tkE_ok hE
    have hll : (win xs p.toNat (2 + n.toNat)).length = 2 + n.toNat := win_length _ _ _ (by omega)
    have hpe : putE false xs p n k = if k < 1 ∨ n < k then 190 else if rightB 2 n.toNat (win xs p.toNat (2 + n.toNat)) then 0 else 191 := by unfold putE; rw [if_neg (by simpa using hE)]
    have HPE : Hid (putE false xs p n k = if k < 1 ∨ n < k then 190 else if rightB 2 n.toNat (win xs p.toNat (2 + n.toNat)) then 0 else 191) := hpe
    have H2 : Hid (Keeps (fun _ => False) w w2) := hk2
    have HRd := hread_any 2 n.toNat G cG (win xs p.toNat (2 + n.toNat)) w2 hGB hll hGc (.inl rfl) (by omega) (by omega)
    obtain ⟨l, hl⟩ : ∃ l, l = win xs p.toNat (2 + n.toNat) := ⟨_, rfl⟩
    rw [← hl] at HRd HPE ⊢
    obtain ⟨L, hL⟩ : ∃ L, L = l.length := ⟨_, rfl⟩
    rw [← hL] at HRd ⊢
    have HRd : Hid (Calls _ _ _ _ _) := HRd
    have HB : Hid (0 ≤ p ∧ p + (2 + n) ≤ xs.length) := ⟨t3, by simpa using t4⟩
    clear hE hGs hGc hGB hk2 t1 t2 t3 t4 hll hpe hl hL HT
    by_cases hk1 : k < 1 ∨ n < k
    · have hkk : (k : Int) < 1 ∨ (¬ (k : Int) < 1 ∧ n < (k : Int)) := by omega
      have HE : Hid (putE false xs p n k = 190) := by show putE false xs p n k = 190; rw [HPE.out, if_pos hk1]
      have HF : PutR w b g (putE false xs p n k) (putX false xs p n ms) (.returned (.int .i64 190)) w2 := by
        refine ⟨by rw [HE.out], ?_, H2.out.mono fun _ _ e => e.elim⟩
        unfold putX
        rw [← HKk.out, HE.out, if_neg (by omega)]
        exact HP.out.1.grown H2.out
      have HF : Hid (PutR _ _ _ _ _ _ _) := HF
      clear hk1
      rcases hkk with g1 | ⟨g1, g2⟩
      all_goals
        go_wp2
        go_ret
        exact HF.out
    · have g1 : ¬ (k : Int) < 1 := by omega
      have g2 : ¬ n < (k : Int) := by omega
      go_wp2_with fail
      refine HRd.out.mono ?_
      rintro e w3 ⟨T, F, va, vk, vc, rfl, hv, hk3⟩
      have H3 : Hid (Keeps (fun _ => False) w w3) := H2.out.trans hk3 fun _ _ e => e
      clear hk3 HRd
      cases hr : rightB 2 n.toNat l
      · have HE : Hid (putE false xs p n k = 191) := by show putE false xs p n k = 191; rw [HPE.out, if_neg hk1, hr]; rfl
        have HF : ∀ W, Keeps (fun _ => False) w W → PutR w b g (putE false xs p n k) (putX false xs p n ms) (.returned (.int .i64 191)) W := by
          intro W kk
          refine ⟨by rw [HE.out], ?_, kk.mono fun _ _ e => e.elim⟩
          unfold putX
          rw [← HKk.out, HE.out, if_neg (by omega)]
          exact HP.out.1.grown kk
        have HF : Hid (∀ W, Keeps (fun _ => False) w W → PutR w b g (putE false xs p n k) (putX false xs p n ms) (.returned (.int .i64 191)) W) := HF
        clear hr hv hk1
        go_wp2
        go_ret
        exact HF.out _ (H3.out.alloc _)
      · have HE : Hid (putE false xs p n k = 0) := by show putE false xs p n k = 0; rw [HPE.out, if_neg hk1, hr]; rfl
        have HWd : ∀ W, Keeps (fun _ => False) w W → Calls Try.prog 51 #[hldv true false (.slice a k c), .int .i64 2, .int .i64 n] W (WdP W (fillW 2 n.toNat ms)) := by
          intro W kk
          have := hwords_any 2 n.toNat true false a c ms W (HP.out.2.1.kept kk (fun _ _ e => e)) (.inl rfl) (fun _ => by have := HKk.out; omega) (by have := HKk.out; omega) (by have := HP.out; omega)
          rw [← HKk.out, show ((n.toNat : Nat) : Int) = n by have := HP.out; omega] at this
          exact this
        have hfl : (fillW 2 n.toNat ms).length = 2 + n.toNat := fillW_length _ _ _ (by omega) (by have := HKk.out; omega)
        have HLy : ∀ W Gf, Keeps (fun _ => False) w W → Gf ≠ g → Blk W Gf (wvs (fillW 2 n.toNat ms)) 34 → Calls Try.prog 50 #[.pointer (some ⟨b, 0, none⟩), .int .i64 p, .slice (some ⟨Gf, 0, none⟩) (fillW 2 n.toNat ms).length (fillW 2 n.toNat ms).length] W (PutR W b g 0 (putX false xs p n ms)) := by
          intro W Gf kk hne hB
          have hb := HB.out
          have := rlay_in b g xs p.toNat (some ⟨Gf, 0, none⟩) (fillW 2 n.toNat ms).length (fillW 2 n.toNat ms) W (HP.out.1.grown kk) (segW_of_blk hB) (fun x e => by cases e; exact hne) (by rw [hfl]; have := HP.out; omega) (by rw [hfl]; omega)
          rw [show ((p.toNat : Nat) : Int) = p by omega] at this
          have e9 : putX false xs p n ms = lay xs p.toNat (fillW 2 n.toNat ms) := by unfold putX; rw [← HKk.out, HE.out, if_pos rfl]
          rw [e9]
          exact this
        obtain ⟨Fl, hFl⟩ : ∃ Fl, Fl = fillW 2 n.toNat ms := ⟨_, rfl⟩
        rw [← hFl] at HWd HLy
        unfold WdP at HWd
        obtain ⟨Q, hQ⟩ : ∃ Q, Q = Fl.length := ⟨_, rfl⟩
        rw [← hQ] at HWd HLy
        have HWd : Hid (∀ W, Keeps (fun _ => False) w W → Calls Try.prog 51 #[hldv true false (.slice a k c), .int .i64 2, .int .i64 n] W fun e w' => ∃ Gf, W.heap.size ≤ Gf ∧ e = .returned (.slice (some ⟨Gf, 0, none⟩) Q Q) ∧ Blk w' Gf (wvs Fl) 34 ∧ Keeps (fun _ => False) W w') := HWd
        have HLy : Hid (∀ W Gf, Keeps (fun _ => False) w W → Gf ≠ g → Blk W Gf (wvs Fl) 34 → Calls Try.prog 50 #[.pointer (some ⟨b, 0, none⟩), .int .i64 p, .slice (some ⟨Gf, 0, none⟩) Q Q] W (PutR W b g 0 (putX false xs p n ms))) := HLy
        clear hr hv hk1 hfl hFl hQ
        go_wp2_with fail
        refine (HWd.out _ ((H3.out.alloc _).alloc _)).mono ?_
        rintro e w4 ⟨Gf, hGf, rfl, hGB, hk4⟩
        have H4 : Hid (Keeps (fun _ => False) w w4) := ((H3.out.alloc _).alloc _).trans hk4 fun _ _ e => e
        have HL4 : Hid (Calls _ _ _ _ _) := HLy.out w4 Gf H4.out (by have h9 := (((H3.out.alloc (.cells #[.bool T, .bool F, .slice va vk vc] 83)).alloc (.cells #[.bool true, .bool false, .slice a k c] 83))).size; have := HP.out.1.ltg; omega) hGB
        clear hGf hGB hk4 HWd HLy
        go_wp2_with fail
        refine HL4.out.mono ?_
        rintro e w5 ⟨rfl, hM5, hk5⟩
        have H5 : Hid (Rm w5 b g (putX false xs p n ms) ∧ Keeps (· = g) w w5) := ⟨hM5, (H4.out.mono (T := (· = g)) fun _ _ e => e.elim).trans hk5 fun _ _ e => e⟩
        clear hM5 hk5 HL4
        go_wp2
        go_ret
        exact ⟨by rw [HE.out]; rfl, H5.out⟩
  · obtain rfl := hw.symm
    have HE : Hid (putE false xs p n k = 51) := by show putE false xs p n k = 51; unfold putE; rw [hE, if_pos (by omega)]
    clear hw hE HT
    go_wp2
    go_ret
    refine ⟨by rw [HE.out]; rfl, ?_, Keeps.refl _ _⟩
    unfold putX
    rw [← HKk.out, HE.out, if_neg (by omega)]
    exact HP.out.1

theorem rput_any (nil : Bool) (b g : Nat) (xs : List UInt32) (p n : Int) (a : Option Addr) (c : Nat) (ms : List UInt32) (w : World) (hm : Rm w b g xs) (hs : SegW w a ms) (hp1 : -9223372036854775808 ≤ p) (hp2 : p ≤ 9223372036854775807) :
    Calls Try.prog 29 #[mpv nil b, .int .i64 p, .int .i64 n, .slice a ms.length c] w (PutR w b g (putE nil xs p n ms.length) (putX nil xs p n ms)) := by
  by_cases h0 : sdE nil n = 0
  · obtain ⟨rfl, h1, h2⟩ := sdE_ok h0
    exact rput_in b g xs p n a c ms w hm hs hp1 hp2 h1 h2
  · have e1 : putE nil xs p n ms.length = sdE nil n := by unfold putE; rw [tkE_sd h0, if_pos h0]
    refine (rput_stand nil b p n _ w h0).mono ?_
    rintro e w' ⟨rfl, rfl⟩
    refine ⟨by rw [e1], ?_, Keeps.refl _ _⟩
    unfold putX
    rw [e1, if_neg h0]
    exact hm

end Go.Proofs.Ytfcgpjojjehkiaa
