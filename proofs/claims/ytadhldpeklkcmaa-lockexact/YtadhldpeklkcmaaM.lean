import Derived.Test.YtadhldpeklkcmaaL
namespace Go.Proofs.Ytadhldpeklkcmaa
open Go.RowKit
set_option linter.unusedVariables false

set_option maxHeartbeats 400000 in
theorem sameWords_any (a b : Option Addr) (xs : List UInt32) (c d : Nat) (w : World) (h1 : SegW w a xs) (h2 : SegW w b xs) (hl : xs.length ≤ 4294967296) :
    Calls Try.prog 13 #[.slice a xs.length c, .slice b xs.length d] w fun e w' => e = .returned (.bool true) ∧ Keeps (fun _ => False) w w' := by
  obtain ⟨n, hn⟩ : ∃ n, n = xs.length := ⟨_, rfl⟩
  have HN : Hid (n = xs.length) := hn
  rw [← hn] at hl ⊢
  have H1 : Hid (SegW _ _ _) := h1
  have H2 : Hid (SegW _ _ _) := h2
  have hn1 : (n : Int) ≤ 4294967296 := by omega
  clear hn h1 h2 hl
  go_enter Try.func13, Try.ntmps13
  go_wp2
  go_loopw [5] (fun i wr => ∃ j : Nat, j ≤ n ∧ i = .int .i64 j ∧ Keeps (fun _ => False) w wr)
    (fun i _ => n - (intOf i).toNat)
  case atStart => exact ⟨0, by omega, rfl, Keeps.refl _ _⟩
  case round =>
    obtain ⟨j, hj, rfl, hKr⟩ := hrel
    have HK : Hid (Keeps (fun _ => False) w wr) := hKr
    clear hKr
    by_cases hlt : j < n
    · have hjx : j < xs.length := by have := HN.out; omega
      rcases H1.out.kept HK.out (fun _ _ e => e) with h | ⟨g1, o1, rfl, c1⟩
      · rw [h] at hjx; simp at hjx
      rcases H2.out.kept HK.out (fun _ _ e => e) with h | ⟨g2, o2, rfl, c2⟩
      · rw [h] at hjx; simp at hjx
      have c1 := c1 j hjx
      have c2 := c2 j hjx
      obtain ⟨v, hv⟩ : ∃ v : Nat, v = (xs[j]).toNat := ⟨_, rfl⟩
      rw [← hv] at c1 c2
      clear hv
      go_wp2
      go_quiet (fail)
      go_wp2
      go_roundw
      case rel => exact ⟨j + 1, by omega, by go_num, HK.out.drewN _⟩
      case measure => simp [intOf]; omega
    · obtain rfl : j = n := by omega
      go_wp2
      go_ret
      exact ⟨rfl, HK.out⟩

def actP (lk : List Int) (tk : List UInt32) (st : Nat) (xs : List UInt32) (kind : Int) : StepR := if pk kind 3 = 2 then backP lk tk st xs else stepP lk tk st xs

set_option maxHeartbeats 400000 in
theorem act_any (X : Chn) (mb g : Nat) (xs : List UInt32) (kind : Int) (w : World) (h : X.In w) (hm : Mm w mb g xs) (hg : ¬ X.F g) (hmb : ¬ X.F mb) (h1 : -9223372036854775808 ≤ kind) (h2 : kind ≤ 9223372036854775807) :
    Calls Try.prog 26 #[.pointer (some ⟨mb, 0, none⟩), .pointer (some ⟨X.b, 0, none⟩), .int .i64 kind] w (CallP X mb g (actP X.lk X.tk X.st xs kind) w) := by
  have HP := pick_any kind 3 w (by omega) (by omega) h1 h2
  have HS : Hid (Calls _ _ _ _ _) := step_any X mb g xs w h hm hg hmb
  have HB : Hid (Calls _ _ _ _ _) := back_any X mb g xs w h hm hg hmb
  clear h hm hg hmb h1 h2
  unfold actP
  by_cases hk : pk kind 3 = 2
  · rw [hk] at HP
    rw [if_pos hk]
    have HP : Hid (Calls _ _ _ _ _) := HP
    obtain ⟨R, hR⟩ : ∃ R, R = backP X.lk X.tk X.st xs := ⟨_, rfl⟩
    rw [← hR] at HB ⊢
    clear hk hR HS
    go_enter Try.func26, Try.ntmps26
    go_wp2_with fail
    refine HP.out.mono ?_
    rintro e w1 ⟨rfl, hw⟩
    obtain rfl := hw.symm
    clear hw HP
    go_wp2_with fail
    refine HB.out.mono ?_
    rintro e w1 ⟨rfl, hx⟩
    have HX : Hid (∃ vt, _) := hx
    clear hx HB
    go_wp2
    go_ret2
    exact ⟨rfl, HX.out⟩
  · rw [if_neg hk]
    obtain ⟨K, hK⟩ : ∃ K, K = pk kind 3 := ⟨_, rfl⟩
    rw [← hK] at HP hk
    have hk2 : ¬ ((K : Int) = 2) := by omega
    have HP : Hid (Calls _ _ _ _ _) := HP
    obtain ⟨R, hR⟩ : ∃ R, R = stepP X.lk X.tk X.st xs := ⟨_, rfl⟩
    rw [← hR] at HS ⊢
    clear hR HB hK
    go_enter Try.func26, Try.ntmps26
    go_wp2_with fail
    refine HP.out.mono ?_
    rintro e w1 ⟨rfl, hw⟩
    obtain rfl := hw.symm
    clear hw HP
    go_wp2_with fail
    refine HS.out.mono ?_
    rintro e w1 ⟨rfl, hx⟩
    have HX : Hid (∃ vt, _) := hx
    clear hx HS
    go_wp2
    go_ret2
    exact ⟨rfl, HX.out⟩

def fsX (xs : List UInt32) (kind : Int) : List UInt32 :=
  if pk (kind.tdiv 3) 34 + 1 < xs.length ∧ pk (kind.tdiv 7) 3 = 1 then frX xs (pk (kind.tdiv 3) 34 : Nat) (xs.getD (pk (kind.tdiv 3) 34 + 1) 0) else xs

theorem tdiv_in {k : Int} (d : Int) (hd : 2 ≤ d) (h1 : -9223372036854775808 ≤ k) (h2 : k ≤ 9223372036854775807) : -9223372036854775808 ≤ k.tdiv d ∧ k.tdiv d ≤ 9223372036854775807 := by
  have h3 : (k.tdiv d).natAbs ≤ k.natAbs / 2 := by
    rw [Int.natAbs_tdiv]; exact Nat.div_le_div_left (by omega) (by omega)
  omega

set_option maxHeartbeats 400000 in
theorem frees_any (mb g : Nat) (xs : List UInt32) (kind : Int) (w : World) (hm : Mm w mb g xs) (h1 : -9223372036854775808 ≤ kind) (h2 : kind ≤ 9223372036854775807) :
    Calls Try.prog 29 #[.pointer (some ⟨mb, 0, none⟩), .int .i64 kind] w fun e w' => e = .returned (.tuple #[]) ∧ Mm w' mb g (fsX xs kind) ∧ Keeps (· = g) w w' := by
  have hd3 := tdiv_in 3 (by omega) h1 h2
  have hd7 := tdiv_in 7 (by omega) h1 h2
  have HP : Hid (∀ w, Calls _ _ _ w _) := fun w => pick_any (kind.tdiv 3) 34 w (by omega) (by omega) hd3.1 hd3.2
  have HQ := fun w => pick_any (kind.tdiv 7) 3 w (by omega) (by omega) hd7.1 hd7.2
  have hlt := pk_lt (kind.tdiv 3) 34 (by omega)
  unfold fsX
  obtain ⟨P, hP⟩ : ∃ P, P = pk (kind.tdiv 3) 34 := ⟨_, rfl⟩
  rw [← hP] at HP hlt ⊢
  have h3 : (P : Int) < 34 := by omega
  have h4 : ((P + 1 : Nat) : Int) = (P : Int) + 1 := by omega
  have HM : Hid (Mm w mb g xs) := hm
  have h5 : IntKind.i64.wrap (kind.tdiv 3) = kind.tdiv 3 := by rw [IntKind.wrap_i64]; omega
  have h6 : IntKind.i64.wrap (kind.tdiv 7) = kind.tdiv 7 := by rw [IntKind.wrap_i64]; omega
  clear hP hlt h1 h2 hd3 hd7
  by_cases hr : P + 1 < xs.length
  · have HR := read_in mb g xs (P + 1) w hm hr
    rw [h4] at HR
    have hx : xs.getD (P + 1) 0 = xs[P + 1] := by simp [List.getD, List.getElem?_eq_getElem hr]
    rw [← hx] at HR
    have HF := free_any mb g xs (P : Int) (xs.getD (P + 1) 0) w hm (by omega)
    obtain ⟨t, ht⟩ : ∃ t, t = xs.getD (P + 1) 0 := ⟨_, rfl⟩
    rw [← ht] at HR HF ⊢
    obtain ⟨E, hE⟩ : ∃ E, E = frE xs P t := ⟨_, rfl⟩
    rw [← hE] at HF
    have HR : Hid (Calls _ _ _ _ _) := HR
    have HF : Hid (Calls _ _ _ _ _) := HF
    clear hx ht hE hm h4
    by_cases hq : pk (kind.tdiv 7) 3 = 1
    · rw [if_pos ⟨hr, hq⟩]
      rw [hq] at HQ
      have HQ : Hid (∀ w, Calls _ _ _ w _) := HQ
      clear hr hq
      go_enter Try.func29, Try.ntmps29
      go_wp2_with fail
      refine (HP.out _).mono ?_
      rintro e w1 ⟨rfl, hw⟩
      obtain rfl := hw.symm
      clear hw HP
      go_wp2_with fail
      refine HR.out.mono ?_
      rintro e w1 ⟨rfl, hw⟩
      obtain rfl := hw.symm
      clear hw HR
      go_wp2_with fail
      refine (HQ.out _).mono ?_
      rintro e w1 ⟨rfl, hw⟩
      obtain rfl := hw.symm
      clear hw HQ
      go_wp2_with fail
      refine HF.out.mono ?_
      rintro e w1 ⟨rfl, hm1, hk1⟩
      have HH : Hid (Mm _ _ _ _ ∧ Keeps _ _ _) := ⟨hm1, hk1⟩
      clear hm1 hk1 HF
      go_wp2
      go_returns
      exact ⟨rfl, HH.out⟩
    · rw [if_neg (fun h => hq h.2)]
      obtain ⟨Q, hQ⟩ : ∃ Q, Q = pk (kind.tdiv 7) 3 := ⟨_, rfl⟩
      rw [← hQ] at HQ hq
      have hq2 : ¬ ((Q : Int) = 1) := by omega
      have HQ : Hid (∀ w, Calls _ _ _ w _) := HQ
      clear hr hQ HF
      go_enter Try.func29, Try.ntmps29
      go_wp2_with fail
      refine (HP.out _).mono ?_
      rintro e w1 ⟨rfl, hw⟩
      obtain rfl := hw.symm
      clear hw HP
      go_wp2_with fail
      refine HR.out.mono ?_
      rintro e w1 ⟨rfl, hw⟩
      obtain rfl := hw.symm
      clear hw HR
      go_wp2_with fail
      refine (HQ.out _).mono ?_
      rintro e w1 ⟨rfl, hw⟩
      obtain rfl := hw.symm
      clear hw HQ
      go_wp2
      go_returns
      exact ⟨rfl, HM.out, Keeps.refl _ _⟩
  · rw [if_neg (fun h => hr h.1)]
    have HR := read_out mb g xs ((P : Int) + 1) w hm (by omega) (by omega)
    have HR : Hid (Calls _ _ _ _ _) := HR
    clear hr hm h4
    go_enter Try.func29, Try.ntmps29
    go_wp2_with fail
    refine (HP.out _).mono ?_
    rintro e w1 ⟨rfl, hw⟩
    obtain rfl := hw.symm
    clear hw HP
    go_wp2_with fail
    refine HR.out.mono ?_
    rintro e w1 ⟨rfl, hw⟩
    obtain rfl := hw.symm
    clear hw HR
    go_wp2
    go_returns
    exact ⟨rfl, HM.out, Keeps.refl _ _⟩

end Go.Proofs.Ytadhldpeklkcmaa
