import Derived.Test.YthepajjbflmchaaRa
namespace Go.Proofs.Ythepajjbflmchaa
open Go.RowKit
set_option linter.unusedVariables false

set_option maxHeartbeats 400000 in
theorem rcores_in (c : Int) (w : World) (h : 1 ≤ c ∧ c ≤ 4) : Calls Try.prog 30 #[.int .i64 c] w fun e w' => e = .returned (.int .i64 0) ∧ w' = w := by
  obtain ⟨h1, h2⟩ := h
  go_enter Try.func30, Try.ntmps30
  go_wp2
  go_ret
  exact ⟨rfl, rfl⟩
set_option maxHeartbeats 400000 in
theorem rcores_out (c : Int) (w : World) (h : ¬ (1 ≤ c ∧ c ≤ 4)) : Calls Try.prog 30 #[.int .i64 c] w fun e w' => e = .returned (.int .i64 180) ∧ w' = w := by
  by_cases h1 : c < 1
  · clear h
    go_enter Try.func30, Try.ntmps30
    go_wp2
    go_ret
    exact ⟨rfl, rfl⟩
  · have h2 : 4 < c := by omega
    clear h
    go_enter Try.func30, Try.ntmps30
    go_wp2
    go_ret
    exact ⟨rfl, rfl⟩

set_option maxHeartbeats 400000 in
theorem rlook_walk (b : Nat) (p : Int) (x y : Nat) (w : World) (h : RW b p w x y 0) (hx : x < 4294967296) (hy : y < 4294967296) :
    Calls Try.prog 21 #[.pointer (some ⟨b, 0, none⟩), .int .i64 p] w fun e w' => e = .returned (.tuple #[.int .i64 (x : Int), .int .i64 (y : Int), .int .i64 0]) ∧ w' = w := by
  have H : Hid (Calls _ _ _ _ _) := h
  have q1 : IntKind.i64.wrap (x : Int) = (x : Int) := by rw [IntKind.wrap_i64]; omega
  have q2 : IntKind.i64.wrap (y : Int) = (y : Int) := by rw [IntKind.wrap_i64]; omega
  clear h hx hy
  go_enter Try.func21, Try.ntmps21
  go_wp2_with fail
  refine H.out.mono ?_
  rintro e w1 ⟨rfl, hw⟩
  obtain rfl := hw.symm
  clear hw H
  go_wp2
  go_ret3
  exact ⟨rfl, rfl⟩

set_option maxHeartbeats 400000 in
theorem rlook_no (b : Nat) (p : Int) (x y : Nat) (w : World) (h : RW b p w x y 51) :
    Calls Try.prog 21 #[.pointer (some ⟨b, 0, none⟩), .int .i64 p] w fun e w' => e = .returned (.tuple #[.int .i64 0, .int .i64 0, .int .i64 51]) ∧ w' = w := by
  have H : Hid (Calls _ _ _ _ _) := h
  clear h
  go_enter Try.func21, Try.ntmps21
  go_wp2_with fail
  refine H.out.mono ?_
  rintro e w1 ⟨rfl, hw⟩
  obtain rfl := hw.symm
  clear hw H
  go_wp2
  go_ret3
  exact ⟨rfl, rfl⟩

theorem rlook_any (b g : Nat) (xs : List UInt32) (p : Int) (w : World) (h : Rm w b g xs) (hp1 : -9223372036854775808 ≤ p) (hp2 : p ≤ 9223372036854775807) :
    Calls Try.prog 21 #[.pointer (some ⟨b, 0, none⟩), .int .i64 p] w fun e w' => e = .returned (.tuple #[.int .i64 (lkC xs p : Int), .int .i64 (lkP xs p : Int), .int .i64 (lkE xs p)]) ∧ w' = w := by
  unfold lkC lkP lkE
  by_cases hf : BrOk xs p
  · rw [if_pos hf, if_pos hf, if_pos hf]; exact rlook_walk b p _ _ w (rwords_in b g xs p w h hf) (UInt32.toNat_lt _) (UInt32.toNat_lt _)
  · rw [if_neg hf, if_neg hf, if_neg hf]
    obtain ⟨x, hx⟩ := rwords_out b g xs p w h hf hp1 hp2
    exact rlook_no b p x 0 w hx

set_option maxHeartbeats 400000 in
theorem rcome_no (b : Nat) (p c : Int) (x y : Nat) (w : World) (h : RW b p w x y 51) :
    Calls Try.prog 22 #[.pointer (some ⟨b, 0, none⟩), .int .i64 p, .int .i64 c] w fun e w' => e = .returned (.tuple #[.bool false, .int .i64 51]) ∧ w' = w := by
  have H : Hid (Calls _ _ _ _ _) := h
  clear h
  go_enter Try.func22, Try.ntmps22
  go_wp2_with fail
  refine H.out.mono ?_
  rintro e w1 ⟨rfl, hw⟩
  obtain rfl := hw.symm
  clear hw H
  go_wp2
  go_ret2
  exact ⟨rfl, rfl⟩

set_option maxHeartbeats 400000 in
theorem ropen_no (b : Nat) (p c : Int) (x y : Nat) (w : World) (h : RW b p w x y 51) :
    Calls Try.prog 23 #[.pointer (some ⟨b, 0, none⟩), .int .i64 p, .int .i64 c] w fun e w' => e = .returned (.int .i64 51) ∧ w' = w := by
  have H : Hid (Calls _ _ _ _ _) := h
  clear h
  go_enter Try.func23, Try.ntmps23
  go_wp2_with fail
  refine H.out.mono ?_
  rintro e w1 ⟨rfl, hw⟩
  obtain rfl := hw.symm
  clear hw H
  go_wp2
  go_ret
  exact ⟨rfl, rfl⟩

set_option maxHeartbeats 400000 in
theorem rcome_cores (b : Nat) (p c : Int) (x y : Nat) (w : World) (h : RW b p w x y 0) (hc : ¬ (1 ≤ c ∧ c ≤ 4)) :
    Calls Try.prog 22 #[.pointer (some ⟨b, 0, none⟩), .int .i64 p, .int .i64 c] w fun e w' => e = .returned (.tuple #[.bool false, .int .i64 180]) ∧ w' = w := by
  have H : Hid (Calls _ _ _ _ _) := h
  have HC : Hid (Calls _ _ _ _ _) := rcores_out c w hc
  clear h hc
  go_enter Try.func22, Try.ntmps22
  go_wp2_with fail
  refine H.out.mono ?_
  rintro e w1 ⟨rfl, hw⟩
  obtain rfl := hw.symm
  clear hw H
  go_wp2_with fail
  refine HC.out.mono ?_
  rintro e w1 ⟨rfl, hw⟩
  obtain rfl := hw.symm
  clear hw HC
  go_wp2
  go_ret2
  exact ⟨rfl, rfl⟩

set_option maxHeartbeats 400000 in
theorem ropen_cores (b : Nat) (p c : Int) (x y : Nat) (w : World) (h : RW b p w x y 0) (hc : ¬ (1 ≤ c ∧ c ≤ 4)) :
    Calls Try.prog 23 #[.pointer (some ⟨b, 0, none⟩), .int .i64 p, .int .i64 c] w fun e w' => e = .returned (.int .i64 180) ∧ w' = w := by
  have H : Hid (Calls _ _ _ _ _) := h
  have HC : Hid (Calls _ _ _ _ _) := rcores_out c w hc
  clear h hc
  go_enter Try.func23, Try.ntmps23
  go_wp2_with fail
  refine H.out.mono ?_
  rintro e w1 ⟨rfl, hw⟩
  obtain rfl := hw.symm
  clear hw H
  go_wp2_with fail
  refine HC.out.mono ?_
  rintro e w1 ⟨rfl, hw⟩
  obtain rfl := hw.symm
  clear hw HC
  go_wp2
  go_ret
  exact ⟨rfl, rfl⟩

set_option maxHeartbeats 400000 in
theorem rcome_full (b : Nat) (p c : Int) (x y : Nat) (w : World) (h : RW b p w x y 0) (hx : x < 4294967296) (hc : 1 ≤ c ∧ c ≤ 4) (hf : c ≤ (x : Int)) :
    Calls Try.prog 22 #[.pointer (some ⟨b, 0, none⟩), .int .i64 p, .int .i64 c] w fun e w' => e = .returned (.tuple #[.bool false, .int .i64 181]) ∧ w' = w := by
  have H : Hid (Calls _ _ _ _ _) := h
  have HC : Hid (Calls _ _ _ _ _) := rcores_in c w hc
  have q1 : IntKind.i64.wrap (x : Int) = (x : Int) := by rw [IntKind.wrap_i64]; omega
  clear h hc hx
  go_enter Try.func22, Try.ntmps22
  go_wp2_with fail
  refine H.out.mono ?_
  rintro e w1 ⟨rfl, hw⟩
  obtain rfl := hw.symm
  clear hw H
  go_wp2_with fail
  refine HC.out.mono ?_
  rintro e w1 ⟨rfl, hw⟩
  obtain rfl := hw.symm
  clear hw HC
  go_wp2
  go_ret2
  exact ⟨rfl, rfl⟩

set_option maxHeartbeats 400000 in
theorem ropen_short (b : Nat) (p c : Int) (x y : Nat) (w : World) (h : RW b p w x y 0) (hx : x < 4294967296) (hc : 1 ≤ c ∧ c ≤ 4) (hf : (x : Int) < c) :
    Calls Try.prog 23 #[.pointer (some ⟨b, 0, none⟩), .int .i64 p, .int .i64 c] w fun e w' => e = .returned (.int .i64 182) ∧ w' = w := by
  have H : Hid (Calls _ _ _ _ _) := h
  have HC : Hid (Calls _ _ _ _ _) := rcores_in c w hc
  have q1 : IntKind.i64.wrap (x : Int) = (x : Int) := by rw [IntKind.wrap_i64]; omega
  clear h hc hx
  go_enter Try.func23, Try.ntmps23
  go_wp2_with fail
  refine H.out.mono ?_
  rintro e w1 ⟨rfl, hw⟩
  obtain rfl := hw.symm
  clear hw H
  go_wp2_with fail
  refine HC.out.mono ?_
  rintro e w1 ⟨rfl, hw⟩
  obtain rfl := hw.symm
  clear hw HC
  go_wp2
  go_ret
  exact ⟨rfl, rfl⟩

set_option maxHeartbeats 400000 in
theorem ropen_full (b : Nat) (p c : Int) (x y : Nat) (w : World) (h : RW b p w x y 0) (hx : x < 4294967296) (hc : 1 ≤ c ∧ c ≤ 4) (hf : c < (x : Int)) :
    Calls Try.prog 23 #[.pointer (some ⟨b, 0, none⟩), .int .i64 p, .int .i64 c] w fun e w' => e = .returned (.int .i64 181) ∧ w' = w := by
  have H : Hid (Calls _ _ _ _ _) := h
  have HC : Hid (Calls _ _ _ _ _) := rcores_in c w hc
  have q1 : IntKind.i64.wrap (x : Int) = (x : Int) := by rw [IntKind.wrap_i64]; omega
  have q2 : ¬ ((x : Int) < c) := by omega
  clear h hc hx
  go_enter Try.func23, Try.ntmps23
  go_wp2_with fail
  refine H.out.mono ?_
  rintro e w1 ⟨rfl, hw⟩
  obtain rfl := hw.symm
  clear hw H
  go_wp2_with fail
  refine HC.out.mono ?_
  rintro e w1 ⟨rfl, hw⟩
  obtain rfl := hw.symm
  clear hw HC
  go_wp2
  go_ret
  exact ⟨rfl, rfl⟩

set_option maxHeartbeats 400000 in
theorem rcome_in (b g : Nat) (xs : List UInt32) (p c : Int) (w : World) (hm : Rm w b g xs) (hf : BrOk xs p) (hc : 1 ≤ c ∧ c ≤ 4) (hx : ((cm xs p).toNat : Int) < c) :
    Calls Try.prog 22 #[.pointer (some ⟨b, 0, none⟩), .int .i64 p, .int .i64 c] w fun e w' => e = .returned (.tuple #[.bool (((cm xs p).toNat : Int) + 1 == c), .int .i64 0]) ∧ Rm w' b g (lay xs p.toNat [cm xs p + 1]) ∧ Keeps (· = g) w w' := by
  have H : Hid (Calls _ _ _ _ _) := rwords_in b g xs p w hm hf
  have HC : Hid (Calls _ _ _ _ _) := rcores_in c w hc
  have e1 : ((cm xs p + 1).toNat : Int) = ((cm xs p).toNat : Int) + 1 := by
    rw [UInt32.toNat_add]
    have : (1 : UInt32).toNat = 1 := rfl
    omega
  have HW := rwrite_in b g xs p.toNat (cm xs p + 1) w hm (by have := hf.1; have := hf.2; omega)
  have e0 : ((p.toNat : Nat) : Int) = p := by have := hf.1; omega
  rw [e0, e1] at HW
  obtain ⟨x, hxx⟩ : ∃ x : Nat, x = (cm xs p).toNat := ⟨_, rfl⟩
  obtain ⟨y, hyy⟩ : ∃ y : Nat, y = (ep xs p).toNat := ⟨_, rfl⟩
  obtain ⟨ys, hys⟩ : ∃ ys, ys = lay xs p.toNat [cm xs p + 1] := ⟨_, rfl⟩
  rw [← hxx] at H HW hx ⊢
  rw [← hyy] at H
  rw [← hys] at HW ⊢
  have HW : Hid (Calls _ _ _ _ _) := HW
  have q1 : IntKind.i64.wrap (x : Int) = (x : Int) := by rw [IntKind.wrap_i64]; omega
  have q2 : IntKind.u32.wrap ((x : Int) + 1) = (x : Int) + 1 := by rw [IntKind.wrap_u32]; omega
  have q3 : ¬ (c ≤ (x : Int)) := by omega
  have q4 : ((x : Int) + 1) % 4294967296 = (x : Int) + 1 := by omega
  have q5 : IntKind.i64.wrap ((x : Int) + 1) = (x : Int) + 1 := by rw [IntKind.wrap_i64]; omega
  clear hm hf e0 e1 hxx hyy hys hc
  go_enter Try.func22, Try.ntmps22
  go_wp2_with fail
  refine H.out.mono ?_
  rintro e w1 ⟨rfl, hw⟩
  obtain rfl := hw.symm
  clear hw H
  go_wp2_with fail
  refine HC.out.mono ?_
  rintro e w1 ⟨rfl, hw⟩
  obtain rfl := hw.symm
  clear hw HC
  go_wp2_with fail
  refine HW.out.mono ?_
  rintro e w1 ⟨rfl, h1, h2⟩
  have H3 : Hid (Rm _ _ _ _ ∧ Keeps _ _ _) := ⟨h1, h2⟩
  clear h1 h2 HW
  go_wp2
  go_ret2
  exact ⟨rfl, H3.out⟩

theorem lay_two (xs : List UInt32) (q : Nat) (a b : UInt32) (h : q + 1 < xs.length) : lay (lay xs q [a]) (q + 1) [b] = lay xs q [a, b] := by
  have h1 : q + [a].length ≤ xs.length := by simp; omega
  have h2 : (q + 1) + [b].length ≤ (lay xs q [a]).length := by rw [lay_length _ _ _ h1]; simp; omega
  have h3 : q + [a, b].length ≤ xs.length := by simp; omega
  apply List.ext_getElem?
  intro i
  rw [lay_get? _ _ _ h2, lay_get? _ _ _ h3, lay_get? _ _ _ h1]
  simp only [List.length_cons, List.length_nil]
  by_cases e1 : i = q
  · subst e1
    rw [if_neg (by omega), if_pos (by omega), if_pos (by omega)]
    simp
  · by_cases e2 : i = q + 1
    · subst e2
      rw [if_pos (by omega), if_pos (by omega)]
      simp
    · rw [if_neg (by omega), if_neg (by omega), if_neg (by omega)]

set_option maxRecDepth 20000 in
set_option maxHeartbeats 400000 in
theorem ropen_in (b g : Nat) (xs : List UInt32) (p c : Int) (w : World) (hm : Rm w b g xs) (hf : BrOk xs p) (hc : 1 ≤ c ∧ c ≤ 4) (hx : ((cm xs p).toNat : Int) = c) :
    Calls Try.prog 23 #[.pointer (some ⟨b, 0, none⟩), .int .i64 p, .int .i64 c] w fun e w' => e = .returned (.int .i64 0) ∧ Rm w' b g (lay xs p.toNat [0, ep xs p + 1]) ∧ Keeps (· = g) w w' := by
  have H : Hid (Calls _ _ _ _ _) := rwords_in b g xs p w hm hf
  have HC : Hid (Calls _ _ _ _ _) := rcores_in c w hc
  have e1 : ((ep xs p + 1).toNat : Int) = (((ep xs p).toNat : Int) + 1) % 4294967296 := by
    rw [UInt32.toNat_add]
    have : (1 : UInt32).toNat = 1 := rfl
    omega
  have hq1 : p.toNat < xs.length := by have := hf.1; have := hf.2; omega
  have HW := rwrite_in b g xs p.toNat 0 w hm hq1
  have e0 : ((p.toNat : Nat) : Int) = p := by have := hf.1; omega
  have ez : ((0 : UInt32).toNat : Int) = 0 := rfl
  rw [e0, ez] at HW
  have HV : ∀ w', Rm w' b g (lay xs p.toNat [0]) → Calls Try.prog 24 #[.pointer (some ⟨b, 0, none⟩), .int .i64 (p + 1), .int .u32 ((((ep xs p).toNat : Int) + 1) % 4294967296)] w' fun e w'' => e = .returned (.int .i64 0) ∧ Rm w'' b g (lay xs p.toNat [0, ep xs p + 1]) ∧ Keeps (· = g) w' w'' := by
    intro w' h'
    have h1 := rwrite_in b g (lay xs p.toNat [0]) (p.toNat + 1) (ep xs p + 1) w' h' (by rw [lay_length _ _ _ (by simp; omega)]; have := hf.1; have := hf.2; omega)
    have e2 : ((p.toNat + 1 : Nat) : Int) = p + 1 := by have := hf.1; omega
    rw [e2, e1, lay_two xs p.toNat 0 _ (by have := hf.1; have := hf.2; omega)] at h1
    exact h1
  have hlt := (ep xs p).toNat_lt
  have hp3 : p + 1 ≤ 16384 := by have := hf.2; have := hm.small; omega
  have hp4 : 0 ≤ p := hf.1
  obtain ⟨x, hxx⟩ : ∃ x : Nat, x = (cm xs p).toNat := ⟨_, rfl⟩
  obtain ⟨y, hyy⟩ : ∃ y : Nat, y = (ep xs p).toNat := ⟨_, rfl⟩
  obtain ⟨ys, hys⟩ : ∃ ys, ys = lay xs p.toNat [0, ep xs p + 1] := ⟨_, rfl⟩
  obtain ⟨zs, hzs⟩ : ∃ ys, ys = lay xs p.toNat [0] := ⟨_, rfl⟩
  rw [← hxx] at H hx
  rw [← hyy] at H HV hlt
  rw [← hys] at HV ⊢
  rw [← hzs] at HV HW
  obtain ⟨z, hz⟩ : ∃ z : Int, z = ((y : Int) + 1) % 4294967296 := ⟨_, rfl⟩
  rw [← hz] at HV
  have HW : Hid (Calls _ _ _ _ _) := HW
  have HV : Hid (∀ w', Rm w' b g zs → Calls Try.prog 24 #[.pointer (some ⟨b, 0, none⟩), .int .i64 (p + 1), .int .u32 z] w' fun e w'' => e = .returned (.int .i64 0) ∧ Rm w'' b g ys ∧ Keeps (· = g) w' w'') := HV
  have q1 : IntKind.i64.wrap (x : Int) = (x : Int) := by rw [IntKind.wrap_i64]; omega
  have q2 : IntKind.u32.wrap ((y : Int) + 1) = z := by rw [IntKind.wrap_u32, hz]
  have q3 : ¬ ((x : Int) < c) := by omega
  have q4 : ((y : Int) + 1) % 4294967296 = z := hz.symm
  have q5 : IntKind.i64.wrap (p + 1) = p + 1 := by rw [IntKind.wrap_i64]; omega
  have q6 : ¬ (c < (x : Int)) := by omega
  clear hm hf e0 e1 hxx hyy hys hzs hc ez hq1 hp3 hp4 hz hlt hx
  go_enter Try.func23, Try.ntmps23
  go_wp2_with fail
  refine H.out.mono ?_
  rintro e w1 ⟨rfl, hw⟩
  obtain rfl := hw.symm
  clear hw H
  go_wp2_with fail
  refine HC.out.mono ?_
  rintro e w1 ⟨rfl, hw⟩
  obtain rfl := hw.symm
  clear hw HC
  go_wp2_with fail
  refine HW.out.mono ?_
  rintro e w1 ⟨rfl, h1, h2⟩
  have H3 : Hid (Rm w1 b g zs ∧ Keeps (· = g) w w1) := ⟨h1, h2⟩
  clear h1 h2 HW
  go_wp2_with fail
  refine (HV.out w1 H3.out.1).mono ?_
  rintro e w2 ⟨rfl, h1, h2⟩
  have H4 : Hid (Rm w2 b g ys ∧ Keeps (· = g) w1 w2) := ⟨h1, h2⟩
  clear h1 h2 HV
  go_wp2
  go_ret
  exact ⟨rfl, H4.out.1, H3.out.2.trans H4.out.2 (fun _ _ e => e)⟩

theorem rcome_ref {b g : Nat} {xs : List UInt32} {p c E : Int} {w : World} (hm : Rm w b g xs) (hE : coE xs p c = E) (h0 : ¬ E = 0)
    (h : Calls Try.prog 22 #[.pointer (some ⟨b, 0, none⟩), .int .i64 p, .int .i64 c] w fun e w' => e = .returned (.tuple #[.bool false, .int .i64 E]) ∧ w' = w) :
    Calls Try.prog 22 #[.pointer (some ⟨b, 0, none⟩), .int .i64 p, .int .i64 c] w fun e w' => e = .returned (.tuple #[.bool (coB xs p c), .int .i64 (coE xs p c)]) ∧ Rm w' b g (coX xs p c) ∧ Keeps (· = g) w w' := by
  have e1 : coB xs p c = false := by unfold coB; rw [hE]; simp [h0]
  have e2 : coX xs p c = xs := by unfold coX; rw [hE, if_neg h0]
  rw [e1, e2, hE]
  refine h.mono ?_
  rintro e w' ⟨rfl, rfl⟩
  exact ⟨rfl, hm, Keeps.refl _ _⟩

theorem rcome_any (b g : Nat) (xs : List UInt32) (p c : Int) (w : World) (h : Rm w b g xs) (hp1 : -9223372036854775808 ≤ p) (hp2 : p ≤ 9223372036854775807) :
    Calls Try.prog 22 #[.pointer (some ⟨b, 0, none⟩), .int .i64 p, .int .i64 c] w fun e w' => e = .returned (.tuple #[.bool (coB xs p c), .int .i64 (coE xs p c)]) ∧ Rm w' b g (coX xs p c) ∧ Keeps (· = g) w w' := by
  by_cases hf : BrOk xs p
  · have hr := rwords_in b g xs p w h hf
    by_cases hc : 1 ≤ c ∧ c ≤ 4
    · by_cases hx : c ≤ ((cm xs p).toNat : Int)
      · exact rcome_ref h (show _ = 181 by unfold coE; rw [if_pos hf, if_pos hc, if_pos hx]) (by omega) (rcome_full b p c _ _ w hr (UInt32.toNat_lt _) hc hx)
      · have e0 : coE xs p c = 0 := by unfold coE; rw [if_pos hf, if_pos hc, if_neg hx]
        have e1 : coB xs p c = (((cm xs p).toNat : Int) + 1 == c) := by unfold coB; rw [e0]; rfl
        have e2 : coX xs p c = lay xs p.toNat [cm xs p + 1] := by unfold coX; rw [if_pos e0]
        rw [e0, e1, e2]
        exact rcome_in b g xs p c w h hf hc (by omega)
    · exact rcome_ref h (show _ = 180 by unfold coE; rw [if_pos hf, if_neg hc]) (by omega) (rcome_cores b p c _ _ w hr hc)
  · obtain ⟨x, hr⟩ := rwords_out b g xs p w h hf hp1 hp2
    exact rcome_ref h (show _ = 51 by unfold coE; rw [if_neg hf]) (by omega) (rcome_no b p c x 0 w hr)

theorem ropen_ref {b g : Nat} {xs : List UInt32} {p c E : Int} {w : World} (hm : Rm w b g xs) (hE : opE xs p c = E) (h0 : ¬ E = 0)
    (h : Calls Try.prog 23 #[.pointer (some ⟨b, 0, none⟩), .int .i64 p, .int .i64 c] w fun e w' => e = .returned (.int .i64 E) ∧ w' = w) :
    Calls Try.prog 23 #[.pointer (some ⟨b, 0, none⟩), .int .i64 p, .int .i64 c] w fun e w' => e = .returned (.int .i64 (opE xs p c)) ∧ Rm w' b g (opX xs p c) ∧ Keeps (· = g) w w' := by
  have e2 : opX xs p c = xs := by unfold opX; rw [hE, if_neg h0]
  rw [e2, hE]
  refine h.mono ?_
  rintro e w' ⟨rfl, rfl⟩
  exact ⟨rfl, hm, Keeps.refl _ _⟩

theorem ropen_any (b g : Nat) (xs : List UInt32) (p c : Int) (w : World) (h : Rm w b g xs) (hp1 : -9223372036854775808 ≤ p) (hp2 : p ≤ 9223372036854775807) :
    Calls Try.prog 23 #[.pointer (some ⟨b, 0, none⟩), .int .i64 p, .int .i64 c] w fun e w' => e = .returned (.int .i64 (opE xs p c)) ∧ Rm w' b g (opX xs p c) ∧ Keeps (· = g) w w' := by
  by_cases hf : BrOk xs p
  · have hr := rwords_in b g xs p w h hf
    by_cases hc : 1 ≤ c ∧ c ≤ 4
    · by_cases hx : ((cm xs p).toNat : Int) < c
      · exact ropen_ref h (show _ = 182 by unfold opE; rw [if_pos hf, if_pos hc, if_pos hx]) (by omega) (ropen_short b p c _ _ w hr (UInt32.toNat_lt _) hc hx)
      · by_cases hy : c < ((cm xs p).toNat : Int)
        · exact ropen_ref h (show _ = 181 by unfold opE; rw [if_pos hf, if_pos hc, if_neg hx, if_pos hy]) (by omega) (ropen_full b p c _ _ w hr (UInt32.toNat_lt _) hc hy)
        · have e0 : opE xs p c = 0 := by unfold opE; rw [if_pos hf, if_pos hc, if_neg hx, if_neg hy]
          have e2 : opX xs p c = lay xs p.toNat [0, ep xs p + 1] := by unfold opX; rw [if_pos e0]
          rw [e0, e2]
          exact ropen_in b g xs p c w h hf hc (by omega)
    · exact ropen_ref h (show _ = 180 by unfold opE; rw [if_pos hf, if_neg hc]) (by omega) (ropen_cores b p c _ _ w hr hc)
  · obtain ⟨x, hr⟩ := rwords_out b g xs p w h hf hp1 hp2
    exact ropen_ref h (show _ = 51 by unfold opE; rw [if_neg hf]) (by omega) (ropen_no b p c x 0 w hr)

end Go.Proofs.Ythepajjbflmchaa
