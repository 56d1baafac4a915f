import Derived.Test.YthepajjbflmchaaRf
namespace Go.Proofs.Ythepajjbflmchaa
open Go.RowKit
set_option linter.unusedVariables false

theorem meets_21 (w : World) : Calls Try.prog 7 #[.int .i64 2, .int .u32 0, .int .i64 1] w fun e w' => e = .returned (.bool true) ∧ Keeps (fun _ => False) w w' :=
  meets_any 2 0 1 w (by omega) (by omega) (by omega)

set_option maxHeartbeats 400000 in
theorem plays_no (a : Option Addr) (L cap : Nat) (sv : Value) (w : World) (E : Int)
    (h : Calls Try.prog 8 #[.slice a L cap] w fun e w' => e = .returned (.tuple #[.pointer none, .int .i64 E]) ∧ w' = w)
    (h2 : Calls Try.prog 9 #[.slice a L cap] w fun e w' => e = .returned (.tuple #[.pointer none, .int .i64 E]) ∧ w' = w) :
    Calls Try.prog 4 #[.slice a L cap, sv] w fun e w' => e = .returned (.bool true) ∧ Keeps (fun _ => False) w w' := by
  have H : Hid (Calls _ _ _ _ _) := h
  have H2 : Hid (Calls _ _ _ _ _) := h2
  have HM : Hid (Calls _ _ _ _ _) := meets_21 w
  clear h h2
  go_enter Try.func4, Try.ntmps4
  go_wp2_with fail
  refine H.out.mono ?_
  rintro e w1 ⟨rfl, hw⟩
  obtain rfl := hw.symm
  clear hw H
  go_wp2_with fail
  refine H2.out.mono ?_
  rintro e w1 ⟨rfl, hw⟩
  obtain rfl := hw.symm
  clear hw H2
  go_wp2_with fail
  refine HM.out.mono ?_
  rintro e w2 ⟨rfl, hk⟩
  have HK2 : Hid (Keeps _ _ _) := hk
  clear hk HM
  go_wp2
  go_ret
  exact ⟨rfl, HK2.out⟩

set_option maxRecDepth 20000 in
set_option maxHeartbeats 1000000 in
theorem plays_in (a : Option Addr) (cap n : Nat) (xs : List UInt32) (sa : Option Addr) (scap : Nat) (os : List OpB) (w : World) (hx : SegW w a xs) (hn : xs.length = n * 16) (h1 : 1 ≤ n) (h2 : n ≤ 1024)
    (hs : SegO w sa os) (hl : os.length ≤ maxLen) (hF : ∀ o ∈ os, o.Fine) :
    Calls Try.prog 4 #[.slice a xs.length cap, .slice sa os.length scap] w fun e w' => e = .returned (.bool true) ∧ Keeps (fun _ => False) w w' := by
  have HO : Hid (Calls _ _ _ _ _) := of_in a cap n xs w hx hn h1 h2
  have HR : Hid (∀ W, Keeps (fun _ => False) w W → Calls Try.prog 9 #[.slice a xs.length cap] W fun e w' => e = .returned (.tuple #[.pointer (some ⟨W.heap.size, 0, none⟩), .int .i64 0]) ∧ Rm w' W.heap.size (W.heap.size + 1) xs ∧ Keeps (fun _ => False) W w') :=
    fun W k => rof_in a cap n xs W (hx.kept k (fun _ _ e => e)) hn h1 h2
  have HS : Hid (SegO w sa os ∧ os.length ≤ maxLen ∧ ∀ o ∈ os, o.Fine) := ⟨hs, hl, hF⟩
  obtain ⟨L, hL⟩ : ∃ L, L = xs.length := ⟨_, rfl⟩
  obtain ⟨N, hN⟩ : ∃ N, N = os.length := ⟨_, rfl⟩
  have HN : Hid (N = os.length) := hN
  rw [← hL] at HO HR
  rw [← hL, ← hN]
  have hN2 : (N : Int) ≤ 9223372036854775807 := by unfold maxLen at hl; omega
  clear hx hn h1 h2 hs hl hF hL hN
  go_enter Try.func4, Try.ntmps4
  go_wp2_with fail
  refine HO.out.mono ?_
  rintro e w1 ⟨b, hb, rfl, hM, hk⟩
  obtain ⟨g, hg⟩ : ∃ g, g = w.heap.size := ⟨_, rfl⟩
  rw [← hg] at hM hb
  have H1 : Hid (Mm w1 b g xs ∧ Keeps (fun _ => False) w w1 ∧ g = w.heap.size) := ⟨hM, hk, hg⟩
  have HR2 : Hid (Calls _ _ _ _ _) := HR.out w1 hk
  clear hM hk hb hg HO HR
  go_wp2_with fail
  refine HR2.out.mono ?_
  rintro e w2 ⟨rfl, hM, hk⟩
  obtain ⟨rb, hrb⟩ : ∃ rb, rb = w1.heap.size := ⟨_, rfl⟩
  rw [← hrb] at hM ⊢
  have H2 : Hid (Duo w2 b g rb (rb + 1) xs ∧ Keeps (fun _ => False) w w2 ∧ w.heap.size ≤ g ∧ w.heap.size ≤ rb) := by
    have q1 := H1.out.1.blk.lt
    have q2 := H1.out.1.row.lt
    have q3 := H1.out.2.1.size
    have q4 := H1.out.2.2
    exact ⟨⟨H1.out.1.kept hk (fun e => e) (fun e => e), hM, by omega, by omega, by omega⟩, H1.out.2.1.trans hk (fun _ _ e => e), by omega, by omega⟩
  clear hM hk HR2 H1 hrb
  obtain ⟨rg, hrg⟩ : ∃ rg, rg = rb + 1 := ⟨_, rfl⟩
  rw [← hrg] at H2
  have HG : Hid (w.heap.size ≤ g ∧ w.heap.size ≤ rg) := ⟨H2.out.2.2.1, by rw [hrg]; have := H2.out.2.2.2; omega⟩
  clear hrg
  go_wp2_with fail
  go_loopw [9] (fun i wr => ∃ (j : Nat) (ys : List UInt32), j ≤ N ∧ i = .int .i64 (j : Int) ∧ Duo wr b g rb rg ys ∧ Keeps (fun _ => False) w wr) (fun i _ => N - (intOf i).toNat)
  case atStart => exact ⟨0, xs, by omega, rfl, H2.out.1, H2.out.2.1⟩
  case round =>
    clear H2
    obtain ⟨j, ys, hj, rfl, hD, hk⟩ := hrel
    have HD : Hid (Duo wr b g rb rg ys ∧ Keeps (fun _ => False) w wr) := ⟨hD, hk⟩
    by_cases hlt : j < N
    · have hlt' : (j : Int) < N := by omega
      have hjx : j < os.length := by rw [← HN.out]; exact hlt
      rcases HS.out.1.kept hk (fun _ _ e => e) with h | ⟨ga, oa, hsa, hcell⟩
      · rw [h] at hjx; simp at hjx
      subst hsa
      obtain ⟨o, ho⟩ : ∃ o, os[j]? = some o := ⟨_, List.getElem?_eq_getElem hjx⟩
      obtain ⟨c0, c1, c2, c3⟩ := hcell j o ho
      have HO1 := one_any b g rb rg ys o wr hD (HS.out.2.2 o (List.mem_of_getElem? ho))
      unfold OpB.v at HO1
      obtain ⟨K, hK⟩ : ∃ K, K = o.k := ⟨_, rfl⟩
      obtain ⟨p, hp⟩ : ∃ K, K = o.p := ⟨_, rfl⟩
      obtain ⟨c, hc⟩ : ∃ K, K = o.c := ⟨_, rfl⟩
      obtain ⟨X, hX⟩ : ∃ K : Nat, K = o.x.toNat := ⟨_, rfl⟩
      rw [← hK, ← hp, ← hc, ← hX] at HO1
      rw [← hK] at c0
      rw [← hp] at c1
      rw [← hc] at c2
      rw [← hX] at c3
      have HO1 : Hid (Calls _ _ _ _ _) := HO1
      clear hD hk hcell hjx hK hp hc hX ho
      go_wp2_with fail
      refine HO1.out.mono ?_
      rintro e w3 ⟨rfl, zs, hD3, hk3⟩
      have H3 : Hid (Duo w3 b g rb rg zs ∧ Keeps (fun _ => False) w w3) := ⟨hD3, HD.out.2.trans hk3 (fun k hk e => by have := HG.out; rcases e with e | e <;> omega)⟩
      have HSm : Hid (Calls _ _ _ _ _) := same_any b g rb rg zs w3 hD3.mm hD3.rm
      clear hD3 hk3 HO1 c0 c1 c2 c3
      go_wp2_with fail
      refine HSm.out.mono ?_
      rintro e w4 ⟨rfl, hk4⟩
      have H4 : Hid (Duo w4 b g rb rg zs ∧ Keeps (fun _ => False) w w4) := ⟨H3.out.1.grown hk4, H3.out.2.trans hk4 (fun _ _ e => e)⟩
      clear hk4 HSm H3
      go_wp2
      go_roundw
      case rel => exact ⟨j + 1, zs, by omega, by go_num, H4.out.1, H4.out.2⟩
      case measure => simp [intOf]; omega
    · obtain rfl : j = N := by omega
      have HM : Hid (Calls _ _ _ _ _) := meets_21 wr
      clear hD hk
      go_wp2_with fail
      refine HM.out.mono ?_
      rintro e w3 ⟨rfl, hk⟩
      have H3 : Hid (Keeps _ _ _) := hk
      clear hk HM
      go_wp2
      go_ret
      exact ⟨rfl, HD.out.2.trans H3.out (fun _ _ e => e)⟩

theorem barrierPlays_any (a : Option Addr) (cap : Nat) (xs : List UInt32) (sa : Option Addr) (scap : Nat) (os : List OpB) (w : World) (hx : SegW w a xs) (hs : SegO w sa os) (hl : os.length ≤ maxLen) (hF : ∀ o ∈ os, o.Fine) :
    Calls Try.prog 4 #[.slice a xs.length cap, .slice sa os.length scap] w fun e w' => e = .returned (.bool true) ∧ Keeps (fun _ => False) w w' := by
  by_cases h1 : (16384 : Int) < (xs.length : Int)
  · exact plays_no a xs.length cap _ w 2 (of_long a cap xs.length w h1) (rof_long a cap xs.length w h1)
  · by_cases h0 : xs.length = 0
    · rw [h0]
      exact plays_no a 0 cap _ w 50 (of_none a cap w) (rof_none a cap w)
    · by_cases h2 : xs.length % 16 = 0
      · exact plays_in a cap (xs.length / 16) xs sa scap os w hx (by omega) (by omega) (by omega) hs hl hF
      · exact plays_no a xs.length cap _ w 50 (of_odd a cap xs.length w (by omega) h2) (rof_odd a cap xs.length w (by omega) h2)

end Go.Proofs.Ythepajjbflmchaa
