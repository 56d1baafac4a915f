import Derived.Test.YtnkfdmlpjgmckaaRg
namespace Go.Proofs.Ytnkfdmlpjgmckaa
open Go.RowKit
set_option linter.unusedVariables false
set_option maxRecDepth 6000

theorem ShR.num {x : Cfg} {p : Int} {r : Nat} {e : Int} (h : ShR x p r e) : (Ieee.double.read r).isNaN = false := by
  unfold ShR at h
  split at h
  · split at h
    · rename_i hf
      have hmj : 1 ≤ x.major ∧ x.major ≤ 16384 := by unfold fills at hf; simp at hf; exact hf.1
      obtain ⟨r', hr', hn⟩ := shr_some (u := useAll p x.cs x.cs.length) hmj
      rw [h.1] at hr'
      cases hr'
      exact hn
    · rw [h.1]; decide +kernel
  · rw [h.1]; decide +kernel

theorem order_self {r : Nat} (h : (Ieee.double.read r).isNaN = false) : FloatKind.f64.format.order r r = some Ordering.eq := by
  show (Ieee.double.read r).order (Ieee.double.read r) = _
  generalize Ieee.double.read r = d at h
  cases d with
  | nan s t => cases h
  | infinity s => cases s <;> rfl
  | number s m i =>
    unfold Ieee.Datum.order
    dsimp only
    simp [compare, compareOfLessAndEq]

set_option maxHeartbeats 2000000 in
theorem planShares_any (x : Cfg) (p : Int) (w : World) (N : Nat) (hi : x.In w N) (hN : N ≤ w.heap.size) (hs : Small x) :
    Calls Try.prog 8 #[x.v, .int .i64 p] w fun e w' => e = .returned (.bool true) ∧ Keeps (fun _ => False) w w' := by
  obtain ⟨W, hW⟩ : ∃ W, W = x.laid w := ⟨_, rfl⟩
  obtain ⟨C, hC⟩ : ∃ C, C = w.heap.size := ⟨_, rfl⟩
  have HO : Hid (One w x C N W ∧ Small x) := by rw [hW, hC]; exact ⟨One.mk' hi hN, hs⟩
  clear hi hN hs
  unfold Cfg.laid at hW
  go_enter Try.func8, Try.ntmps8
  go_wp2_with fail
  rw [← hW, ← hC]
  clear hW hC
  refine (vast_any x W N HO.out.1.cin HO.out.1.nn).mono ?_
  rintro e w1 ⟨b, rfl, hK, hv⟩
  have HO1 : Hid (One w x C N w1) := HO.out.1.kept hK
  clear hK
  cases b with
  | true =>
    clear hv
    go_wp2
    go_ret
    exact ⟨rfl, HO1.out.keeps⟩
  | false =>
    have HT : Hid (tot x.cs x.cs.length ≤ 2147483647) := hv rfl HO.out.2
    clear hv
    obtain ⟨c0, c1, c2, c3, c4, c5, c6⟩ := HO1.out.cells
    go_wp2_with fail
    refine (share_any x p w1 N HO1.out.cin HO1.out.nn HT.out).mono ?_
    rintro e w2 ⟨r, er, rfl, hR, hK⟩
    have HO2 : Hid (One w x C N w2 ∧ ShR x p r er) := ⟨HO1.out.kept hK, hR⟩
    clear hK hR c0 c1 c2 c3 c4 c5 c6
    obtain ⟨c0, c1, c2, c3, c4, c5, c6⟩ := HO2.out.1.cells
    go_wp2_with fail
    refine (rshare_any x p w2 N HO2.out.1.cin HO2.out.1.nn HT.out).mono ?_
    rintro e w3 ⟨r', er', rfl, hR, hK⟩
    obtain ⟨rfl, rfl⟩ := HO2.out.2.unique hR
    have HO3 : Hid (One w x C N w3 ∧ (Ieee.double.read r).isNaN = false) := ⟨HO2.out.1.kept hK, hR.num⟩
    clear hK hR c0 c1 c2 c3 c4 c5 c6
    obtain ⟨c0, c1, c2, c3, c4, c5, c6⟩ := HO3.out.1.cells
    have hq := order_self HO3.out.2
    go_wp2_with fail
    refine (gap_any x p w3 N HO3.out.1.cin HO3.out.1.nn HT.out).mono ?_
    rintro e w4 ⟨r4, er4, rfl, hR, hK⟩
    have HO4 : Hid (One w x C N w4 ∧ GpR x p r4 er4) := ⟨HO3.out.1.kept hK, hR⟩
    clear hK hR c0 c1 c2 c3 c4 c5 c6 hq
    obtain ⟨c0, c1, c2, c3, c4, c5, c6⟩ := HO4.out.1.cells
    go_wp2_with fail
    refine (rgap_any x p w4 N HO4.out.1.cin HO4.out.1.nn HT.out).mono ?_
    rintro e w5 ⟨r5, er5, rfl, hR, hK⟩
    obtain ⟨rfl, rfl⟩ := HO4.out.2.unique hR
    have HO5 : Hid (One w x C N w5) := HO4.out.1.kept hK
    clear hK hR c0 c1 c2 c3 c4 c5 c6
    go_wp2_with fail
    refine (awake_any w5).mono ?_
    rintro e w6 ⟨rfl, hK⟩
    have HO6 : Hid (Keeps (fun _ => False) w w6) := HO5.out.keeps.trans hK fun _ _ h => h
    clear hK
    go_wp2
    go_ret
    exact ⟨rfl, HO6.out⟩
end Go.Proofs.Ytnkfdmlpjgmckaa
