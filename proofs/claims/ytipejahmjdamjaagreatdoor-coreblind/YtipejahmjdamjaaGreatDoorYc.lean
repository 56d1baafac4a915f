import Derived.Test.YtipejahmjdamjaaGreatDoorYb
namespace Go.Proofs.YtipejahmjdamjaaGreatDoor
open Go.RowKit Go.Shelf
set_option linter.unusedVariables false
set_option maxRecDepth 6000

set_option maxHeartbeats 4000000 in
/-- A place or a root that is none, or a place in the root. -/
theorem blind_out (a : Option Addr) (cp n : Nat) (root at' : Int) (xs rg : List UInt32) (pc : Nat) (v : UInt32) (w : World) (hx : SegW w a xs) (hn : xs.length = n * 16) (h1 : 1 ≤ n) (h2 : n ≤ 1024) (hT : Is.Tabs w)
    (hb : at' < 0 ∨ xs.length ≤ at' ∨ root < 0 ∨ n ≤ root ∨ at' / 16 = root) (ha : -9223372036854775808 ≤ at' ∧ at' ≤ 9223372036854775807) :
    Calls Tryz.prog 7 #[.slice a xs.length cp, .int .i64 root, .agg (ctx rg pc).toArray, .int .i64 at', .int .u32 (v.toNat : Int)] w fun e w' => e = .returned (.bool true) ∧ Keeps (fun _ => False) w w' := by
  obtain ⟨W, hW⟩ : ∃ W, W = w.alloc (.cells (ctx rg pc).toArray 40) := ⟨_, rfl⟩
  have hK0 : Keeps (fun _ => False) w W := by rw [hW]; exact (Keeps.refl _ w).alloc _
  have hxW := hx.kept hK0 fun _ _ h => h
  have H1 : Hid (Calls _ _ _ _ _) := of_yes a cp xs n W hxW hn h1 h2
  have HW : Hid (W = w.alloc (.cells (ctx rg pc).toArray 40)) := hW
  have H0 : Hid (Keeps (fun _ => False) w W ∧ Is.Tabs w) := ⟨hK0, hT⟩
  have HQ : Hid (xs.length = n * 16 ∧ 1 ≤ n ∧ n ≤ 1024) := ⟨hn, h1, h2⟩
  obtain ⟨L, eL⟩ : ∃ L, L = xs.length := ⟨_, rfl⟩
  have hLn : (L : Int) ≤ 16384 := by omega
  have hn2 : (n : Int) ≤ 1024 := by omega
  rw [← eL] at H1 hb ⊢
  clear hx hn h1 h2 hT hW hK0 hxW eL
  go_enter Tryz.func7, Tryz.ntmps7
  go_upto_region 1 with fail
  rw [← HW.out]
  go_wp2_with fail
  refine H1.out.mono ?_
  rintro e w1 ⟨b, rfl, hM1, hb1, hK1⟩
  have HFr : Hid (Calls Tryz.prog 34 #[ptr b] w1 fun e w' => e = .returned (.int .i64 n) ∧ w' = w1) := frames_any b _ xs n w1 hM1.mm hM1.len
  have hk := H0.out.1.trans hK1 fun _ _ h => h
  have HAw : Hid (Calls _ _ _ _ _) := awake_any w1 (tabs_kept H0.out.2 hk fun _ h => h.elim)
  have HK : Hid (Keeps (fun _ => False) w w1) := hk
  clear hM1 hb1 hK1 H1 hk
  by_cases c1 : at' < 0
  · have g1 : decide (at' < 0) = true := decide_eq_true c1
    clear hb c1
    go_wp2_with fail
    refine HAw.out.mono ?_
    rintro e w2 ⟨rfl, hK2⟩
    have HE : Hid (Keeps (fun _ => False) w w2) := HK.out.trans hK2 fun _ _ h => h
    clear hK2 HAw
    go_wp2
    go_ret
    exact ⟨rfl, HE.out⟩
  have g1 : decide (at' < 0) = false := decide_eq_false c1
  by_cases c2 : (L : Int) ≤ at'
  · have g2 : decide ((L : Int) ≤ at') = true := decide_eq_true c2
    clear hb c1 c2
    go_wp2_with fail
    refine HAw.out.mono ?_
    rintro e w2 ⟨rfl, hK2⟩
    have HE : Hid (Keeps (fun _ => False) w w2) := HK.out.trans hK2 fun _ _ h => h
    clear hK2 HAw
    go_wp2
    go_ret
    exact ⟨rfl, HE.out⟩
  have g2 : decide ((L : Int) ≤ at') = false := decide_eq_false c2
  by_cases c3 : root < 0
  · have g3 : decide (root < 0) = true := decide_eq_true c3
    clear hb c1 c2 c3
    go_wp2_with fail
    refine HAw.out.mono ?_
    rintro e w2 ⟨rfl, hK2⟩
    have HE : Hid (Keeps (fun _ => False) w w2) := HK.out.trans hK2 fun _ _ h => h
    clear hK2 HAw
    go_wp2
    go_ret
    exact ⟨rfl, HE.out⟩
  have g3 : decide (root < 0) = false := decide_eq_false c3
  by_cases c4 : (n : Int) ≤ root
  · have g4 : decide ((n : Int) ≤ root) = true := decide_eq_true c4
    clear hb c1 c2 c3 c4
    go_wp2_with fail
    refine HFr.out.mono ?_
    rintro e w1' ⟨rfl, hw⟩
    obtain rfl := hw.symm
    clear hw
    go_wp2_with fail
    refine HAw.out.mono ?_
    rintro e w2 ⟨rfl, hK2⟩
    have HE : Hid (Keeps (fun _ => False) w w2) := HK.out.trans hK2 fun _ _ h => h
    clear hK2 HAw
    go_wp2
    go_ret
    exact ⟨rfl, HE.out⟩
  have g4 : decide ((n : Int) ≤ root) = false := decide_eq_false c4
  · have e5 : at' / 16 = root := by omega
    have g5 : (at' / 16 == root) = true := by rw [e5]; simp
    have g6 : (at'.tdiv 16 == root) = true := by rw [Int.tdiv_eq_ediv_of_nonneg (by omega), e5]; simp
    have g7 : (at'.tdiv 16) = root := by rw [Int.tdiv_eq_ediv_of_nonneg (by omega), e5]
    clear hb c1 c2 c3 c4
    go_wp2_with fail
    refine HFr.out.mono ?_
    rintro e w1' ⟨rfl, hw⟩
    obtain rfl := hw.symm
    clear hw
    go_wp2_with fail
    refine HAw.out.mono ?_
    rintro e w2 ⟨rfl, hK2⟩
    have HE : Hid (Keeps (fun _ => False) w w2) := HK.out.trans hK2 fun _ _ h => h
    clear hK2 HAw
    go_wp2
    go_ret
    exact ⟨rfl, HE.out⟩

end Go.Proofs.YtipejahmjdamjaaGreatDoor
