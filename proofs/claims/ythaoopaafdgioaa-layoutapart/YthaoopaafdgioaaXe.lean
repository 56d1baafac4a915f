import Derived.Test.YthaoopaafdgioaaXd
import Derived.Test.YthaoopaafdgioaaIs
namespace Go.Proofs.Ythaoopaafdgioaa
open Go.RowKit
set_option linter.unusedVariables false
set_option linter.unusedSimpArgs false
set_option maxRecDepth 8000

set_option maxHeartbeats 4000000 in
theorem fits_any (x : Cfg) (w : World) (N : Nat) (hi : x.In w N) (hN : N ≤ w.heap.size) : Calls Try.prog 20 #[x.v] w fun e w' => (e = .returned (.bool false) ∨ e = .returned (.bool true) ∧ Fit x) ∧ Keeps (fun _ => False) w w' := by
  obtain ⟨W, hW⟩ : ∃ W, W = x.laid w := ⟨_, rfl⟩
  obtain ⟨C, hC⟩ : ∃ C, C = w.heap.size := ⟨_, rfl⟩
  have HO : Hid (One w x C N W) := by rw [hW, hC]; exact One.mk' hi hN
  clear hi hN
  unfold Cfg.laid at hW
  go_enter Try.func20, Try.ntmps20
  go_upto_region 1 with fail
  rw [← hW, ← hC]
  clear hW hC
  obtain ⟨q0, q1, q2, q3, q4, q5, q6⟩ := HO.out.cells
  have HC1 : Hid (Calls Try.prog 10 #[x.v] W (OfP x W)) := rOf_any x W N HO.out.cin HO.out.nn
  go_wp2_with fail
  refine HC1.out.mono ?_
  rintro e w1 hP
  have hK := hP.1
  obtain ⟨A, En, er, a1, n1, c1, a2, n2, c2, rfl, hR⟩ := hP.letters
  obtain ⟨W1, hW1⟩ : ∃ W1, W1 = w1.alloc (.cells #[.int .i64 A, .slice a1 n1 c1, .slice a2 n2 c2, .int .i64 En] 30) := ⟨_, rfl⟩
  obtain ⟨E, hE⟩ : ∃ E, E = w1.heap.size := ⟨_, rfl⟩
  have k1 : Keeps (fun _ => False) w1 W1 := by rw [hW1]; exact (Keeps.refl _ _).alloc _
  have hB1 : Blk W1 E [.int .i64 A, .slice a1 n1 c1, .slice a2 n2 c2, .int .i64 En] 30 := by rw [hW1, hE]; exact Blk.new _ _ _
  have HO1 : Hid (One w x C N W1) := (HO.out.kept hK).kept k1
  have c0' : W1.cell? ⟨C, 0, none⟩ = some (.int .i64 x.frames) := HO1.out.cfg.cell (i := 0) rfl
  have b3 := hB1.cell (i := 3) rfl
  clear hK HC1 q0 q1 q2 q3 q4 q5 q6 hP k1 hB1
  go_upto_region 2 with fail
  rw [← hW1, ← hE]
  clear hW1 hE
  rcases hR with ⟨h1, rfl, rfl, rfl⟩ | ⟨h1, rfl, _, hEn, _⟩
  · clear h1
    go_wp2
    go_ret
    exact ⟨.inl rfl, HO1.out.keeps⟩
  · have HF : Hid (x.frames ≤ 1024 → En ≤ x.frames → Fit x) := fun h2 h3 => ⟨h1, h2, by rw [← hEn]; exact h3⟩
    clear h1 hEn
    by_cases h2 : x.frames ≤ 1024
    · by_cases h3 : En ≤ x.frames
      · have HG : Hid (Fit x) := HF.out h2 h3
        go_wp2
        go_ret
        exact ⟨.inr ⟨rfl, HG.out⟩, HO1.out.keeps⟩
      · go_wp2
        go_ret
        exact ⟨.inl rfl, HO1.out.keeps⟩
    · go_wp2
      go_ret
      exact ⟨.inl rfl, HO1.out.keeps⟩

theorem stS_bd {x : Cfg} (hm : x.mayB = true) (n : Nat) : 0 ≤ stS x n ∧ stS x n ≤ 137 * n := by
  induction n with
  | zero => simp [stS]
  | succ n ih =>
    show 0 ≤ stS x n + _ ∧ stS x n + _ ≤ _
    cases hh : x.hs[n]? with
    | none => simp only []; omega
    | some h =>
      obtain ⟨hs, _, _, _⟩ := Cfg.mayB_chn hm hh
      have hpb := Chn.plc_bd hs
      have h2 : 3 ≤ h.stg ∧ h.stg ≤ 137 := by unfold Chn.stg; omega
      simp only []; omega
theorem mul4 {d : Nat} (h1 : 1 ≤ d) (h4 : d ≤ 4) {p : Int} (hp : 4 ≤ p ∧ p ≤ 139) : 4 ≤ (d : Int) * p ∧ (d : Int) * p ≤ 556 := by
  have : d = 1 ∨ d = 2 ∨ d = 3 ∨ d = 4 := by omega
  rcases this with h | h | h | h <;> subst h <;> simp <;> omega
theorem chn_bd {x : Cfg} (hm : x.mayB = true) {n : Nat} {h : Chn} (hh : x.hs[n]? = some h) : h.sized = true ∧ 3 ≤ h.stg ∧ h.stg ≤ 137 ∧ 4 ≤ h.prt ∧ h.prt ≤ 139 ∧ 1 ≤ (dstsOf x n).length ∧ (dstsOf x n).length ≤ 4 := by
  obtain ⟨hs, _, d1, d4⟩ := Cfg.mayB_chn hm hh
  have hpb := Chn.plc_bd hs
  have h2 : 3 ≤ h.stg ∧ h.stg ≤ 137 := by unfold Chn.stg; omega
  have h3 : 4 ≤ h.prt ∧ h.prt ≤ 139 := by unfold Chn.prt; split <;> omega
  exact ⟨hs, h2.1, h2.2, h3.1, h3.2, d1, d4⟩
theorem ptS_bd {x : Cfg} (hm : x.mayB = true) (n : Nat) : 0 ≤ ptS x n ∧ ptS x n ≤ 556 * n := by
  induction n with
  | zero => simp [ptS]
  | succ n ih =>
    show 0 ≤ ptS x n + _ ∧ ptS x n + _ ≤ _
    cases hh : x.hs[n]? with
    | none => simp only []; omega
    | some h =>
      obtain ⟨_, _, _, p1, p2, d1, d4⟩ := chn_bd hm hh
      have := mul4 d1 d4 ⟨p1, p2⟩
      simp only []; omega
end Go.Proofs.Ythaoopaafdgioaa
