import Derived.Test.YthaoopaafdgioaaXc
import Derived.ChangeKeysEq
import Derived.Test.YthaoopaafdgioaaOw
import Derived.StillTailTactics
namespace Go.Proofs.Ythaoopaafdgioaa
open Go.RowKit
set_option linter.unusedVariables false
set_option linter.unusedSimpArgs false
set_option maxRecDepth 8000

theorem region_tail {id : Nat} {Q : Exit → Act → World → Prop} {a : Act} {w : World} {l : List Oper} (n : Nat) (hB : Region.lexTailB .any l.toArray n = true)
    (h : wpStill Try.prog l.toArray (w.drewN 1) (fun a' => wpList Try.prog l.toArray Q (l.drop n) a' (w.drewN 1)) (l.take n) a) : (Code.region id l.toArray true).wp Try.prog Q a w :=
  wp_region_still_tail n Try.mixed hB h

theorem own_kind {x : Cfg} (hm : x.mayB = true) (t : Int) : 0 ≤ (ownO x t).kind ∧ (ownO x t).kind < 10 := by
  rw [own_eq hm]
  unfold ownD
  split
  · next p hp =>
    have := pcAll_ok x _ p (List.mem_of_find?_eq_some hp)
    rcases this with e | ⟨n, _, _, e | e | e | e⟩ | ⟨n, _, _, e | e⟩ | ⟨e, _⟩ <;> omega
  · unfold regO
    split <;> simp

/-- The ten counts. -/
def cells10 (f : Nat → Int) : List Value := [.int .i64 (f 0), .int .i64 (f 1), .int .i64 (f 2), .int .i64 (f 3), .int .i64 (f 4), .int .i64 (f 5), .int .i64 (f 6), .int .i64 (f 7), .int .i64 (f 8), .int .i64 (f 9)]
theorem cells10_get (f : Nat → Int) {k : Nat} (h : k < 10) : (cells10 f)[k]? = some (.int .i64 (f k)) := by
  have : k = 0 ∨ k = 1 ∨ k = 2 ∨ k = 3 ∨ k = 4 ∨ k = 5 ∨ k = 6 ∨ k = 7 ∨ k = 8 ∨ k = 9 := by omega
  rcases this with h | h | h | h | h | h | h | h | h | h <;> subst h <;> rfl
theorem cells10_set (f : Nat → Int) {k : Nat} (h : k < 10) (v : Int) : (cells10 f).set k (.int .i64 v) = cells10 (fun i => if i = k then v else f i) := by
  have : k = 0 ∨ k = 1 ∨ k = 2 ∨ k = 3 ∨ k = 4 ∨ k = 5 ∨ k = 6 ∨ k = 7 ∨ k = 8 ∨ k = 9 := by omega
  rcases this with h | h | h | h | h | h | h | h | h | h <;> subst h <;> rfl
theorem cells10_congr {f g : Nat → Int} (h : ∀ i, i < 10 → f i = g i) : cells10 f = cells10 g := by
  unfold cells10
  rw [h 0 (by omega), h 1 (by omega), h 2 (by omega), h 3 (by omega), h 4 (by omega), h 5 (by omega), h 6 (by omega), h 7 (by omega), h 8 (by omega), h 9 (by omega)]
theorem cW_le (g : Int → Int) (k s : Int) (m : Nat) : cW g k s m ≤ m := by
  induction m with
  | zero => exact Nat.le_refl _
  | succ m ih =>
    show cW g k s m + (if g (s + m) = k then 1 else 0) ≤ m + 1
    split <;> omega

theorem eqItems_same (d : Nat) (xs : Array Value) (w : World) : ∀ is : List Nat, (∀ i ∈ is, ∃ k, xs[i]? = some (.int .i64 k)) → (Op.eqItems (d + 1) 3 1 xs xs is).run Try.prog w = .ok true w := by
  intro is
  induction is with
  | nil => intro _; simp [Op.eqItems]
  | cons i is ih =>
    intro h
    obtain ⟨k, hk⟩ := h i (by simp)
    have hp : (part 3 xs (i * 1)).run Try.prog w = .ok (.int .i64 k) w := run_part_plain w (P := Try.prog) (by kernel_rfl) (by rw [Nat.mul_one]; exact hk)
    have he : (Op.equalIn (d + 1) 3 (.int .i64 k) (.int .i64 k)).run Try.prog w = .ok true w := by
      rw [run_equalIn_int (P := Try.prog) (w := w) d 3 .i64 .i64 k k (by kernel_rfl)]; simp
    simp only [Op.eqItems, Sem.run_bind, hp, he, Result.andThen_ok]
    simpa using ih fun j hj => h j (by simp [hj])
theorem eq10 (a0 a1 a2 a3 a4 a5 a6 a7 a8 a9 : Int) (w : World) : (Op.equalIn 10000 49 (.agg #[.int .i64 a0, .int .i64 a1, .int .i64 a2, .int .i64 a3, .int .i64 a4, .int .i64 a5, .int .i64 a6, .int .i64 a7, .int .i64 a8, .int .i64 a9]) (.agg #[.int .i64 a0, .int .i64 a1, .int .i64 a2, .int .i64 a3, .int .i64 a4, .int .i64 a5, .int .i64 a6, .int .i64 a7, .int .i64 a8, .int .i64 a9])).run Try.prog w = .ok true w := by
  have hu : Try.prog.underlying 49 = some (.array 10 3) := by kernel_rfl
  have h3 : Try.prog.cellsOf 3 = 1 := by kernel_rfl
  have hs : (Try.prog.info? 3).isSome = true := by kernel_rfl
  obtain ⟨i, hi⟩ := Option.isSome_iff_exists.mp hs
  rw [show (10000 : Nat) = 9999 + 1 from rfl, run_equalIn_array (P := Try.prog) (w := w) 9999 _ _ hu hi, h3]
  apply eqItems_same 9998
  intro j hj
  have hj : j < 10 := List.mem_range.mp hj
  match j, hj with
  | 0, _ => exact ⟨_, rfl⟩
  | 1, _ => exact ⟨_, rfl⟩
  | 2, _ => exact ⟨_, rfl⟩
  | 3, _ => exact ⟨_, rfl⟩
  | 4, _ => exact ⟨_, rfl⟩
  | 5, _ => exact ⟨_, rfl⟩
  | 6, _ => exact ⟨_, rfl⟩
  | 7, _ => exact ⟨_, rfl⟩
  | 8, _ => exact ⟨_, rfl⟩
  | 9, _ => exact ⟨_, rfl⟩


set_option maxHeartbeats 8000000 in
theorem counted_any (x : Cfg) (hf : Fit x) (BA En : Int) (a1 a2 : Option Addr) (n1 c1 n2 c2 : Nat) (e1 : En = rtAt x (rtB x (16 * x.kernel)) x.ps.length / 16) (w : World) (N : Nat) (hi : x.In w N) (hN : N ≤ w.heap.size) :
    Calls Try.prog 25 #[x.v, .agg #[.int .i64 BA, .slice a1 n1 c1, .slice a2 n2 c2, .int .i64 En], .agg #[.int .i64 0, .int .i64 0, .int .i64 (wantK x 2), .int .i64 (wantK x 3), .int .i64 (wantK x 4), .int .i64 (wantK x 5), .int .i64 (wantK x 6), .int .i64 (wantK x 7), .int .i64 (wantK x 8), .int .i64 (wantK x 9)]] w fun e w' => e = .returned (.bool true) ∧ Keeps (fun _ => False) w w' := by
  obtain ⟨M, m1, m2, m3⟩ := count_all hf.1
  have e16 := hf.end16
  have hfr := hf.2
  obtain ⟨A, hA⟩ : ∃ A, 16 * x.kernel = A := ⟨_, rfl⟩
  obtain ⟨kd, hkd⟩ : ∃ kd : Int → Int, (fun t => (ownO x t).kind) = kd := ⟨_, rfl⟩
  rw [hkd] at m2 m3
  obtain ⟨K2, hK2⟩ : ∃ v, wantK x 2 = v := ⟨_, rfl⟩
  obtain ⟨K3, hK3⟩ : ∃ v, wantK x 3 = v := ⟨_, rfl⟩
  obtain ⟨K4, hK4⟩ : ∃ v, wantK x 4 = v := ⟨_, rfl⟩
  obtain ⟨K5, hK5⟩ : ∃ v, wantK x 5 = v := ⟨_, rfl⟩
  obtain ⟨K6, hK6⟩ : ∃ v, wantK x 6 = v := ⟨_, rfl⟩
  obtain ⟨K7, hK7⟩ : ∃ v, wantK x 7 = v := ⟨_, rfl⟩
  obtain ⟨K8, hK8⟩ : ∃ v, wantK x 8 = v := ⟨_, rfl⟩
  obtain ⟨K9, hK9⟩ : ∃ v, wantK x 9 = v := ⟨_, rfl⟩
  have HCN : Hid (((cW kd 2 A M : Nat) : Int) = K2 ∧ ((cW kd 3 A M : Nat) : Int) = K3 ∧ ((cW kd 4 A M : Nat) : Int) = K4 ∧ ((cW kd 5 A M : Nat) : Int) = K5 ∧ ((cW kd 6 A M : Nat) : Int) = K6 ∧ ((cW kd 7 A M : Nat) : Int) = K7 ∧ ((cW kd 8 A M : Nat) : Int) = K8 ∧ ((cW kd 9 A M : Nat) : Int) = K9 ∧ ((cW kd 0 A M : Nat) : Int) + ((cW kd 1 A M : Nat) : Int) < 16) := by
    rw [hA] at m2 m3
    exact ⟨by rw [m2 2 (by omega), hK2], by rw [m2 3 (by omega), hK3], by rw [m2 4 (by omega), hK4], by rw [m2 5 (by omega), hK5], by rw [m2 6 (by omega), hK6], by rw [m2 7 (by omega), hK7], by rw [m2 8 (by omega), hK8], by rw [m2 9 (by omega), hK9], m3⟩
  rw [hK2, hK3, hK4, hK5, hK6, hK7, hK8, hK9]
  have HOW : Hid (∀ j : Nat, j < M → ∃ (k : Nat) (p q : Int), kd (A + j) = k ∧ k < 10 ∧ ownA x (A + j) = (⟨(k : Int), p, q⟩, 0)) := fun j hj => by
    have h1 := own_kind hf.1 (A + j)
    refine ⟨(ownO x (A + j)).kind.toNat, (ownO x (A + j)).idx, (ownO x (A + j)).port, ?_, by omega, ?_⟩
    · rw [← hkd]; show (ownO x (A + j)).kind = _; omega
    · rw [hf.own (by omega) (by omega), show (((ownO x (A + j)).kind.toNat : Nat) : Int) = (ownO x (A + j)).kind by omega]
  have hEM : 16 * En = A + M := by rw [e1]; omega
  have hkl : ¬ En ≤ x.kernel := by
    have := rt_ge x
    have h1 := chAt_bd hf.1 (chB x (16 * x.kernel)) x.hs.length
    have h2 : chB x (16 * x.kernel) = 16 * x.kernel + 2 + 24 * x.ps.length := rfl
    have h3 : chE x (16 * x.kernel) = chAt x (chB x (16 * x.kernel)) x.hs.length := rfl
    omega
  have hk1024 : ¬ (1024 : Int) < En := by omega
  have wA : IntKind.i64.wrap (16 * x.kernel) = A := by rw [IntKind.wrap_i64, hA]; omega
  have wE : IntKind.i64.wrap (16 * En) = A + M := by rw [IntKind.wrap_i64, hEM]; omega
  have hAM : 0 ≤ A ∧ A ≤ 16384 ∧ (M : Int) ≤ 16384 := by omega
  obtain ⟨W, hW⟩ : ∃ W, W = ((x.laid w).alloc (.cells #[.int .i64 BA, .slice a1 n1 c1, .slice a2 n2 c2, .int .i64 En] 30)).alloc (.cells #[.int .i64 0, .int .i64 0, .int .i64 K2, .int .i64 K3, .int .i64 K4, .int .i64 K5, .int .i64 K6, .int .i64 K7, .int .i64 K8, .int .i64 K9] 49) := ⟨_, rfl⟩
  obtain ⟨C, hC⟩ : ∃ C, C = w.heap.size := ⟨_, rfl⟩
  have HO : Hid (One w x C N W ∧ Blk W (C + 1) [.int .i64 BA, .slice a1 n1 c1, .slice a2 n2 c2, .int .i64 En] 30 ∧ Blk W (C + 2) [.int .i64 0, .int .i64 0, .int .i64 K2, .int .i64 K3, .int .i64 K4, .int .i64 K5, .int .i64 K6, .int .i64 K7, .int .i64 K8, .int .i64 K9] 49 ∧ W.heap.size = C + 3) := by
    rw [hW, hC]
    refine ⟨((One.mk' hi hN).kept ((Keeps.refl _ _).alloc _)).kept ((Keeps.refl _ _).alloc _), ?_, ?_, by simp [Cfg.laid]⟩
    · have := (Blk.new (x.laid w) #[.int .i64 BA, .slice a1 n1 c1, .slice a2 n2 c2, .int .i64 En] 30).alloc (.cells #[.int .i64 0, .int .i64 0, .int .i64 K2, .int .i64 K3, .int .i64 K4, .int .i64 K5, .int .i64 K6, .int .i64 K7, .int .i64 K8, .int .i64 K9] 49)
      simpa [Cfg.laid] using this
    · have := Blk.new ((x.laid w).alloc (.cells #[.int .i64 BA, .slice a1 n1 c1, .slice a2 n2 c2, .int .i64 En] 30)) #[.int .i64 0, .int .i64 0, .int .i64 K2, .int .i64 K3, .int .i64 K4, .int .i64 K5, .int .i64 K6, .int .i64 K7, .int .i64 K8, .int .i64 K9] 49
      simpa [Cfg.laid] using this
  clear hi hN m1 m2 m3 e16 hfr hA hkd hK2 hK3 hK4 hK5 hK6 hK7 hK8 hK9 e1 hEM hf
  unfold Cfg.laid at hW
  go_enter Try.func25, Try.ntmps25
  go_upto_region 1 with fail
  rw [← hW, ← hC]
  clear hW hC
  have b3 := HO.out.2.1.cell (i := 3) rfl
  have c2' : W.cell? ⟨C, 2, none⟩ = some (.int .i64 x.kernel) := HO.out.1.cfg.cell rfl
  obtain ⟨W1, hW1⟩ : ∃ W1, W1 = W.alloc (.cells #[.int .i64 0, .int .i64 0, .int .i64 0, .int .i64 0, .int .i64 0, .int .i64 0, .int .i64 0, .int .i64 0, .int .i64 0, .int .i64 0] 49) := ⟨_, rfl⟩
  obtain ⟨E, hE⟩ : ∃ E, E = W.heap.size := ⟨_, rfl⟩
  have HW1 : Hid (Keeps (fun _ => False) W W1 ∧ Blk W1 E (cells10 fun k => ((cW kd k A 0 : Nat) : Int)) 49 ∧ E = C + 3) := by
    rw [hW1, hE]
    exact ⟨(Keeps.refl _ _).alloc _, Blk.new W _ 49, HO.out.2.2.2⟩
  go_upto_region 4 with fail
  rw [← hW1, ← hE]
  clear hW1 hE b3 c2' hkl hk1024
  have c2' : W1.cell? ⟨C, 2, none⟩ = some (.int .i64 x.kernel) := (HO.out.1.kept HW1.out.1).cfg.cell rfl
  go_wp2
  clear c2' wA
  go_loopw [8] (fun i wr => ∃ j : Nat, j ≤ M ∧ i = .int .i64 (A + j) ∧ Keeps (fun k => k = E) W1 wr ∧ Blk wr E (cells10 fun k => ((cW kd k A j : Nat) : Int)) 49) (fun i _ => M - (intOf i - A).toNat)
  case atStart => exact ⟨0, by omega, by simp, Keeps.refl _ _, HW1.out.2.1⟩
  case round =>
    obtain ⟨j, hj, rfl, hK, hB⟩ := hrel
    have hk0 : Keeps (fun k => k = E) W wr := (HW1.out.1.mono fun _ _ e => e.elim).trans hK fun _ _ e => e
    have hE3 := HW1.out.2.2
    have hcw := HO.out.1.lo
    have hO : One w x C N wr := HO.out.1.kept' hk0 (by omega) (fun k e => by have := HO.out.1.n; omega) (fun k e => by omega)
    have b3 := (HO.out.2.1.kept hk0 (by omega)).cell (i := 3) rfl
    by_cases hlt : j < M
    · have hlt' : A + (j : Int) < A + M := by omega
      obtain ⟨q0, q1, q2, q3, q4, q5, q6⟩ := hO.cells
      obtain ⟨k, p, q, g1, g2, g3⟩ := HOW.out j hlt
      have HC := Owner_any x (A + j) (by unfold I64; omega) wr N hO.cin hO.nn
      rw [g3] at HC
      have HC : Hid (Calls Try.prog 14 #[x.v, .int .i64 (A + j)] wr fun e w' => e = .returned (.tuple #[.agg #[.int .i64 (k : Int), .int .i64 p, .int .i64 q], .int .i64 0]) ∧ Keeps (fun _ => False) wr w') := HC
      have HR : Hid (Keeps (fun k => k = E) W1 wr ∧ Blk wr E (cells10 fun k => ((cW kd k A j : Nat) : Int)) 49 ∧ kd (A + j) = k ∧ k < 10 ∧ j < M) := ⟨hK, hB, g1, g2, hlt⟩
      have hkz : (k : Int) < 10 := by omega
      clear hK hB hk0 hE3 hcw hO g1 g2 g3 hj hlt
      go_wp2_with fail
      refine HC.out.mono ?_
      rintro e w2 ⟨rfl, hK2⟩
      obtain ⟨W3, hW3⟩ : ∃ W3, W3 = w2.alloc (.cells #[.int .i64 (k : Int), .int .i64 p, .int .i64 q] 40) := ⟨_, rfl⟩
      obtain ⟨Q, hQ⟩ : ∃ Q, Q = w2.heap.size := ⟨_, rfl⟩
      have k3 : Keeps (fun _ => False) w2 W3 := by rw [hW3]; exact (Keeps.refl _ _).alloc _
      have hBQ : Blk W3 Q [.int .i64 (k : Int), .int .i64 p, .int .i64 q] 40 := by rw [hW3, hQ]; exact Blk.new _ _ _
      have kk : Keeps (fun _ => False) wr W3 := hK2.trans k3 fun _ _ e => e
      have hBE := HR.out.2.1.kept kk fun e => e
      have d0 := hBQ.cell (i := 0) rfl
      have nE := hBE.cell (cells10_get _ HR.out.2.2.2.1)
      have fE := hBE.frozen k
      have hQE : Q ≠ E := by have := HR.out.2.1.lt; have := hK2.size; omega
      obtain ⟨cv, hcv⟩ : ∃ cv, ((cW kd k A j : Nat) : Int) = cv := ⟨_, rfl⟩
      have hcl := cW_le kd k A j
      have w9 : IntKind.i64.wrap (cv + 1) = cv + 1 := by rw [IntKind.wrap_i64]; omega
      have HN : Hid (Keeps (fun k => k = E) W1 (W3.setCell ⟨E, k, none⟩ (.int .i64 (cv + 1))) ∧ Blk (W3.setCell ⟨E, k, none⟩ (.int .i64 (cv + 1))) E (cells10 fun k => ((cW kd k A (j + 1) : Nat) : Int)) 49) := by
        refine ⟨(HR.out.1.trans (kk.mono fun _ _ e => e.elim) fun _ _ e => e).setCell _ _ fun _ => rfl, ?_⟩
        have h1 := hBE.setCell k (.int .i64 (cv + 1))
        rw [cells10_set _ HR.out.2.2.2.1] at h1
        rw [cells10_congr (g := fun i => if i = k then cv + 1 else ((cW kd i A j : Nat) : Int))]
        · exact h1
        · intro i hi
          show ((cW kd i A j + (if kd (A + j) = (i : Int) then 1 else 0) : Nat) : Int) = _
          rw [HR.out.2.2.1]
          by_cases e : i = k
          · subst e; rw [if_pos rfl, if_pos rfl, ← hcv]; omega
          · rw [if_neg (by omega), if_neg e]; rfl
      rw [hcv] at nE
      clear hK2 k3 hBQ kk hBE hcv hcl HC q0 q1 q2 q3 q4 q5 q6 b3
      go_upto_region 8 with fail
      rw [← hW3, ← hQ]
      clear hW3 hQ
      have hk9 : ¬ (10 : Int) ≤ (k : Int) := by omega
      have hk8 : ¬ (k : Int) < 0 := by omega
      have w8 : IntKind.i64.wrap (A + (j : Int) + 1) = A + ((j + 1 : Nat) : Int) := by rw [IntKind.wrap_i64]; have := HR.out.2.2.2.2; omega
      go_wp2
      go_roundw
      case rel => exact ⟨j + 1, by have := HR.out.2.2.2.2; omega, by first | rfl | go_num, HN.out⟩
      case measure => have := HR.out.2.2.2.2; simp [intOf]; omega
    · obtain rfl : M = j := by omega
      obtain ⟨n2', n3', n4', n5', n6', n7', n8', n9', nl⟩ := HCN.out
      have hcl0 := cW_le kd 0 A M
      have hcl1 := cW_le kd 1 A M
      obtain ⟨u0, hu0⟩ : ∃ v, ((cW kd 0 A M : Nat) : Int) = v := ⟨_, rfl⟩
      obtain ⟨u1, hu1⟩ : ∃ v, ((cW kd 1 A M : Nat) : Int) = v := ⟨_, rfl⟩
      have v0 : wr.cell? ⟨E, 0, none⟩ = some (.int .i64 u0) := by rw [← hu0]; exact hB.cell (cells10_get _ (show 0 < 10 by omega))
      have v1 : wr.cell? ⟨E, 1, none⟩ = some (.int .i64 u1) := by rw [← hu1]; exact hB.cell (cells10_get _ (show 1 < 10 by omega))
      have g0 := hB.frozen 0
      have g1 := hB.frozen 1
      rw [hu0, hu1] at nl
      have wl : IntKind.i64.wrap (u0 + u1) = u0 + u1 := by rw [IntKind.wrap_i64]; omega
      have hB4 := (hB.setCell 0 (.int .i64 0)).setCell 1 (.int .i64 0)
      obtain ⟨W5, hW5⟩ : ∃ W5, W5 = (wr.setCell ⟨E, 0, none⟩ (.int .i64 0)).setCell ⟨E, 1, none⟩ (.int .i64 0) := ⟨_, rfl⟩
      have k5 : Keeps (fun k => k = E) wr W5 := by
        have ka : Keeps (fun k => k = E) wr (wr.setCell ⟨E, 0, none⟩ (.int .i64 0)) := (Keeps.refl _ wr).setCell _ _ fun _ => rfl
        rw [hW5]; exact ka.setCell ⟨E, 1, none⟩ (.int .i64 0) fun _ => rfl
      rw [← hW5] at hB4
      have hB5 : Blk W5 E [.int .i64 0, .int .i64 0, .int .i64 K2, .int .i64 K3, .int .i64 K4, .int .i64 K5, .int .i64 K6, .int .i64 K7, .int .i64 K8, .int .i64 K9] 49 := by
        rw [cells10_set _ (by omega), cells10_set _ (by omega)] at hB4
        rw [← n2', ← n3', ← n4', ← n5', ← n6', ← n7', ← n8', ← n9']
        exact hB4
      have hC5 := (HO.out.2.2.1.kept hk0 (by omega)).kept k5 (by omega)
      have y0 := hB5.cell (i := 0) rfl
      have z0 := hC5.cell (i := 0) rfl
      have y1 := hB5.cell (i := 1) rfl
      have z1 := hC5.cell (i := 1) rfl
      have y2 := hB5.cell (i := 2) rfl
      have z2 := hC5.cell (i := 2) rfl
      have y3 := hB5.cell (i := 3) rfl
      have z3 := hC5.cell (i := 3) rfl
      have y4 := hB5.cell (i := 4) rfl
      have z4 := hC5.cell (i := 4) rfl
      have y5 := hB5.cell (i := 5) rfl
      have z5 := hC5.cell (i := 5) rfl
      have y6 := hB5.cell (i := 6) rfl
      have z6 := hC5.cell (i := 6) rfl
      have y7 := hB5.cell (i := 7) rfl
      have z7 := hC5.cell (i := 7) rfl
      have y8 := hB5.cell (i := 8) rfl
      have z8 := hC5.cell (i := 8) rfl
      have y9 := hB5.cell (i := 9) rfl
      have z9 := hC5.cell (i := 9) rfl
      have HF : Hid (Keeps (fun _ => False) w W5) := (hO.keeps.trans k5 fun k hk e => (by omega))
      clear hK hB hk0 hE3 hcw hO hcl0 hcl1 hu0 hu1 hB4 k5 hB5 hC5 n2' n3' n4' n5' n6' n7' n8' n9'
      go_upto_region 14 with fail
      rw [← hW5]
      clear hW5 v0 v1 g0 g1 b3
      have hl16 : decide (u0 + u1 < 16) = true := decide_eq_true nl
      have hEq := eq10 0 0 K2 K3 K4 K5 K6 K7 K8 K9 W5
      go_wp2
      go_ret
      exact ⟨rfl, HF.out⟩

end Go.Proofs.Ythaoopaafdgioaa
