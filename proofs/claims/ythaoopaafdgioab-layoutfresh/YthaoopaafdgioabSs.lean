import Derived.Test.YthaoopaafdgioabSq
namespace Go.Proofs.Ythaoopaafdgioab
open Go.RowKit
set_option linter.unusedVariables false
set_option linter.unusedSimpArgs false
set_option maxRecDepth 6000

/-- What whoever asks for a word of the kernel's area holds: the configuration in C, the word, the answer and what was found behind it; K is the counter's own variable, B what it counts with. -/
structure KO (w : World) (x : Cfg) (C N : Nat) (t : Int) (ok ob : Bool) (K B : Nat) (w' : World) : Prop where
  one : One w x C N w'
  word : Blk w' (C + 1) [.int .i64 t] 3
  res : Blk w' (C + 2) [.int .i64 0, .int .i64 0, .int .i64 0] 36
  found : Blk w' (C + 3) [.int .i64 0, .int .i64 0, .int .i64 0] 36
  sz : C + 4 ≤ w'.heap.size
  cw : C = w.heap.size
  kk : ok = true → Blk w' K [.nilFunc] 82 ∧ C + 4 ≤ K
  bb : ob = true → Blk w' B [.int .i64 (16 * x.kernel)] 3 ∧ C + 4 ≤ B
  ne : ok = true → ob = true → K ≠ B
theorem KO.kept {w : World} {x : Cfg} {C N : Nat} {t : Int} {ok ob : Bool} {K B : Nat} {w' w'' : World} (h : KO w x C N t ok ob K B w') (hK : Keeps (fun _ => False) w' w'') : KO w x C N t ok ob K B w'' :=
  ⟨h.one.kept hK, h.word.kept hK fun h => h, h.res.kept hK fun h => h, h.found.kept hK fun h => h, Nat.le_trans h.sz hK.size, h.cw, fun e => ⟨(h.kk e).1.kept hK fun h => h, (h.kk e).2⟩, fun e => ⟨(h.bb e).1.kept hK fun h => h, (h.bb e).2⟩, h.ne⟩
theorem KO.counts {w : World} {x : Cfg} {C N : Nat} {t : Int} {ok : Bool} {K B : Nat} {w' w'' : World} (h : KO w x C N t ok false K B w') (hK : Keeps (fun _ => False) w' w'') (hB : Blk w'' w'.heap.size [.int .i64 (16 * x.kernel)] 3) : KO w x C N t ok true K w'.heap.size w'' :=
  ⟨h.one.kept hK, h.word.kept hK fun h => h, h.res.kept hK fun h => h, h.found.kept hK fun h => h, Nat.le_trans h.sz hK.size, h.cw, fun e => ⟨(h.kk e).1.kept hK fun h => h, (h.kk e).2⟩, fun _ => ⟨hB, h.sz⟩, fun e _ => by have := (h.kk e).1.lt; omega⟩
theorem KO.var {w : World} {x : Cfg} {C N : Nat} {t : Int} {ob : Bool} {K B : Nat} {w' : World} (h : KO w x C N t false ob K B w') : KO w x C N t true ob w'.heap.size B (w'.alloc (.cells #[.nilFunc] 82)) := by
  have hK : Keeps (fun _ => False) w' (w'.alloc (.cells #[.nilFunc] 82)) := (Keeps.refl _ _).alloc _
  exact ⟨h.one.kept hK, h.word.kept hK fun h => h, h.res.kept hK fun h => h, h.found.kept hK fun h => h, Nat.le_trans h.sz hK.size, h.cw, fun _ => ⟨Blk.new _ _ _, h.sz⟩, fun e => ⟨(h.bb e).1.kept hK fun h => h, (h.bb e).2⟩, fun _ e => by have := (h.bb e).1.lt; omega⟩
/-- The same, with the counter in its variable. -/
structure KP (w : World) (x : Cfg) (C N : Nat) (t : Int) (K B : Nat) (w' : World) : Prop where
  one : One w x C N w'
  word : Blk w' (C + 1) [.int .i64 t] 3
  res : Blk w' (C + 2) [.int .i64 0, .int .i64 0, .int .i64 0] 36
  found : Blk w' (C + 3) [.int .i64 0, .int .i64 0, .int .i64 0] 36
  cw : C = w.heap.size
  fn : Blk w' K [.func (.func 44) #[] #[.pointer (some ⟨B, 0, none⟩)]] 82
  cnt : Blk w' B [.int .i64 (16 * x.kernel)] 3
  lo : C + 4 ≤ K ∧ C + 4 ≤ B ∧ K ≠ B
theorem KO.stored {w : World} {x : Cfg} {C N : Nat} {t : Int} {K B : Nat} {w' : World} (h : KO w x C N t true true K B w') : KP w x C N t K B (w'.setCell ⟨K, 0, none⟩ (.func (.func 44) #[] #[.pointer (some ⟨B, 0, none⟩)])) := by
  obtain ⟨hk, hl⟩ := h.kk rfl
  obtain ⟨hb, hm⟩ := h.bb rfl
  have hn := h.ne rfl rfl
  have hcw := h.cw
  have hN := h.one.n
  have hK : Keeps (fun k => k = K) w' (w'.setCell ⟨K, 0, none⟩ (.func (.func 44) #[] #[.pointer (some ⟨B, 0, none⟩)])) := (Keeps.refl _ _).setCell _ _ fun _ => rfl
  exact ⟨h.one.kept' hK (by omega) (fun k e => by omega) (fun k e => by omega), h.word.kept hK (by omega), h.res.kept hK (by omega), h.found.kept hK (by omega), h.cw, hk.setCell 0 _, hb.kept hK (by omega), hl, hm, hn⟩

set_option maxHeartbeats 4000000 in
theorem kernelOwner_any (x : Cfg) (t : Int) (w : World) (N : Nat) (hi : x.In w N) (hN : N ≤ w.heap.size) (hm : x.mayB = true) :
    Calls Try.prog 21 #[x.v, .int .i64 t] w fun e w' => e = .returned (lastGo t (16 * x.kernel) ⟨0, 0, 0⟩ (layH x (16 * x.kernel))).v ∧ Keeps (fun _ => False) w w' := by
  obtain ⟨W, hW⟩ : ∃ W, W = (((x.laid w).alloc (.cells #[.int .i64 t] 3)).alloc (.cells #[.int .i64 0, .int .i64 0, .int .i64 0] 36)).alloc (.cells #[.int .i64 0, .int .i64 0, .int .i64 0] 36) := ⟨_, rfl⟩
  obtain ⟨C, hC⟩ : ∃ C, C = w.heap.size := ⟨_, rfl⟩
  obtain ⟨K, hKz⟩ : ∃ K : Nat, K = 0 := ⟨_, rfl⟩
  obtain ⟨B, hBz⟩ : ∃ B : Nat, B = 0 := ⟨_, rfl⟩
  have HO : Hid (KO w x C N t false false K B W) := by
    obtain ⟨V0, hV0⟩ : ∃ V0, V0 = x.laid w := ⟨_, rfl⟩
    have s0 : V0.heap.size = C + 1 := by rw [hV0, hC]; simp [Cfg.laid]
    have o0 : One w x C N V0 := by rw [hV0, hC]; exact One.mk' hi hN
    obtain ⟨V1, hV1⟩ : ∃ V1, V1 = V0.alloc (.cells #[.int .i64 t] 3) := ⟨_, rfl⟩
    have k1 : Keeps (fun _ => False) V0 V1 := by rw [hV1]; exact (Keeps.refl _ _).alloc _
    have b1 : Blk V1 (C + 1) [.int .i64 t] 3 := by rw [hV1, ← s0]; exact Blk.new _ _ _
    have s1 : V1.heap.size = C + 2 := by rw [hV1]; simp [s0]
    obtain ⟨V2, hV2⟩ : ∃ V2, V2 = V1.alloc (.cells #[.int .i64 0, .int .i64 0, .int .i64 0] 36) := ⟨_, rfl⟩
    have k2 : Keeps (fun _ => False) V1 V2 := by rw [hV2]; exact (Keeps.refl _ _).alloc _
    have b2 : Blk V2 (C + 2) [.int .i64 0, .int .i64 0, .int .i64 0] 36 := by rw [hV2, ← s1]; exact Blk.new _ _ _
    have s2 : V2.heap.size = C + 3 := by rw [hV2]; simp [s1]
    have k3 : Keeps (fun _ => False) V2 W := by rw [hW, ← hV0, ← hV1, ← hV2]; exact (Keeps.refl _ _).alloc _
    have b3 : Blk W (C + 3) [.int .i64 0, .int .i64 0, .int .i64 0] 36 := by rw [hW, ← hV0, ← hV1, ← hV2, ← s2]; exact Blk.new _ _ _
    have s3 : W.heap.size = C + 4 := by rw [hW, ← hV0, ← hV1, ← hV2]; simp [s2]
    exact ⟨((o0.kept k1).kept k2).kept k3, (b1.kept k2 fun h => h).kept k3 fun h => h, b2.kept k3 fun h => h, b3, by omega, hC, (fun e => by cases e), (fun e => by cases e), (fun e => by cases e)⟩
  have HM : Hid (x.mayB = true) := hm
  have HB : Hid (0 ≤ x.kernel ∧ x.kernel < 1024) := ⟨(Cfg.mayB_iff.1 hm).1, (Cfg.mayB_iff.1 hm).2.1⟩
  clear hi hN hm hKz hBz
  unfold Cfg.laid at hW
  go_enter Try.func21, Try.ntmps21
  go_upto_region 2 with fail
  rw [← hW, ← hC]
  clear hW hC
  obtain ⟨q0, q1, q2, q3, q4, q5, q6⟩ := HO.out.one.cells
  go_wp2_with fail
  refine (begin_any x W HB.out).mono ?_
  rintro r w1 ⟨rfl, hKc⟩
  have h1 : Hid (KO w x C N t false false K B w1) := HO.out.kept hKc
  clear hKc HO q0 q1 q2 q3 q4 q5 q6
  go_wp2_with fail
  refine (countFrom_any (16 * x.kernel) w1).mono ?_
  rintro r w2 ⟨rfl, hBc, hKc⟩
  have h2 := h1.out.counts hKc hBc
  clear hKc hBc h1 B
  obtain ⟨B, hb⟩ : ∃ B, B = w1.heap.size := ⟨_, rfl⟩
  rw [← hb] at h2 ⊢
  have h2 : Hid (KO w x C N t false true K B w2) := h2
  clear hb
  have h3 := h2.out.var
  go_upto_region 3 with fail
  obtain ⟨W3, hW3⟩ : ∃ W3, W3 = w2.alloc (.cells #[.nilFunc] 82) := ⟨_, rfl⟩
  rw [← hW3] at h3 ⊢
  clear hW3
  obtain ⟨M, hb⟩ : ∃ M, M = w2.heap.size := ⟨_, rfl⟩
  rw [← hb] at h3 ⊢
  clear hb
  have k0 := (h3.kk rfl).1.cell (i := 0) rfl
  have z0 := (h3.kk rfl).1.frozen 0
  have h4 := h3.stored
  obtain ⟨W4, hW4⟩ : ∃ W4, W4 = W3.setCell ⟨M, 0, none⟩ (.func (.func 44) #[] #[.pointer (some ⟨B, 0, none⟩)]) := ⟨_, rfl⟩
  rw [← hW4] at h4
  have h4 : Hid (KP w x C N t M B W4) := h4
  clear h3
  rw [run_store Try.prog W3 _ _ _ rfl]
  go_simp
  rw [← hW4]
  clear hW4 k0 z0
  obtain ⟨q0, q1, q2, q3, q4, q5, q6⟩ := h4.out.one.cells
  have HC : Hid (Calls Try.prog 23 #[x.v, .func (.func 37) #[] #[.pointer (some ⟨M, 0, none⟩), .pointer (some ⟨C + 1, 0, none⟩), .pointer (some ⟨C + 1 + 1 + 1, 0, none⟩)]] W4 (LayP (JO B M (C + 1) (C + 1 + 1 + 1) (16 * x.kernel) t) (SO B M (C + 1) (C + 1 + 1 + 1)) x W4 (16 * x.kernel) [])) := by
    have hb := HB.out
    have hlo := h4.out.lo
    have hn := h4.out.one.n
    have hcw := h4.out.cw
    have l1 := h4.out.cnt.lt
    have l2 := h4.out.fn.lt
    have l3 := h4.out.word.lt
    have l4 := h4.out.found.lt
    exact lay_any (dl_owner B M (C + 1) (C + 1 + 1 + 1) (16 * x.kernel) t) x HM.out W4 N h4.out.one.cin h4.out.one.nn (16 * x.kernel) [] ⟨h4.out.cnt, h4.out.fn, h4.out.word, h4.out.found, by simp [sumK], by omega⟩ (fun k hk => by rcases hk with rfl | rfl | rfl | rfl <;> omega) (by omega) (by omega)
  go_wp2_with fail
  refine HC.out.mono ?_
  rintro e w5 ⟨b1, b2, F, G, T, D, rfl, _, _, _, hJ, hK⟩
  clear HC q0 q1 q2 q3 q4 q5 q6
  rw [List.nil_append] at hJ
  have hlo := h4.out.lo
  have hcw := h4.out.cw
  have H5 : Hid (Blk w5 (C + 1 + 1 + 1) (lastGo t (16 * x.kernel) ⟨0, 0, 0⟩ (layH x (16 * x.kernel))).vs 36 ∧ Blk w5 (C + 1 + 1) [.int .i64 0, .int .i64 0, .int .i64 0] 36 ∧ Keeps (fun _ => False) w w5) :=
    ⟨hJ.found, h4.out.res.kept hK (by unfold SO; omega), h4.out.one.keeps.trans hK fun k hk e => by unfold SO at e; omega⟩
  have HCW : Hid (C = w.heap.size) := hcw
  clear hJ hK hlo hcw
  obtain ⟨O, hO⟩ : ∃ O, lastGo t (16 * x.kernel) ⟨0, 0, 0⟩ (layH x (16 * x.kernel)) = O := ⟨_, rfl⟩
  rw [hO] at H5
  have HQ : Hid (lastGo t (16 * x.kernel) ⟨0, 0, 0⟩ (layH x (16 * x.kernel)) = O) := hO
  clear hO h4
  have f0 := H5.out.1.cell (i := 0) rfl
  have f1 := H5.out.1.cell (i := 1) rfl
  have f2 := H5.out.1.cell (i := 2) rfl
  have a0 := H5.out.2.1.cell (i := 0) rfl
  have a1 := H5.out.2.1.cell (i := 1) rfl
  have a2 := H5.out.2.1.cell (i := 2) rfl
  have z0 := H5.out.2.1.frozen 0
  have z1 := H5.out.2.1.frozen 1
  have z2 := H5.out.2.1.frozen 2
  go_wp2
  obtain ⟨hB, hK3⟩ := set3 H5.out.2.1 (.int .i64 O.kind) (.int .i64 O.idx) (.int .i64 O.port)
  obtain ⟨Wb, hWb⟩ : ∃ Wb, Wb = (((w5.setCell ⟨C + 1 + 1, 0, none⟩ (.int .i64 O.kind)).setCell ⟨C + 1 + 1, 1, none⟩ (.int .i64 O.idx)).setCell ⟨C + 1 + 1, 2, none⟩ (.int .i64 O.port)) := ⟨_, rfl⟩
  rw [← hWb] at hB hK3 ⊢
  (try simp only [Exit.inBlock, Exit.then])
  refine bodyPost_ret (results_cell_row rfl _ _ (C + 1 + 1) 36 _ (0, 0) _ rfl hB Try.underlying36 rfl (by kernel_rfl)) rfl ?_
  exact ⟨by rw [HQ.out], H5.out.2.2.trans hK3 fun k hk e => by have := HCW.out; omega⟩
end Go.Proofs.Ythaoopaafdgioab
namespace Go.Proofs.Ythaoopaafdgioab
open Go.RowKit
set_option linter.unusedVariables false
set_option linter.unusedSimpArgs false
set_option maxRecDepth 6000

/-- Whose a word of a configuration that can be laid out is. -/
def ownO (x : Cfg) (t : Int) : Ow :=
  if (lastGo t (16 * x.kernel) ⟨0, 0, 0⟩ (layH x (16 * x.kernel))).kind = 0 then regO (t / 16) x.ps else lastGo t (16 * x.kernel) ⟨0, 0, 0⟩ (layH x (16 * x.kernel))
/-- What Owner answers. -/
def ownA (x : Cfg) (t : Int) : Ow × Int :=
  if x.mayB = false then (⟨0, 0, 0⟩, 150) else if isW x.frames t = false then (⟨0, 0, 0⟩, 151) else (ownO x t, 0)

structure OwI (w : World) (x : Cfg) (C N : Nat) (w' : World) : Prop where
  one : One w x C N w'
  res : Blk w' (C + 1) [.int .i64 0, .int .i64 0, .int .i64 0] 36
  cw : C = w.heap.size
theorem OwI.kept {w : World} {x : Cfg} {C N : Nat} {w' w'' : World} (h : OwI w x C N w') (hK : Keeps (fun _ => False) w' w'') : OwI w x C N w'' :=
  ⟨h.one.kept hK, h.res.kept hK fun h => h, h.cw⟩

set_option maxHeartbeats 4000000 in
theorem Owner_any (x : Cfg) (t : Int) (ht : I64 t) (w : World) (N : Nat) (hi : x.In w N) (hN : N ≤ w.heap.size) :
    Calls Try.prog 10 #[x.v, .int .i64 t] w fun e w' => e = .returned (.tuple #[(ownA x t).1.v, .int .i64 (ownA x t).2]) ∧ Keeps (fun _ => False) w w' := by
  obtain ⟨W, hW⟩ : ∃ W, W = (x.laid w).alloc (.cells #[.int .i64 0, .int .i64 0, .int .i64 0] 36) := ⟨_, rfl⟩
  obtain ⟨C, hC⟩ : ∃ C, C = w.heap.size := ⟨_, rfl⟩
  have HO : Hid (OwI w x C N W) := by
    have s0 : (x.laid w).heap.size = C + 1 := by rw [hC]; simp [Cfg.laid]
    refine ⟨?_, ?_, hC⟩
    · rw [hW, hC]; exact (One.mk' hi hN).kept ((Keeps.refl _ _).alloc _)
    · rw [hW, ← s0]; exact Blk.new _ _ _
  have HT : Hid (I64 t) := ht
  clear hi hN ht
  unfold Cfg.laid at hW
  go_enter Try.func10, Try.ntmps10
  go_upto_region 1 with fail
  rw [← hW, ← hC]
  clear hW hC
  obtain ⟨q0, q1, q2, q3, q4, q5, q6⟩ := HO.out.one.cells
  have HC : Hid (Calls Try.prog 19 #[x.v] W fun e w' => e = .returned (.bool x.mayB) ∧ Keeps (fun _ => False) W w') := canLie_any x W N HO.out.one.cin HO.out.one.nn
  go_wp2_with fail
  refine HC.out.mono ?_
  rintro e w1 ⟨rfl, hK⟩
  have H1 : Hid (OwI w x C N w1) := HO.out.kept hK
  clear hK HC HO q0 q1 q2 q3 q4 q5 q6
  obtain ⟨b, hb⟩ : ∃ b, x.mayB = b := ⟨_, rfl⟩
  rw [hb]
  have HB : Hid (x.mayB = b) := hb
  clear hb
  cases b with
  | false =>
    have HA : Hid (ownA x t = (⟨0, 0, 0⟩, 150)) := by show _ = _; unfold ownA; rw [HB.out]; rfl
    have a0 := H1.out.res.cell (i := 0) rfl
    have a1 := H1.out.res.cell (i := 1) rfl
    have a2 := H1.out.res.cell (i := 2) rfl
    have z0 := H1.out.res.frozen 0
    have z1 := H1.out.res.frozen 1
    have z2 := H1.out.res.frozen 2
    go_wp2
    obtain ⟨hB, hK3⟩ := set3 H1.out.res (.int .i64 0) (.int .i64 0) (.int .i64 0)
    obtain ⟨Wb, hWb⟩ : ∃ Wb, Wb = (((w1.setCell ⟨C + 1, 0, none⟩ (.int .i64 0)).setCell ⟨C + 1, 1, none⟩ (.int .i64 0)).setCell ⟨C + 1, 2, none⟩ (.int .i64 0)) := ⟨_, rfl⟩
    rw [← hWb] at hB hK3 ⊢
    (try simp only [Exit.inBlock, Exit.then])
    refine bodyPost_ret (results_cell_two rfl _ _ (C + 1) 36 _ (0, 0) _ rfl hB Try.underlying36 rfl (by kernel_rfl)) rfl ?_
    have hcw := H1.out.cw
    exact ⟨by rw [HA.out]; rfl, H1.out.one.keeps.trans hK3 fun k hk e => by omega⟩
  | true =>
    obtain ⟨q0, q1, q2, q3, q4, q5, q6⟩ := H1.out.one.cells
    have HC : Hid (Calls Try.prog 20 #[x.v, .int .i64 t] w1 fun e w' => e = .returned (.bool (isW x.frames t)) ∧ Keeps (fun _ => False) w1 w') := isWord_any x t HT.out w1 N H1.out.one.cin H1.out.one.nn
    go_wp2_with fail
    refine HC.out.mono ?_
    rintro e w2 ⟨rfl, hK⟩
    have H2 : Hid (OwI w x C N w2) := H1.out.kept hK
    clear hK HC H1 q0 q1 q2 q3 q4 q5 q6
    obtain ⟨b, hb⟩ : ∃ b, isW x.frames t = b := ⟨_, rfl⟩
    rw [hb]
    have HW : Hid (isW x.frames t = b) := hb
    clear hb
    cases b with
    | false =>
      have HA : Hid (ownA x t = (⟨0, 0, 0⟩, 151)) := by show _ = _; unfold ownA; rw [HB.out, HW.out]; rfl
      have a0 := H2.out.res.cell (i := 0) rfl
      have a1 := H2.out.res.cell (i := 1) rfl
      have a2 := H2.out.res.cell (i := 2) rfl
      have z0 := H2.out.res.frozen 0
      have z1 := H2.out.res.frozen 1
      have z2 := H2.out.res.frozen 2
      go_wp2
      obtain ⟨hB, hK3⟩ := set3 H2.out.res (.int .i64 0) (.int .i64 0) (.int .i64 0)
      obtain ⟨Wb, hWb⟩ : ∃ Wb, Wb = (((w2.setCell ⟨C + 1, 0, none⟩ (.int .i64 0)).setCell ⟨C + 1, 1, none⟩ (.int .i64 0)).setCell ⟨C + 1, 2, none⟩ (.int .i64 0)) := ⟨_, rfl⟩
      rw [← hWb] at hB hK3 ⊢
      (try simp only [Exit.inBlock, Exit.then])
      refine bodyPost_ret (results_cell_two rfl _ _ (C + 1) 36 _ (0, 0) _ rfl hB Try.underlying36 rfl (by kernel_rfl)) rfl ?_
      have hcw := H2.out.cw
      exact ⟨by rw [HA.out]; rfl, H2.out.one.keeps.trans hK3 fun k hk e => by omega⟩
    | true =>
      have HA : Hid (ownA x t = (ownO x t, 0) ∧ 0 ≤ t) := by
        refine ⟨by unfold ownA; rw [HB.out, HW.out]; rfl, ?_⟩
        have := HW.out; unfold isW at this; simp at this; omega
      obtain ⟨q0, q1, q2, q3, q4, q5, q6⟩ := H2.out.one.cells
      have HC : Hid (Calls Try.prog 21 #[x.v, .int .i64 t] w2 fun e w' => e = .returned (lastGo t (16 * x.kernel) ⟨0, 0, 0⟩ (layH x (16 * x.kernel))).v ∧ Keeps (fun _ => False) w2 w') := kernelOwner_any x t w2 N H2.out.one.cin H2.out.one.nn HB.out
      go_wp2_with fail
      refine HC.out.mono ?_
      rintro e w3 ⟨rfl, hK⟩
      have H3 : Hid (OwI w x C N w3) := H2.out.kept hK
      clear hK HC H2 q0 q1 q2 q3 q4 q5 q6
      obtain ⟨O, hO⟩ : ∃ O, lastGo t (16 * x.kernel) ⟨0, 0, 0⟩ (layH x (16 * x.kernel)) = O := ⟨_, rfl⟩
      rw [hO]
      have HQ : Hid (ownO x t = if O.kind = 0 then regO (t / 16) x.ps else O) := by show _ = _; unfold ownO; rw [hO]
      clear hO
      obtain ⟨W4, hW4⟩ : ∃ W4, W4 = w3.alloc (.cells #[.int .i64 O.kind, .int .i64 O.idx, .int .i64 O.port] 36) := ⟨_, rfl⟩
      obtain ⟨M, hM⟩ : ∃ M, M = w3.heap.size := ⟨_, rfl⟩
      have H4 : Hid (OwI w x C N W4 ∧ Blk W4 M O.vs 36) := by
        rw [hW4, hM]; exact ⟨H3.out.kept ((Keeps.refl _ _).alloc _), Blk.new _ _ _⟩
      go_upto_region 6 with fail
      rw [← hW4, ← hM]
      clear hW4 hM H3
      have f0 := H4.out.2.cell (i := 0) rfl
      have f1 := H4.out.2.cell (i := 1) rfl
      have f2 := H4.out.2.cell (i := 2) rfl
      by_cases hz : O.kind = 0
      · have e1 : (O.kind == 0) = true := by simp [hz]
        have HR : Hid (ownO x t = regO (t / 16) x.ps) := by show _ = _; rw [HQ.out, if_pos hz]
        have HC : Hid (Calls Try.prog 22 #[x.v, .int .i64 (t / 16)] W4 fun e w' => e = .returned (regO (t / 16) x.ps).v ∧ Keeps (fun _ => False) W4 w') := regionOwner_any x (t / 16) W4 N H4.out.1.one.cin H4.out.1.one.nn HB.out
        obtain ⟨q0, q1, q2, q3, q4, q5, q6⟩ := H4.out.1.one.cells
        have hd : t.tdiv 16 = t / 16 := Int.tdiv_eq_ediv_of_nonneg HA.out.2
        have hq : IntKind.i64.wrap (t / 16) = t / 16 := by have h1 := HT.out; have h2 := HA.out.2; rw [IntKind.wrap_i64]; unfold I64 at h1; omega
        clear hz
        go_wp2_with fail
        clear hd hq
        refine HC.out.mono ?_
        rintro e w5 ⟨rfl, hK⟩
        have H5 : Hid (OwI w x C N w5) := H4.out.1.kept hK
        clear hK HC q0 q1 q2 q3 q4 q5 q6 f0 f1 f2
        obtain ⟨R, hR⟩ : ∃ R, regO (t / 16) x.ps = R := ⟨_, rfl⟩
        have HR2 : Hid (ownO x t = R) := by show _ = _; rw [HR.out, hR]
        rw [hR]
        clear hR
        have a0 := H5.out.res.cell (i := 0) rfl
        have a1 := H5.out.res.cell (i := 1) rfl
        have a2 := H5.out.res.cell (i := 2) rfl
        have z0 := H5.out.res.frozen 0
        have z1 := H5.out.res.frozen 1
        have z2 := H5.out.res.frozen 2
        go_wp2
        obtain ⟨hB, hK3⟩ := set3 H5.out.res (.int .i64 R.kind) (.int .i64 R.idx) (.int .i64 R.port)
        obtain ⟨Wb, hWb⟩ : ∃ Wb, Wb = (((w5.setCell ⟨C + 1, 0, none⟩ (.int .i64 R.kind)).setCell ⟨C + 1, 1, none⟩ (.int .i64 R.idx)).setCell ⟨C + 1, 2, none⟩ (.int .i64 R.port)) := ⟨_, rfl⟩
        rw [← hWb] at hB hK3 ⊢
        (try simp only [Exit.inBlock, Exit.then])
        refine bodyPost_ret (results_cell_two rfl _ _ (C + 1) 36 _ (0, 0) _ rfl hB Try.underlying36 rfl (by kernel_rfl)) rfl ?_
        have hcw := H5.out.cw
        exact ⟨by rw [HA.out.1, HR2.out]; rfl, H5.out.one.keeps.trans hK3 fun k hk e => by omega⟩
      · have e1 : (O.kind == 0) = false := by simp [hz]
        have HR : Hid (ownO x t = O) := by show _ = _; rw [HQ.out, if_neg hz]
        have a0 := H4.out.1.res.cell (i := 0) rfl
        have a1 := H4.out.1.res.cell (i := 1) rfl
        have a2 := H4.out.1.res.cell (i := 2) rfl
        have z0 := H4.out.1.res.frozen 0
        have z1 := H4.out.1.res.frozen 1
        have z2 := H4.out.1.res.frozen 2
        clear hz
        go_wp2
        obtain ⟨hB, hK3⟩ := set3 H4.out.1.res (.int .i64 O.kind) (.int .i64 O.idx) (.int .i64 O.port)
        obtain ⟨Wb, hWb⟩ : ∃ Wb, Wb = (((W4.setCell ⟨C + 1, 0, none⟩ (.int .i64 O.kind)).setCell ⟨C + 1, 1, none⟩ (.int .i64 O.idx)).setCell ⟨C + 1, 2, none⟩ (.int .i64 O.port)) := ⟨_, rfl⟩
        rw [← hWb] at hB hK3 ⊢
        (try simp only [Exit.inBlock, Exit.then])
        refine bodyPost_ret (results_cell_two rfl _ _ (C + 1) 36 _ (0, 0) _ rfl hB Try.underlying36 rfl (by kernel_rfl)) rfl ?_
        have hcw := H4.out.1.cw
        exact ⟨by rw [HA.out.1, HR.out]; rfl, H4.out.1.one.keeps.trans hK3 fun k hk e => by omega⟩
end Go.Proofs.Ythaoopaafdgioab
