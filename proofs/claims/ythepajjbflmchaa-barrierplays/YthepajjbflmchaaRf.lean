import Derived.Test.YthepajjbflmchaaRe
namespace Go.Proofs.Ythepajjbflmchaa
open Go.RowKit
set_option linter.unusedVariables false

set_option maxRecDepth 20000 in
set_option maxHeartbeats 1000000 in
theorem one_3 (b g rb rg : Nat) (xs : List UInt32) (o : OpB) (w : World) (h : Duo w b g rb rg xs) (ho : o.Fine) (hk : o.k = 3) :
    Calls Try.prog 10 #[.pointer (some ⟨b, 0, none⟩), .pointer (some ⟨rb, 0, none⟩), o.v] w (OneP w b g rb rg) := by
  obtain ⟨W0, hW0, hK0, hB0⟩ := box_new w o
  have hOg : ¬ w.heap.size = g := by have := h.mm.row.lt; omega
  have hOr : ¬ w.heap.size = rg := by have := h.rm.ltg; omega
  have HD : Hid (Duo W0 b g rb rg xs ∧ Keeps (fun _ => False) w W0) := ⟨h.grown hK0, hK0⟩
  have HL1 := write_any b g xs o.p o.x W0 HD.out.1.mm ho.2
  have HR1 : ∀ W, Keeps (· = g) W0 W → Calls Try.prog 24 #[.pointer (some ⟨rb, 0, none⟩), .int .i64 o.p, .int .u32 (o.x.toNat : Int)] W fun e w' => e = .returned (.int .i64 (wrE xs o.p)) ∧ Rm w' rb rg (wrX xs o.p o.x) ∧ Keeps (· = rg) W w' :=
    fun W k => rwrite_any rb rg xs o.p o.x W (HD.out.1.rm1 k) ho.1 ho.2
  obtain ⟨P1, hP1⟩ : ∃ P1, P1 = IntKind.i64.wrap (o.p + 1) := ⟨_, rfl⟩
  have hP2 : -9223372036854775808 ≤ P1 ∧ P1 ≤ 9223372036854775807 := by rw [hP1, IntKind.wrap_i64]; omega
  obtain ⟨ys, hys⟩ : ∃ ys, ys = wrX xs o.p o.x := ⟨_, rfl⟩
  have HL2 : ∀ W, Mm W b g ys → Calls Try.prog 18 #[.pointer (some ⟨b, 0, none⟩), .int .i64 P1, .int .u32 ((o.x + 1).toNat : Int)] W fun e w' => e = .returned (.int .i64 (wrE ys P1)) ∧ Mm w' b g (wrX ys P1 (o.x + 1)) ∧ Keeps (· = g) W w' :=
    fun W h => write_any b g ys P1 (o.x + 1) W h hP2.2
  have HR2 : ∀ W, Rm W rb rg ys → Calls Try.prog 24 #[.pointer (some ⟨rb, 0, none⟩), .int .i64 P1, .int .u32 ((o.x + 1).toNat : Int)] W fun e w' => e = .returned (.int .i64 (wrE ys P1)) ∧ Rm w' rb rg (wrX ys P1 (o.x + 1)) ∧ Keeps (· = rg) W w' :=
    fun W h => rwrite_any rb rg ys P1 (o.x + 1) W h hP2.1 hP2.2
  have e1 : ((o.x + 1).toNat : Int) = ((o.x.toNat : Int) + 1) % 4294967296 := by
    rw [UInt32.toNat_add]
    have : (1 : UInt32).toNat = 1 := rfl
    omega
  obtain ⟨X1, hX1⟩ : ∃ X1 : Nat, X1 = (o.x + 1).toNat := ⟨_, rfl⟩
  obtain ⟨E1, hE1⟩ : ∃ x : Int, x = wrE xs o.p := ⟨_, rfl⟩
  obtain ⟨E2, hE2⟩ : ∃ x : Int, x = wrE ys P1 := ⟨_, rfl⟩
  obtain ⟨zs, hzs⟩ : ∃ x, x = wrX ys P1 (o.x + 1) := ⟨_, rfl⟩
  rw [← hX1] at HL2 HR2 e1
  rw [← hE1, ← hys] at HL1 HR1
  rw [← hE2, ← hzs] at HL2 HR2
  obtain ⟨p, hp⟩ : ∃ p, p = o.p := ⟨_, rfl⟩
  obtain ⟨c, hc⟩ : ∃ p, p = o.c := ⟨_, rfl⟩
  obtain ⟨X, hX⟩ : ∃ p : Nat, p = o.x.toNat := ⟨_, rfl⟩
  have c1 : W0.cell? ⟨w.heap.size, 1, none⟩ = some (.int .i64 o.p) := hB0.cell rfl
  have c2 : W0.cell? ⟨w.heap.size, 3, none⟩ = some (.int .u32 (o.x.toNat : Int)) := hB0.cell rfl
  have hlt := hB0.lt
  unfold OpB.v
  rw [hk, ← hp, ← hc, ← hX] at hW0
  rw [hk, ← hp, ← hc, ← hX]
  rw [← hp, ← hX] at HL1 HR1
  rw [← hp] at c1 hP1
  rw [← hX] at c2 e1
  have HL1 : Hid (Calls _ _ _ _ _) := HL1
  have HR1 : Hid (∀ W, Keeps (· = g) W0 W → Calls Try.prog 24 #[.pointer (some ⟨rb, 0, none⟩), .int .i64 p, .int .u32 (X : Int)] W fun e w' => e = .returned (.int .i64 E1) ∧ Rm w' rb rg ys ∧ Keeps (· = rg) W w') := HR1
  have HL2 : Hid (∀ W, Mm W b g ys → Calls Try.prog 18 #[.pointer (some ⟨b, 0, none⟩), .int .i64 P1, .int .u32 (X1 : Int)] W fun e w' => e = .returned (.int .i64 E2) ∧ Mm w' b g zs ∧ Keeps (· = g) W w') := HL2
  have HR2 : Hid (∀ W, Rm W rb rg ys → Calls Try.prog 24 #[.pointer (some ⟨rb, 0, none⟩), .int .i64 P1, .int .u32 (X1 : Int)] W fun e w' => e = .returned (.int .i64 E2) ∧ Rm w' rb rg zs ∧ Keeps (· = rg) W w') := HR2
  have HW : Hid (W0 = _) := hW0
  obtain ⟨O, hO⟩ : ∃ O, O = w.heap.size := ⟨_, rfl⟩
  have HO : Hid (O = w.heap.size ∧ ¬ O = g ∧ ¬ O = rg) := ⟨hO, by rw [hO]; exact hOg, by rw [hO]; exact hOr⟩
  rw [← hO] at c1 c2 hlt
  have q1 : IntKind.i64.wrap (p + 1) = P1 := hP1.symm
  have q2 : IntKind.u32.wrap ((X : Int) + 1) = (X1 : Int) := by rw [IntKind.wrap_u32, e1]
  have q3 : ((X : Int) + 1) % 4294967296 = (X1 : Int) := e1.symm
  have HCC : Hid (∀ W W', (W.cell? ⟨O, 1, none⟩ = some (.int .i64 p) ∧ W.cell? ⟨O, 3, none⟩ = some (.int .u32 (X : Int))) → (Keeps (· = g) W W' ∨ Keeps (· = rg) W W') → W'.cell? ⟨O, 1, none⟩ = some (.int .i64 p) ∧ W'.cell? ⟨O, 3, none⟩ = some (.int .u32 (X : Int))) := by
    intro W W' hc k
    have hl : O < W.heap.size := World.block_lt_of_cell? W ⟨O, 1, none⟩ hc.1
    have e : W'.heap[O]? = W.heap[O]? := by
      rcases k with k | k
      · exact k.block O hl HO.out.2.1
      · exact k.block O hl HO.out.2.2
    exact ⟨by rw [World.cell?_of_block (w := W) e]; exact hc.1, by rw [World.cell?_of_block (w := W) e]; exact hc.2⟩
  clear h hk hK0 hB0 ho hE1 hE2 hys hzs hX1 hp hc hX hW0 hO hP1 hP2 e1 hOg hOr hlt
  go_enter Try.func10, Try.ntmps10
  go_wp2_with fail
  rw [← HW.out, ← HO.out.1]
  refine HL1.out.mono ?_
  rintro e w1 ⟨rfl, hM, hk⟩
  obtain ⟨d1, d2⟩ := HCC.out W0 w1 ⟨c1, c2⟩ (.inl hk)
  have H1 : Hid (Mm w1 b g ys ∧ Keeps (· = g) W0 w1) := ⟨hM, hk⟩
  have HRA : Hid (Calls _ _ _ _ _) := HR1.out w1 hk
  clear hM hk HL1 HR1 c1 c2
  go_wp2_with fail
  refine HRA.out.mono ?_
  rintro e w2 ⟨rfl, hM2, hk2⟩
  have hS := HCC.out w1 w2 ⟨d1, d2⟩ (.inr hk2)
  have HD2 : Hid (Duo w2 b g rb rg ys ∧ Keeps (G2 g rg) w w2) := ⟨HD.out.1.both H1.out.1 H1.out.2 hM2 hk2, (HD.out.2.mono (fun _ _ e => e.elim)).trans (g2_trans H1.out.2 hk2) (fun _ _ e => e)⟩
  have HL3 : Hid (∀ W, Keeps (fun _ => False) w2 W → Calls Try.prog 18 #[.pointer (some ⟨b, 0, none⟩), .int .i64 P1, .int .u32 (X1 : Int)] W fun e w' => e = .returned (.int .i64 E2) ∧ Mm w' b g zs ∧ Keeps (· = g) w2 w') := fun W k => (HL2.out W (HD2.out.1.grown k).mm).mono fun e w' ⟨h1, h2, h3⟩ => ⟨h1, h2, (k.mono (fun _ _ e => e.elim)).trans h3 (fun _ _ e => e)⟩
  clear hM2 hk2 HRA H1 d1 d2 HD HW HL2
  go_wp2
  go_region_held3 (fun w' => w'.cell? ⟨O, 1, none⟩ = some (.int .i64 p) ∧ w'.cell? ⟨O, 3, none⟩ = some (.int .u32 (X : Int))) (first | exact hS2 | exact hS1 | exact hS | go_keep)
    (first | (go_at_call 18; refine (HL3.out _ ((Keeps.refl _ w2).drewN _)).mono ?_; rintro e w3 ⟨rfl, hM3, hK4⟩; have hS1 := HCC.out w2 w3 hS (.inl hK4)) | (go_at_call 24; refine (HR2.out w3 (HD2.out.1.rm1 hK4)).mono ?_; rintro e w4 ⟨rfl, hM5, hK5⟩; have hS2 := HCC.out w3 w4 hS1 (.inr hK5)))
  go_wp2
  go_ret
  exact ⟨rfl, zs, HD2.out.1.both hM3 hK4 hM5 hK5, HD2.out.2.trans (g2_trans hK4 hK5) (fun _ _ e => e)⟩

set_option maxHeartbeats 1000000 in
theorem one_n (b g rb rg : Nat) (xs : List UInt32) (o : OpB) (w : World) (h : Duo w b g rb rg xs) (ho : o.Fine) (hk0 : ¬ o.k = 0) (hk1 : ¬ o.k = 1) (hk2 : ¬ o.k = 2) (hk3 : ¬ o.k = 3) :
    Calls Try.prog 10 #[.pointer (some ⟨b, 0, none⟩), .pointer (some ⟨rb, 0, none⟩), o.v] w (OneP w b g rb rg) := by
  obtain ⟨W0, hW0, hK0, hB0⟩ := box_new w o
  have HD : Hid (Duo W0 b g rb rg xs ∧ Keeps (fun _ => False) w W0) := ⟨h.grown hK0, hK0⟩
  obtain ⟨p, hp⟩ : ∃ p, p = o.p := ⟨_, rfl⟩
  obtain ⟨c, hc⟩ : ∃ p, p = o.c := ⟨_, rfl⟩
  obtain ⟨X, hX⟩ : ∃ p : Nat, p = o.x.toNat := ⟨_, rfl⟩
  obtain ⟨K, hK⟩ : ∃ p, p = o.k := ⟨_, rfl⟩
  have c1 : W0.cell? ⟨w.heap.size, 1, none⟩ = some (.int .i64 o.p) := hB0.cell rfl
  have c2 : W0.cell? ⟨w.heap.size, 2, none⟩ = some (.int .i64 o.c) := hB0.cell rfl
  have hlt := hB0.lt
  have HL : Hid (Calls _ _ _ _ _) := look_nil p W0
  unfold OpB.v
  rw [← hK, ← hp, ← hc, ← hX] at hW0
  rw [← hK, ← hp, ← hc, ← hX]
  rw [← hp] at c1
  rw [← hc] at c2
  rw [← hK] at hk0 hk1 hk2 hk3
  have k0 : (K == 0) = false := beq_eq_false_iff_ne.2 hk0
  have k1 : (K == 1) = false := beq_eq_false_iff_ne.2 hk1
  have k2 : (K == 2) = false := beq_eq_false_iff_ne.2 hk2
  have k3 : (K == 3) = false := beq_eq_false_iff_ne.2 hk3
  have HW : Hid (W0 = _) := hW0
  obtain ⟨O, hO⟩ : ∃ O, O = w.heap.size := ⟨_, rfl⟩
  have HO : Hid (O = w.heap.size) := hO
  rw [← hO] at c1 c2 hlt
  have HC : Hid (∀ W, Keeps (fun _ => False) W0 W → W.cell? ⟨O, 1, none⟩ = some (.int .i64 p) ∧ W.cell? ⟨O, 2, none⟩ = some (.int .i64 c) ∧ O < W.heap.size) := fun W k =>
    ⟨by rw [World.cell?_of_block (w := W0) (k.block O hlt (fun e => e))]; exact c1, by rw [World.cell?_of_block (w := W0) (k.block O hlt (fun e => e))]; exact c2, Nat.lt_of_lt_of_le hlt k.size⟩
  clear h hK0 hB0 ho hp hc hX hW0 hO hK hk0 hk1 hk2 hk3 hlt
  go_enter Try.func10, Try.ntmps10
  go_wp2_with fail
  rw [← HW.out, ← HO.out]
  refine HL.out.mono ?_
  rintro e w1 ⟨rfl, hk⟩
  obtain ⟨d1, d2, d3⟩ := HC.out w1 hk
  have H1 : Hid (Keeps (fun _ => False) W0 w1) := hk
  have HL2 : Hid (Calls _ _ _ _ _) := come_nil p c (w1.alloc (.cells #[.int .i64 0, .int .i64 0] 42))
  have hA := Blk.new w1 #[.int .i64 0, .int .i64 0] 42
  clear hk HL c1 c2
  go_wp2_with fail
  refine HL2.out.mono ?_
  rintro e w2 ⟨rfl, hk⟩
  obtain ⟨f1, f2, f3⟩ := HC.out w2 ((H1.out.alloc _).trans hk (fun _ _ e => e))
  have a0 : w2.cell? ⟨w1.heap.size, 0, none⟩ = some (.int .i64 0) := (hA.kept hk (fun e => e)).cell rfl
  have a1 : w2.cell? ⟨w1.heap.size, 1, none⟩ = some (.int .i64 0) := (hA.kept hk (fun e => e)).cell rfl
  have H2 : Hid (Keeps (fun _ => False) W0 w2) := (H1.out.alloc _).trans hk (fun _ _ e => e)
  have HL3 : Hid (Calls _ _ _ _ _) := open_nil p c w2
  clear hk hA HL2 d1 d2 d3
  go_wp2_with fail
  refine HL3.out.mono ?_
  rintro e w3 ⟨rfl, hk⟩
  have H3 : Hid (Keeps (fun _ => False) w2 w3) := hk
  clear hk HL3 f1 f2 f3 a0 a1
  go_wp2
  go_ret
  exact ⟨rfl, xs, HD.out.1.grown (H2.out.trans H3.out (fun _ _ e => e)), ((HD.out.2.trans H2.out (fun _ _ e => e)).trans H3.out (fun _ _ e => e)).mono (fun _ _ e => e.elim)⟩

theorem one_any (b g rb rg : Nat) (xs : List UInt32) (o : OpB) (w : World) (h : Duo w b g rb rg xs) (ho : o.Fine) :
    Calls Try.prog 10 #[.pointer (some ⟨b, 0, none⟩), .pointer (some ⟨rb, 0, none⟩), o.v] w (OneP w b g rb rg) := by
  by_cases h0 : o.k = 0
  · exact one_0 b g rb rg xs o w h ho h0
  · by_cases h1 : o.k = 1
    · exact one_1 b g rb rg xs o w h ho h1
    · by_cases h2 : o.k = 2
      · exact one_2 b g rb rg xs o w h ho h2
      · by_cases h3 : o.k = 3
        · exact one_3 b g rb rg xs o w h ho h3
        · exact one_n b g rb rg xs o w h ho h0 h1 h2 h3

end Go.Proofs.Ythepajjbflmchaa
