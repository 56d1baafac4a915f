import Derived.Test.YthepajjbflmchaaRd
namespace Go.Proofs.Ythepajjbflmchaa
open Go.RowKit
set_option linter.unusedVariables false

set_option maxHeartbeats 400000 in
theorem one_1 (b g rb rg : Nat) (xs : List UInt32) (o : OpB) (w : World) (h : Duo w b g rb rg xs) (ho : o.Fine) (hk : o.k = 1) :
    Calls Try.prog 10 #[.pointer (some ⟨b, 0, none⟩), .pointer (some ⟨rb, 0, none⟩), o.v] w (OneP w b g rb rg) := by
  obtain ⟨W0, hW0, hK0, hB0⟩ := box_new w o
  have hOg : ¬ w.heap.size = g := by have := h.mm.row.lt; omega
  have HD : Hid (Duo W0 b g rb rg xs ∧ Keeps (fun _ => False) w W0 ∧ Blk W0 w.heap.size o.vs 36 ∧ o.Fine) := ⟨h.grown hK0, hK0, hB0, ho⟩
  have HL := come_any b g xs o.p o.c W0 HD.out.1.mm ho.2
  have HR : ∀ W, Keeps (· = g) W0 W → Calls Try.prog 22 #[.pointer (some ⟨rb, 0, none⟩), .int .i64 o.p, .int .i64 o.c] W fun e w' => e = .returned (.tuple #[.bool (coB xs o.p o.c), .int .i64 (coE xs o.p o.c)]) ∧ Rm w' rb rg (coX xs o.p o.c) ∧ Keeps (· = rg) W w' :=
    fun W k => rcome_any rb rg xs o.p o.c W (HD.out.1.rm1 k) ho.1 ho.2
  obtain ⟨B, hB⟩ : ∃ x : Bool, x = coB xs o.p o.c := ⟨_, rfl⟩
  obtain ⟨E, hE⟩ : ∃ x : Int, x = coE xs o.p o.c := ⟨_, rfl⟩
  obtain ⟨zs, hz⟩ : ∃ x, x = coX xs o.p o.c := ⟨_, rfl⟩
  rw [← hB, ← hE, ← hz] at HL HR
  obtain ⟨p, hp⟩ : ∃ p, p = o.p := ⟨_, rfl⟩
  obtain ⟨c, hc⟩ : ∃ p, p = o.c := ⟨_, rfl⟩
  obtain ⟨X, hX⟩ : ∃ p : Nat, p = o.x.toNat := ⟨_, rfl⟩
  have c1 : W0.cell? ⟨w.heap.size, 1, none⟩ = some (.int .i64 o.p) := hB0.cell rfl
  have c2 : W0.cell? ⟨w.heap.size, 2, none⟩ = some (.int .i64 o.c) := hB0.cell rfl
  have hlt := hB0.lt
  unfold OpB.v
  rw [hk, ← hp, ← hc, ← hX] at hW0
  rw [hk, ← hp, ← hc, ← hX]
  rw [← hp, ← hc] at HL HR
  rw [← hp] at c1
  rw [← hc] at c2
  have HL : Hid (Calls _ _ _ _ _) := HL
  have HR : Hid (∀ W, Keeps (· = g) W0 W → Calls Try.prog 22 #[.pointer (some ⟨rb, 0, none⟩), .int .i64 p, .int .i64 c] W fun e w' => e = .returned (.tuple #[.bool B, .int .i64 E]) ∧ Rm w' rb rg zs ∧ Keeps (· = rg) W w') := HR
  have HW : Hid (W0 = _) := hW0
  obtain ⟨O, hO⟩ : ∃ O, O = w.heap.size := ⟨_, rfl⟩
  have HO : Hid (O = w.heap.size) := hO
  rw [← hO] at c1 c2 hlt hOg
  clear h hk hK0 hB0 ho hB hE hz hp hc hX hW0 hO
  go_enter Try.func10, Try.ntmps10
  go_wp2_with fail
  rw [← HW.out, ← HO.out]
  refine HL.out.mono ?_
  rintro e w1 ⟨rfl, hM, hk⟩
  have d1 : w1.cell? ⟨O, 1, none⟩ = some (.int .i64 p) := by rw [World.cell?_of_block (w := W0) (hk.block O hlt hOg)]; exact c1
  have d2 : w1.cell? ⟨O, 2, none⟩ = some (.int .i64 c) := by rw [World.cell?_of_block (w := W0) (hk.block O hlt hOg)]; exact c2
  have HK1 : Hid (Mm w1 b g zs ∧ Keeps (· = g) W0 w1) := ⟨hM, hk⟩
  have HR2 : Hid (Calls _ _ _ _ _) := HR.out w1 hk
  clear hk HL HR c1 c2 hlt hM
  go_wp2_with fail
  refine HR2.out.mono ?_
  rintro e w2 ⟨rfl, hM2, hk2⟩
  have HK2 : Hid (Rm w2 rb rg zs ∧ Keeps (· = rg) w1 w2) := ⟨hM2, hk2⟩
  clear HR2 hM2 hk2 d1 d2
  go_wp2
  go_ret
  exact ⟨rfl, zs, HD.out.1.both HK1.out.1 HK1.out.2 HK2.out.1 HK2.out.2, (HD.out.2.1.mono (fun _ _ e => e.elim)).trans (g2_trans HK1.out.2 HK2.out.2) (fun _ _ e => e)⟩

set_option maxRecDepth 20000 in
set_option maxHeartbeats 1000000 in
theorem one_2 (b g rb rg : Nat) (xs : List UInt32) (o : OpB) (w : World) (h : Duo w b g rb rg xs) (ho : o.Fine) (hk : o.k = 2) :
    Calls Try.prog 10 #[.pointer (some ⟨b, 0, none⟩), .pointer (some ⟨rb, 0, none⟩), o.v] w (OneP w b g rb rg) := by
  obtain ⟨W0, hW0, hK0, hB0⟩ := box_new w o
  have hOg : ¬ w.heap.size = g := by have := h.mm.row.lt; omega
  have hOr : ¬ w.heap.size = rg := by have := h.rm.ltg; omega
  have HD : Hid (Duo W0 b g rb rg xs ∧ Keeps (fun _ => False) w W0 ∧ Blk W0 w.heap.size o.vs 36 ∧ o.Fine) := ⟨h.grown hK0, hK0, hB0, ho⟩
  have HL : ∀ W, Keeps (fun _ => False) W0 W → Calls Try.prog 15 #[.pointer (some ⟨b, 0, none⟩), .int .i64 o.p, .int .i64 o.c] W fun e w' => e = .returned (.int .i64 (opE xs o.p o.c)) ∧ Mm w' b g (opX xs o.p o.c) ∧ Keeps (· = g) W0 w' :=
    fun W k => (open_any b g xs o.p o.c W (HD.out.1.grown k).mm ho.2).mono fun e w' ⟨h1, h2, h3⟩ => ⟨h1, h2, (k.mono (fun _ _ e => e.elim)).trans h3 (fun _ _ e => e)⟩
  have HR : ∀ W, Keeps (· = g) W0 W → Calls Try.prog 23 #[.pointer (some ⟨rb, 0, none⟩), .int .i64 o.p, .int .i64 o.c] W fun e w' => e = .returned (.int .i64 (opE xs o.p o.c)) ∧ Rm w' rb rg (opX xs o.p o.c) ∧ Keeps (· = rg) W w' :=
    fun W k => ropen_any rb rg xs o.p o.c W (HD.out.1.rm1 k) ho.1 ho.2
  obtain ⟨E, hE⟩ : ∃ x : Int, x = opE xs o.p o.c := ⟨_, rfl⟩
  obtain ⟨zs, hz⟩ : ∃ x, x = opX xs o.p o.c := ⟨_, rfl⟩
  rw [← hE, ← hz] at HL HR
  obtain ⟨p, hp⟩ : ∃ p, p = o.p := ⟨_, rfl⟩
  obtain ⟨c, hc⟩ : ∃ p, p = o.c := ⟨_, rfl⟩
  obtain ⟨X, hX⟩ : ∃ p : Nat, p = o.x.toNat := ⟨_, rfl⟩
  have c1 : W0.cell? ⟨w.heap.size, 1, none⟩ = some (.int .i64 o.p) := hB0.cell rfl
  have c2 : W0.cell? ⟨w.heap.size, 2, none⟩ = some (.int .i64 o.c) := hB0.cell rfl
  have hlt := hB0.lt
  unfold OpB.v
  rw [hk, ← hp, ← hc, ← hX] at hW0
  rw [hk, ← hp, ← hc, ← hX]
  rw [← hp, ← hc] at HL HR
  rw [← hp] at c1
  rw [← hc] at c2
  have HL : Hid (∀ W, Keeps (fun _ => False) W0 W → Calls Try.prog 15 #[.pointer (some ⟨b, 0, none⟩), .int .i64 p, .int .i64 c] W fun e w' => e = .returned (.int .i64 E) ∧ Mm w' b g zs ∧ Keeps (· = g) W0 w') := HL
  have HR : Hid (∀ W, Keeps (· = g) W0 W → Calls Try.prog 23 #[.pointer (some ⟨rb, 0, none⟩), .int .i64 p, .int .i64 c] W fun e w' => e = .returned (.int .i64 E) ∧ Rm w' rb rg zs ∧ Keeps (· = rg) W w') := HR
  have HW : Hid (W0 = _) := hW0
  obtain ⟨O, hO⟩ : ∃ O, O = w.heap.size := ⟨_, rfl⟩
  have HO : Hid (O = w.heap.size) := hO
  rw [← hO] at c1 c2 hlt hOg hOr
  have HC : Hid (∀ W, Keeps (· = g) W0 W → W.cell? ⟨O, 1, none⟩ = some (.int .i64 p) ∧ W.cell? ⟨O, 2, none⟩ = some (.int .i64 c)) := fun W k =>
    ⟨by rw [World.cell?_of_block (w := W0) (k.block O hlt hOg)]; exact c1, by rw [World.cell?_of_block (w := W0) (k.block O hlt hOg)]; exact c2⟩
  have HC2 : Hid (∀ W W', Keeps (· = g) W0 W → Keeps (· = rg) W W' → W'.cell? ⟨O, 1, none⟩ = some (.int .i64 p) ∧ W'.cell? ⟨O, 2, none⟩ = some (.int .i64 c)) := fun W W' k k' => by
    have hl2 : O < W.heap.size := Nat.lt_of_lt_of_le hlt k.size
    exact ⟨by rw [World.cell?_of_block (w := W) (k'.block O hl2 hOr)]; exact (HC.out W k).1, by rw [World.cell?_of_block (w := W) (k'.block O hl2 hOr)]; exact (HC.out W k).2⟩
  have hS : W0.cell? ⟨O, 1, none⟩ = some (.int .i64 p) ∧ W0.cell? ⟨O, 2, none⟩ = some (.int .i64 c) := ⟨c1, c2⟩
  clear h hk hK0 hB0 ho hE hz hp hc hX hW0 hO c1 c2 hlt
  go_enter Try.func10, Try.ntmps10
  go_wp2
  rw [← HW.out, ← HO.out]
  go_region_held3 (fun w' => w'.cell? ⟨O, 1, none⟩ = some (.int .i64 p) ∧ w'.cell? ⟨O, 2, none⟩ = some (.int .i64 c)) (first | exact hS2 | exact hS1 | exact hS | go_keep)
    (first | (go_at_call 15; refine (HL.out _ ((Keeps.refl _ W0).drewN _)).mono ?_; rintro e w1 ⟨rfl, hM1, hK1⟩; have hS1 := HC.out w1 hK1) | (go_at_call 23; refine (HR.out w1 hK1).mono ?_; rintro e w2 ⟨rfl, hM2, hK2⟩; have hS2 := HC2.out w1 w2 hK1 hK2))
  go_wp2
  go_ret
  exact ⟨rfl, zs, HD.out.1.both hM1 hK1 hM2 hK2, (HD.out.2.1.mono (fun _ _ e => e.elim)).trans (g2_trans hK1 hK2) (fun _ _ e => e)⟩

end Go.Proofs.Ythepajjbflmchaa
