import Derived.Test.YthepajjbflmchaaRc
namespace Go.Proofs.Ythepajjbflmchaa
open Go.RowKit
set_option linter.unusedVariables false

def wrE (xs : List UInt32) (p : Int) : Int := if 0 ≤ p ∧ p < xs.length then 0 else 51
def wrX (xs : List UInt32) (p : Int) (x : UInt32) : List UInt32 := if 0 ≤ p ∧ p < xs.length then lay xs p.toNat [x] else xs

theorem write_any (b g : Nat) (xs : List UInt32) (p : Int) (x : UInt32) (w : World) (h : Mm w b g xs) (hp : p ≤ 9223372036854775807) :
    Calls Try.prog 18 #[.pointer (some ⟨b, 0, none⟩), .int .i64 p, .int .u32 (x.toNat : Int)] w fun e w' => e = .returned (.int .i64 (wrE xs p)) ∧ Mm w' b g (wrX xs p x) ∧ Keeps (· = g) w w' := by
  unfold wrE wrX
  by_cases hf : 0 ≤ p ∧ p < xs.length
  · rw [if_pos hf, if_pos hf]
    have h1 := write_in b g xs p.toNat x w h (by omega)
    have e : ((p.toNat : Nat) : Int) = p := by omega
    rw [e] at h1
    exact h1
  · rw [if_neg hf, if_neg hf]
    refine (write_out b g xs p x.toNat w h hf hp).mono ?_
    rintro e w' ⟨rfl, rfl⟩
    exact ⟨rfl, h, Keeps.refl _ _⟩

theorem rwrite_any (b g : Nat) (xs : List UInt32) (p : Int) (x : UInt32) (w : World) (h : Rm w b g xs) (hp1 : -9223372036854775808 ≤ p) (hp2 : p ≤ 9223372036854775807) :
    Calls Try.prog 24 #[.pointer (some ⟨b, 0, none⟩), .int .i64 p, .int .u32 (x.toNat : Int)] w fun e w' => e = .returned (.int .i64 (wrE xs p)) ∧ Rm w' b g (wrX xs p x) ∧ Keeps (· = g) w w' := by
  unfold wrE wrX
  by_cases hf : 0 ≤ p ∧ p < xs.length
  · rw [if_pos hf, if_pos hf]
    have h1 := rwrite_in b g xs p.toNat x w h (by omega)
    have e : ((p.toNat : Nat) : Int) = p := by omega
    rw [e] at h1
    exact h1
  · rw [if_neg hf, if_neg hf]
    refine (rwrite_out b g xs p x.toNat w h hp1 hp2 hf).mono ?_
    rintro e w' ⟨rfl, rfl⟩
    exact ⟨rfl, h, Keeps.refl _ _⟩

/-- Both memories, alike, and the call in its block. -/
structure Duo (w : World) (b g rb rg : Nat) (xs : List UInt32) : Prop where
  mm : Mm w b g xs
  rm : Rm w rb rg xs
  s1 : g ≠ rb
  s2 : g ≠ rg
  s3 : rg ≠ b

theorem Duo.grown {w w' : World} {b g rb rg : Nat} {xs : List UInt32} (h : Duo w b g rb rg xs) (k : Keeps (fun _ => False) w w') : Duo w' b g rb rg xs :=
  ⟨h.mm.kept k (fun e => e) (fun e => e), h.rm.grown k, h.s1, h.s2, h.s3⟩
theorem Duo.both {w w1 w2 : World} {b g rb rg : Nat} {xs ys : List UInt32} (h : Duo w b g rb rg xs) (h1 : Mm w1 b g ys) (k1 : Keeps (· = g) w w1) (h2 : Rm w2 rb rg ys) (k2 : Keeps (· = rg) w1 w2) : Duo w2 b g rb rg ys :=
  ⟨h1.kept k2 (fun e => h.s3 e.symm) h.s2, h2, h.s1, h.s2, h.s3⟩
theorem Duo.rm1 {w w1 : World} {b g rb rg : Nat} {xs : List UInt32} (h : Duo w b g rb rg xs) (k1 : Keeps (· = g) w w1) : Rm w1 rb rg xs := h.rm.kept k1 (fun e => h.s1 e.symm) (fun e => h.s2 e.symm)

def G2 (g rg : Nat) : Nat → Prop := fun k => k = g ∨ k = rg
theorem g2_trans {w w1 w2 : World} {g rg : Nat} (k1 : Keeps (· = g) w w1) (k2 : Keeps (· = rg) w1 w2) : Keeps (G2 g rg) w w2 :=
  (k1.mono (fun _ _ e => .inl e)).trans k2 (fun _ _ e => .inr e)

/-- What a call on both leaves. -/
def OneP (w : World) (b g rb rg : Nat) (e : Ending) (w' : World) : Prop := e = .returned (.bool true) ∧ ∃ ys, Duo w' b g rb rg ys ∧ Keeps (G2 g rg) w w'

theorem box_new (w : World) (o : OpB) : ∃ W0, W0 = w.alloc (.cells #[.int .i64 o.k, .int .i64 o.p, .int .i64 o.c, .int .u32 (o.x.toNat : Int)] 36) ∧ Keeps (fun _ => False) w W0 ∧ Blk W0 w.heap.size o.vs 36 :=
  ⟨_, rfl, (Keeps.refl _ w).alloc _, Blk.new w _ 36⟩

set_option maxHeartbeats 400000 in
theorem one_0 (b g rb rg : Nat) (xs : List UInt32) (o : OpB) (w : World) (h : Duo w b g rb rg xs) (ho : o.Fine) (hk : o.k = 0) :
    Calls Try.prog 10 #[.pointer (some ⟨b, 0, none⟩), .pointer (some ⟨rb, 0, none⟩), o.v] w (OneP w b g rb rg) := by
  obtain ⟨W0, hW0, hK0, hB0⟩ := box_new w o
  have HD : Hid (Duo W0 b g rb rg xs ∧ Keeps (fun _ => False) w W0 ∧ Blk W0 w.heap.size o.vs 36 ∧ o.Fine) := ⟨h.grown hK0, hK0, hB0, ho⟩
  have HL := look_any b g xs o.p W0 HD.out.1.mm ho.2
  have HR : ∀ W, Keeps (fun _ => False) W0 W → Calls Try.prog 21 #[.pointer (some ⟨rb, 0, none⟩), .int .i64 o.p] W fun e w' => e = .returned (.tuple #[.int .i64 (lkC xs o.p : Int), .int .i64 (lkP xs o.p : Int), .int .i64 (lkE xs o.p)]) ∧ w' = W :=
    fun W k => rlook_any rb rg xs o.p W (HD.out.1.grown k).rm ho.1 ho.2
  obtain ⟨x, hx⟩ : ∃ x : Nat, x = lkC xs o.p := ⟨_, rfl⟩
  obtain ⟨y, hy⟩ : ∃ x : Nat, x = lkP xs o.p := ⟨_, rfl⟩
  obtain ⟨E, hE⟩ : ∃ x : Int, x = lkE xs o.p := ⟨_, rfl⟩
  rw [← hx, ← hy, ← hE] at HL HR
  obtain ⟨p, hp⟩ : ∃ p, p = o.p := ⟨_, rfl⟩
  obtain ⟨c, hc⟩ : ∃ p, p = o.c := ⟨_, rfl⟩
  obtain ⟨X, hX⟩ : ∃ p : Nat, p = o.x.toNat := ⟨_, rfl⟩
  have c1 : W0.cell? ⟨w.heap.size, 1, none⟩ = some (.int .i64 o.p) := hB0.cell rfl
  have hlt := hB0.lt
  unfold OpB.v
  rw [hk, ← hp, ← hc, ← hX] at hW0
  rw [hk, ← hp, ← hc, ← hX]
  rw [← hp] at HL HR c1
  have HL : Hid (Calls _ _ _ _ _) := HL
  have HR : Hid (∀ W, Keeps (fun _ => False) W0 W → Calls Try.prog 21 #[.pointer (some ⟨rb, 0, none⟩), .int .i64 p] W fun e w' => e = .returned (.tuple #[.int .i64 (x : Int), .int .i64 (y : Int), .int .i64 E]) ∧ w' = W) := HR
  have HW : Hid (W0 = _) := hW0
  obtain ⟨O, hO⟩ : ∃ O, O = w.heap.size := ⟨_, rfl⟩
  have HO : Hid (O = w.heap.size) := hO
  rw [← hO] at c1 hlt
  clear h hk hK0 hB0 ho hx hy hE hp hc hX hW0 hO
  go_enter Try.func10, Try.ntmps10
  go_wp2_with fail
  rw [← HW.out, ← HO.out]
  refine HL.out.mono ?_
  rintro e w1 ⟨rfl, hk⟩
  have c2 : w1.cell? ⟨O, 1, none⟩ = some (.int .i64 p) := by rw [World.cell?_of_block (w := W0) (hk.block O hlt (fun e => e))]; exact c1
  have hlt1 : O < w1.heap.size := Nat.lt_of_lt_of_le hlt hk.size
  have HK1 : Hid (Keeps _ _ _) := hk
  have HR2 : Hid (Calls _ _ _ _ _) := HR.out (w1.alloc (.cells #[.int .i64 (x : Int), .int .i64 (y : Int)] 42)) (hk.alloc _)
  clear hk HL HR c1 hlt
  go_wp2_with fail
  refine HR2.out.mono ?_
  rintro e w2 ⟨rfl, hw⟩
  obtain rfl := hw.symm
  clear hw HR2
  go_wp2
  go_ret
  exact ⟨rfl, xs, HD.out.1.grown (HK1.out.alloc _), ((HD.out.2.1.trans HK1.out (fun _ _ e => e)).alloc _).mono (fun _ _ e => e.elim)⟩

end Go.Proofs.Ythepajjbflmchaa
