import Derived.Test.YthaoopaafdgioabB
import Derived.Test.YthaoopaafdgioabRo
namespace Go.Proofs.Ythaoopaafdgioab
open Go.RowKit
set_option linter.unusedVariables false
set_option maxRecDepth 6000

structure Ow where
  kind : Int
  idx : Int
  port : Int
deriving DecidableEq
abbrev Ow.v (x : Ow) : Value := .agg #[.int .i64 x.kind, .int .i64 x.idx, .int .i64 x.port]
abbrev Ow.vs (x : Ow) : List Value := [.int .i64 x.kind, .int .i64 x.idx, .int .i64 x.port]

/-- A function that deals words: it tells where the next ones lie, and counts on; S are its own blocks. -/
structure Dl (f : Nat) (bs : Array Value) (S : Nat → Prop) (J : World → Int → List (Ow × Int) → Prop) : Prop where
  ent : ∀ args w, (callFunc f args).run Try.prog w = .ok (.enter f args) w
  call : ∀ w a hist o k, J w a hist → 0 ≤ a → a ≤ 1000000 → 0 ≤ k → k ≤ 1000 → Calls Try.prog f (#[Ow.v o, .int .i64 k] ++ bs) w fun e w' => e = .returned (.int .i64 a) ∧ J w' (a + k) (hist ++ [(o, k)]) ∧ Keeps S w w'
  kept : ∀ {w w' T a hist}, J w a hist → Keeps T w w' → (∀ k, S k → ¬ T k) → J w' a hist

variable {f : Nat} {bs : Array Value} {S : Nat → Prop} {J : World → Int → List (Ow × Int) → Prop}

theorem here_any (hD : Dl f bs S J) (w : World) (a : Int) (hist : List (Ow × Int)) (hJ : J w a hist) (h0 : 0 ≤ a) (h1 : a ≤ 1000000) :
    Calls Try.prog 43 #[.func (.func f) #[] bs] w fun e w' => e = .returned (.int .i64 a) ∧ J w' a (hist ++ [(⟨0, 0, 0⟩, 0)]) ∧ Keeps S w w' := by
  have hent := hD.ent
  have HC : Hid (Calls Try.prog f (#[Ow.v ⟨0, 0, 0⟩, .int .i64 0] ++ bs) w fun e w' => e = .returned (.int .i64 a) ∧ J w' (a + 0) (hist ++ [(⟨0, 0, 0⟩, 0)]) ∧ Keeps S w w') := hD.call w a hist ⟨0, 0, 0⟩ 0 hJ h0 h1 (by omega) (by omega)
  rw [Int.add_zero] at HC
  clear hJ hD
  go_enter Try.func43, Try.ntmps43
  go_wp2_with fail
  refine HC.out.mono ?_
  rintro e w1 ⟨rfl, hj, hK⟩
  have HK : Hid (J w1 a (hist ++ [(⟨0, 0, 0⟩, 0)]) ∧ Keeps S w w1) := ⟨hj, hK⟩
  clear hj hK HC
  go_wp2
  go_ret
  exact ⟨rfl, HK.out.1, HK.out.2⟩

/-- How many words are left of a frame that has begun. -/
def fillN (a : Int) : Int := if a % 16 = 0 then 0 else 16 - a % 16
def fillH (a : Int) : List (Ow × Int) := if a % 16 = 0 then [(⟨0, 0, 0⟩, 0)] else [(⟨0, 0, 0⟩, 0), (⟨0, 0, 0⟩, 16 - a % 16)]
theorem fillFrame_any (hD : Dl f bs S J) (w : World) (a : Int) (hist : List (Ow × Int)) (hJ : J w a hist) (h0 : 0 ≤ a) (h1 : a ≤ 1000000) :
    Calls Try.prog 41 #[.func (.func f) #[] bs] w fun e w' => e = .returned (.tuple #[]) ∧ J w' (a + fillN a) (hist ++ fillH a) ∧ Keeps S w w' := by
  have hent := hD.ent
  have HD : Hid (Dl f bs S J) := hD
  have HC : Hid (Calls Try.prog 43 #[.func (.func f) #[] bs] w fun e w' => e = .returned (.int .i64 a) ∧ J w' a (hist ++ [(⟨0, 0, 0⟩, 0)]) ∧ Keeps S w w') := here_any hD w a hist hJ h0 h1
  clear hJ hD
  obtain ⟨r, hr⟩ : ∃ r, a % 16 = r := ⟨_, rfl⟩
  have hr1 : a.tmod 16 = r := by rw [Int.tmod_eq_emod_of_nonneg h0]; exact hr
  have HR : Hid (a % 16 = r) := hr
  have hrb : 0 ≤ r ∧ r < 16 := by omega
  go_enter Try.func41, Try.ntmps41
  go_wp2_with fail
  refine HC.out.mono ?_
  rintro e w1 ⟨rfl, hj, hK⟩
  have HK : Hid (J w1 a (hist ++ [(⟨0, 0, 0⟩, 0)]) ∧ Keeps S w w1) := ⟨hj, hK⟩
  clear hj hK HC
  by_cases hz : r = 0
  · subst hz
    have HF : Hid (fillN a = 0 ∧ fillH a = [(⟨0, 0, 0⟩, 0)]) := by unfold fillN fillH; rw [HR.out]; exact ⟨rfl, rfl⟩
    go_wp2
    go_end0
    rw [HF.out.1, HF.out.2, Int.add_zero]
    exact ⟨rfl, HK.out.1, HK.out.2⟩
  · have HF : Hid (fillN a = 16 - r ∧ fillH a = [(⟨0, 0, 0⟩, 0), (⟨0, 0, 0⟩, 16 - r)]) := by unfold fillN fillH; rw [HR.out, if_neg hz, if_neg hz]; exact ⟨rfl, rfl⟩
    have HC : Hid (Calls Try.prog f (#[Ow.v ⟨0, 0, 0⟩, .int .i64 (16 - r)] ++ bs) w1 fun e w' => e = .returned (.int .i64 a) ∧ J w' (a + (16 - r)) ((hist ++ [(⟨0, 0, 0⟩, 0)]) ++ [(⟨0, 0, 0⟩, 16 - r)]) ∧ Keeps S w1 w') := HD.out.call w1 a _ ⟨0, 0, 0⟩ (16 - r) HK.out.1 h0 h1 (by omega) (by omega)
    have q1 : IntKind.i64.wrap (16 - r) = 16 - r := by rw [IntKind.wrap_i64]; omega
    have q2 : decide (0 < r) = true := by simp; omega
    clear hr
    go_wp2_with fail
    refine HC.out.mono ?_
    rintro e w2 ⟨rfl, hj, hK⟩
    rw [List.append_assoc] at hj
    have HK2 : Hid (J w2 (a + (16 - r)) (hist ++ ([(⟨0, 0, 0⟩, 0)] ++ [(⟨0, 0, 0⟩, 16 - r)])) ∧ Keeps S w w2) := ⟨hj, HK.out.2.trans hK fun _ _ h => h⟩
    clear hj hK HC
    go_wp2
    go_end0
    rw [HF.out.1, HF.out.2]
    exact ⟨rfl, HK2.out.1, HK2.out.2⟩

theorem set5 {w : World} {C : Nat} {a0 a1 a2 a3 a4 : Value} {t : TypeId} (hB : Blk w C [a0, a1, a2, a3, a4] t) (v0 v1 v2 v3 v4 : Value) :
    Blk (((((w.setCell ⟨C, 0, none⟩ v0).setCell ⟨C, 1, none⟩ v1).setCell ⟨C, 2, none⟩ v2).setCell ⟨C, 3, none⟩ v3).setCell ⟨C, 4, none⟩ v4) C [v0, v1, v2, v3, v4] t ∧
    Keeps (fun k => k = C) w (((((w.setCell ⟨C, 0, none⟩ v0).setCell ⟨C, 1, none⟩ v1).setCell ⟨C, 2, none⟩ v2).setCell ⟨C, 3, none⟩ v3).setCell ⟨C, 4, none⟩ v4) := by
  have b1 := hB.setCell 0 v0
  have b2 := b1.setCell 1 v1
  have b3 := b2.setCell 2 v2
  have b4 := b3.setCell 3 v3
  have b5 := b4.setCell 4 v4
  have k0 := Keeps.refl (fun k => k = C) w
  have k1 := k0.setCell ⟨C, 0, none⟩ v0 fun _ => rfl
  have k2 := k1.setCell ⟨C, 1, none⟩ v1 fun _ => rfl
  have k3 := k2.setCell ⟨C, 2, none⟩ v2 fun _ => rfl
  have k4 := k3.setCell ⟨C, 3, none⟩ v3 fun _ => rfl
  have k5 := k4.setCell ⟨C, 4, none⟩ v4 fun _ => rfl
  exact ⟨b5, k5⟩

theorem layPartition_any (hD : Dl f bs S J) (p : Nat) (w : World) (a : Int) (hist : List (Ow × Int)) (hJ : J w a hist) (hS : ∀ k, S k → k < w.heap.size) (h0 : 0 ≤ a) (h1 : a ≤ 900000) :
    Calls Try.prog 39 #[.int .i64 p, .func (.func f) #[] bs] w fun e w' => e = .returned (.agg #[.int .i64 a, .int .i64 (a + 2), .int .i64 (a + 2 + 17), .int .i64 0, .slice none 0 0]) ∧
      J w' (a + 2 + 17 + 5) (hist ++ [(⟨3, p, 0⟩, 2), (⟨4, p, 0⟩, 17), (⟨5, p, 0⟩, 5)]) ∧ Keeps S w w' := by
  have hent := hD.ent
  have HD : Hid (Dl f bs S J) := hD
  obtain ⟨W, hW⟩ : ∃ W, W = w.alloc (.cells #[.int .i64 0, .int .i64 0, .int .i64 0, .int .i64 0, .slice none 0 0] 70) := ⟨_, rfl⟩
  obtain ⟨C, hC⟩ : ∃ C, C = w.heap.size := ⟨_, rfl⟩
  have HW : Hid (Keeps (fun _ => False) w W ∧ Blk W C [.int .i64 0, .int .i64 0, .int .i64 0, .int .i64 0, .slice none 0 0] 70 ∧ w.heap.size ≤ C ∧ ¬ S C) := by rw [hW, hC]; exact ⟨(Keeps.refl _ _).alloc _, Blk.new _ _ _, Nat.le_refl _, fun h => by have := hS _ h; omega⟩
  have HC : Hid (Calls Try.prog f (#[Ow.v ⟨3, p, 0⟩, .int .i64 2] ++ bs) W fun e w' => e = .returned (.int .i64 a) ∧ J w' (a + 2) (hist ++ [(⟨3, p, 0⟩, 2)]) ∧ Keeps S W w') := hD.call W a _ ⟨3, p, 0⟩ 2 (hD.kept hJ HW.out.1 fun _ _ h => h) h0 (by omega) (by omega) (by omega)
  clear hJ hD hS
  go_enter Try.func39, Try.ntmps39
  go_wp2_with fail
  rw [← hW, ← hC]
  clear hW hC
  refine HC.out.mono ?_
  rintro e w1 ⟨rfl, hj, hK⟩
  have HK : Hid (J w1 (a + 2) (hist ++ [(⟨3, p, 0⟩, 2)]) ∧ Keeps S W w1) := ⟨hj, hK⟩
  clear hj hK HC
  have HC : Hid (Calls Try.prog f (#[Ow.v ⟨4, p, 0⟩, .int .i64 17] ++ bs) w1 fun e w' => e = .returned (.int .i64 (a + 2)) ∧ J w' (a + 2 + 17) ((hist ++ [(⟨3, p, 0⟩, 2)]) ++ [(⟨4, p, 0⟩, 17)]) ∧ Keeps S w1 w') := HD.out.call w1 _ _ ⟨4, p, 0⟩ 17 HK.out.1 (by omega) (by omega) (by omega) (by omega)
  go_wp2_with fail
  refine HC.out.mono ?_
  rintro e w2 ⟨rfl, hj, hK⟩
  have HK2 : Hid (J w2 (a + 2 + 17) ((hist ++ [(⟨3, p, 0⟩, 2)]) ++ [(⟨4, p, 0⟩, 17)]) ∧ Keeps S W w2) := ⟨hj, HK.out.2.trans hK fun _ _ h => h⟩
  clear hj hK HC
  have HC : Hid (Calls Try.prog f (#[Ow.v ⟨5, p, 0⟩, .int .i64 5] ++ bs) w2 fun e w' => e = .returned (.int .i64 (a + 2 + 17)) ∧ J w' (a + 2 + 17 + 5) (((hist ++ [(⟨3, p, 0⟩, 2)]) ++ [(⟨4, p, 0⟩, 17)]) ++ [(⟨5, p, 0⟩, 5)]) ∧ Keeps S w2 w') := HD.out.call w2 _ _ ⟨5, p, 0⟩ 5 HK2.out.1 (by omega) (by omega) (by omega) (by omega)
  go_wp2_with fail
  refine HC.out.mono ?_
  rintro e w3 ⟨rfl, hj, hK⟩
  rw [List.append_assoc, List.append_assoc] at hj
  have HK3 : Hid (J w3 (a + 2 + 17 + 5) (hist ++ [(⟨3, p, 0⟩, 2), (⟨4, p, 0⟩, 17), (⟨5, p, 0⟩, 5)]) ∧ Keeps S W w3) := ⟨hj, HK2.out.2.trans hK fun _ _ h => h⟩
  have HB : Hid (Blk w3 C [.int .i64 0, .int .i64 0, .int .i64 0, .int .i64 0, .slice none 0 0] 70) := HW.out.2.1.kept HK3.out.2 HW.out.2.2.2
  have c0 := HB.out.cell (i := 0) rfl
  have c1 := HB.out.cell (i := 1) rfl
  have c2 := HB.out.cell (i := 2) rfl
  have c3 := HB.out.cell (i := 3) rfl
  have c4 := HB.out.cell (i := 4) rfl
  have f0 := HB.out.frozen 0
  have f1 := HB.out.frozen 1
  have f2 := HB.out.frozen 2
  have f3 := HB.out.frozen 3
  have f4 := HB.out.frozen 4
  clear hj hK HC
  go_wp2
  obtain ⟨W4, hW4⟩ : ∃ W4, W4 = (((((w3.setCell ⟨C, 0, none⟩ (.int .i64 a)).setCell ⟨C, 1, none⟩ (.int .i64 (a + 2))).setCell ⟨C, 2, none⟩ (.int .i64 (a + 2 + 17))).setCell ⟨C, 3, none⟩ (.int .i64 0)).setCell ⟨C, 4, none⟩ (.slice none 0 0)) := ⟨_, rfl⟩
  rw [← hW4]
  obtain ⟨hB, hK4⟩ := set5 HB.out (.int .i64 a) (.int .i64 (a + 2)) (.int .i64 (a + 2 + 17)) (.int .i64 0) (.slice none 0 0)
  rw [← hW4] at hB hK4
  (try simp only [Exit.inBlock, Exit.then])
  refine bodyPost_ret (results_cell_row rfl _ _ C 70 _ (0, 0) _ rfl hB Try.underlying70 rfl (by kernel_rfl)) rfl ?_
  refine ⟨rfl, HD.out.kept HK3.out.1 hK4 fun k hk e => HW.out.2.2.2 (e ▸ hk), ?_⟩
  exact ((HW.out.1.mono fun _ _ h => h.elim).trans HK3.out.2 fun _ _ h => h).trans hK4 fun b hb e => absurd hb (by have := HW.out.2.2.1; omega)
end Go.Proofs.Ythaoopaafdgioab
