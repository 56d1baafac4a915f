import Derived.Test.YtipejahmjdamjaaGreatDoorZb
import Derived.Test.YtipejahmjdamjaaGreatDoorYda
namespace Go.Proofs.YtipejahmjdamjaaGreatDoor
open Go.RowKit Go.Shelf
set_option linter.unusedVariables false
set_option maxRecDepth 6000

theorem stepped_same {w w' : World} {c tb cb b g n : Nat} {FT FC : Nat → Prop} {rg : List UInt32} {pc : Nat} {xs : List UInt32} {ls : List Tl.Lf} {st : Nat → List Int} (h : CoreAt w c tb cb rg pc ls st FT FC) (hM : Mn w b g n xs) (hap : ∀ k, (k = c ∨ FT k ∨ FC k) → k ≠ b ∧ k ≠ g) (hK : Keeps (fun _ => False) w w') :
    Stepped w w' c tb cb b g n FT FC rg pc xs ls st :=
  ⟨⟨FT, FC, h.kept hK fun _ _ h => h, fun k e => .inl e, fun k e => .inl e, hap⟩, hM.grown hK, hK.mono fun _ _ h => h.elim⟩

/-- A step, whatever the root is. -/
theorem step_all (c tb cb b g n : Nat) (root : Int) (clock : Nat) (rg : List UInt32) (pc : Nat) (ls : List Tl.Lf) (st : Nat → List Int) (FT FC : Nat → Prop) (xs : List UInt32) (w : World) (h : CoreAt w c tb cb rg pc ls st FT FC) (hM : Mn w b g n xs)
    (hap : ∀ k, (k = c ∨ FT k ∨ FC k) → k ≠ b ∧ k ≠ g) (hT : Is.Tabs w) (hg : 2 ≤ g) (hk : clock < 4294967296) :
    Calls Tryz.prog 26 #[ptr c, ptr b, .int .i64 root, .int .u32 clock] w fun e w' => ∃ v rg' pc' xs' ls' st', e = .returned v ∧ Stepped w w' c tb cb b g n FT FC rg' pc' xs' ls' st' := by
  by_cases hr : 0 ≤ root ∧ root < n
  · obtain ⟨r, rfl⟩ := Int.eq_ofNat_of_zero_le hr.1
    exact (step_any c tb cb b g n r clock rg pc ls st FT FC xs w h hM hap hT hg (by omega) hk _ rfl).mono fun e w' ⟨q1, q2⟩ => ⟨_, _, _, _, _, _, q1, q2⟩
  · exact (step_err c tb cb b g n root clock rg pc ls st FT FC xs w h hM hr).mono fun e w' ⟨q1, q2⟩ => ⟨_, _, _, _, _, _, q1, stepped_same h hM hap q2⟩

def acts (K : Int) (rt : Nat) (cl : Int) (pc x : Nat) (rd : Bool) (ad vl : Nat) : List Value := [.int .i64 K, .int .i64 rt, .int .i64 cl, .int .u32 pc, .int .u32 x, .bool rd, .int .u32 ad, .int .u32 vl]

/-- One and the same step of a core that has worked and of one that holds nothing. -/
structure Pair (c tb cb b g d tb2 cb2 b2 g2 n : Nat) (root : Int) (clock : Nat) (rg : List UInt32) (pc : Nat) (ls : List Tl.Lf) (st : Nat → List Int) (FT FC FT2 FC2 : Nat → Prop) (xs : List UInt32)
    (E : Nat) (K K2 : Int) (rt : Nat) (cl : Int) (ap x : Nat) (rd : Bool) (ad vl : Nat) (rgz : List UInt32) (pcz : Nat) (xs7 : List UInt32) (ls7 ls2 : List Tl.Lf) (st7 st2 : Nat → List Int) : Prop where
  cost : E = 0 → 2 ≤ K ∧ K2 ≤ 37 ∧ K ≤ K2
  one : ∀ w, CoreAt w c tb cb rg pc ls st FT FC → Mn w b g n xs → (∀ k, (k = c ∨ FT k ∨ FC k) → k ≠ b ∧ k ≠ g) → Is.Tabs w → 2 ≤ g →
    Calls Tryz.prog 26 #[ptr c, ptr b, .int .i64 root, .int .u32 clock] w fun e w' => e = .returned (.tuple #[.agg (acts K rt cl ap x rd ad vl).toArray, .int .i64 E]) ∧ Stepped w w' c tb cb b g n FT FC rgz pcz xs7 ls7 st7
  two : ∀ w, CoreAt w d tb2 cb2 rg pc [] (fun _ => []) FT2 FC2 → Mn w b2 g2 n xs → (∀ k, (k = d ∨ FT2 k ∨ FC2 k) → k ≠ b2 ∧ k ≠ g2) → Is.Tabs w → 2 ≤ g2 →
    Calls Tryz.prog 26 #[ptr d, ptr b2, .int .i64 root, .int .u32 clock] w fun e w' => e = .returned (.tuple #[.agg (acts K2 rt cl ap x rd ad vl).toArray, .int .i64 E]) ∧ Stepped w w' d tb2 cb2 b2 g2 n FT2 FC2 rgz pcz xs7 ls2 st2

theorem pair_any (c tb cb b g d tb2 cb2 b2 g2 n : Nat) (root : Int) (clock : Nat) (rg : List UInt32) (pc : Nat) (ls : List Tl.Lf) (st : Nat → List Int) (FT FC FT2 FC2 : Nat → Prop) (xs : List UInt32) (hk : clock < 4294967296)
    (hF : ∀ r : Nat, root = r → Fresh n xs r ls) :
    ∃ E K K2 rt cl ap x rd ad vl rgz pcz xs7 ls7 ls2 st7 st2, Pair c tb cb b g d tb2 cb2 b2 g2 n root clock rg pc ls st FT FC FT2 FC2 xs E K K2 rt cl ap x rd ad vl rgz pcz xs7 ls7 ls2 st7 st2 := by
  by_cases hr : 0 ≤ root ∧ root < n
  · obtain ⟨r, rfl⟩ := Int.eq_ofNat_of_zero_le hr.1
    have hrn : r < n := by omega
    obtain ⟨R, eR⟩ : ∃ R, R = carryM n ⟨sp0 rg pc c b r clock, xs, ls, st⟩ := ⟨_, rfl⟩
    obtain ⟨R2, eR2⟩ : ∃ R2, R2 = carryM n ⟨sp0 rg pc d b2 r clock, xs, [], fun _ => []⟩ := ⟨_, rfl⟩
    have hO := carry_warm n rg pc c b d b2 r clock xs ls st (hF r rfl)
    have hlo := carry_lo n rg pc c b r clock xs ls st
    have hhi := (carry_P n rg pc d b2 r clock xs (fun _ => []) hrn).hi
    rw [← eR, ← eR2] at hO
    rw [← eR] at hlo
    rw [← eR2] at hhi
    obtain ⟨o1, o2, k, o3, o4⟩ := hO
    obtain ⟨rt, t7, xs7, ls7, st7⟩ := R
    obtain ⟨rt2, t2, ys7, ls2, st2⟩ := R2
    dsimp only at o1 o2 o3 o4 hlo hhi
    subst o1 o2 o4
    refine ⟨0, t7.cost + (if rt2 = 0 then 0 else 10), k + (if rt2 = 0 then 0 else 10), rt2, t7.call, t7.apc, t7.word, t7.rd, t7.addr, t7.val, if rt2 = 0 then t7.rg else rg, if rt2 = 0 then t7.pc else pc, ys7, ls7, ls2, st7, st2, ⟨fun _ => ⟨hlo, hhi, by omega⟩, fun w h hM hap hT hg => ?_, fun w h hM hap hT hg => ?_⟩⟩
    · exact step_any c tb cb b g n r clock rg pc ls st FT FC xs w h hM hap hT hg hrn hk _ eR
    · exact step_any d tb2 cb2 b2 g2 n r clock rg pc [] (fun _ => []) FT2 FC2 xs w h hM hap hT hg hrn hk _ eR2
  · refine ⟨91, 0, 0, 0, 0, 0, 0, false, 0, 0, rg, pc, xs, ls, [], st, fun _ => [], ⟨fun h => by omega, fun w h hM hap hT hg => ?_, fun w h hM hap hT hg => ?_⟩⟩
    · exact (step_err c tb cb b g n root clock rg pc ls st FT FC xs w h hM hr).mono fun e w' ⟨q1, q2⟩ => ⟨q1, stepped_same h hM hap q2⟩
    · exact (step_err d tb2 cb2 b2 g2 n root clock rg pc [] (fun _ => []) FT2 FC2 xs w h hM hr).mono fun e w' ⟨q1, q2⟩ => ⟨q1, stepped_same h hM hap q2⟩

end Go.Proofs.YtipejahmjdamjaaGreatDoor
