import Derived.Test.YtipejahmjdamjaaGreatDoorCr
namespace Go.Proofs.YtipejahmjdamjaaGreatDoor
open Go.RowKit Go.Shelf
set_option linter.unusedVariables false
set_option maxRecDepth 6000

/-- The place of a word of the space, if its page can be translated with a right. -/
def rcP (n : Nat) (xs : List UInt32) (root : Nat) (ls : List Tl.Lf) (a : Nat) (right : Int) : Option Nat :=
  if 4096 ≤ a then none else
  match trL n xs root ls (a / 16) with
  | some l => if l.f < n ∧ okR l.r right = true then some (16 * l.f.toNat + a % 16) else none
  | none => none
def rcL (n : Nat) (xs : List UInt32) (root : Nat) (ls : List Tl.Lf) (a : Nat) : List Tl.Lf := if 4096 ≤ a then ls else trS n xs root ls (a / 16)
def rcW (ls : List Tl.Lf) (a : Nat) : Int := if 4096 ≤ a then 0 else trC ls (a / 16)
def toC (o : Option Nat) (st : Nat → List Int) : Int := match o with | some p => Ch.cost (p / 4) st | none => 0
def toS (o : Option Nat) (st : Nat → List Int) : Nat → List Int := match o with | some p => Ch.step (p / 4) st | none => st

theorem rcW_bd (ls : List Tl.Lf) (a : Nat) : 0 ≤ rcW ls a ∧ rcW ls a ≤ 6 := by unfold rcW trC; split <;> (try split) <;> omega
theorem toC_bd (o : Option Nat) (st : Nat → List Int) : 0 ≤ toC o st ∧ toC o st ≤ 7 := by
  cases o with
  | none => simp [toC]
  | some p => simp only [toC, Ch.cost]; split <;> omega

theorem rcP_lt {n : Nat} {xs : List UInt32} {root : Nat} {ls : List Tl.Lf} {a : Nat} {right : Int} {P : Nat} (hg : ∀ l ∈ ls, Tl.mayB l = true) (h : rcP n xs root ls a right = some P) : P < n * 16 := by
  unfold rcP at h
  split at h
  · cases h
  · cases ht : trL n xs root ls (a / 16) with
    | none => rw [ht] at h; cases h
    | some l =>
      rw [ht] at h
      dsimp only at h
      split at h
      · rename_i hc
        have hm := trL_good hg ht
        simp [Tl.mayB, Tl.inB] at hm
        obtain rfl := Option.some.inj h
        omega
      · cases h

theorem reach_any (s tb cb g n a : Nat) (right : Int) (cs : List Value) (t : Sp) (xs : List UInt32) (ls : List Tl.Lf) (st : Nat → List Int) (FT FC : Nat → Prop) (w : World) (h : Env w s tb cb g n cs t xs ls st FT FC) (ha : a < 4294967296) (hq : 0 ≤ t.cost ∧ t.cost ≤ 900) :
    Calls Tryz.prog 91 #[ptr s, .int .u32 a, .int .i64 right] w fun e w' => e = .returned (.tuple #[.int .i64 ((rcP n xs t.root ls a right).getD 0 : Nat), .bool (rcP n xs t.root ls a right).isSome]) ∧
      Moved w w' s tb cb g n cs FT FC { t with cost := t.cost + rcW ls a + toC (rcP n xs t.root ls a right) st } xs (rcL n xs t.root ls a) (toS (rcP n xs t.root ls a right) st) := by
  by_cases h4 : 4096 ≤ a
  · rw [show rcP n xs t.root ls a right = none from if_pos h4, show rcW ls a = 0 from if_pos h4, show rcL n xs t.root ls a = ls from if_pos h4]
    refine (reach_far s a right w h4 ha).mono ?_
    rintro e w' ⟨rfl, rfl⟩
    refine ⟨rfl, ?_⟩
    have : ({ t with cost := t.cost + 0 + toC none st } : Sp) = t := by simp [toC]
    rw [this]
    exact h.grow (Keeps.refl _ _)
  · rw [show rcW ls a = trC ls (a / 16) from if_neg h4, show rcL n xs t.root ls a = trS n xs t.root ls (a / 16) from if_neg h4]
    have hP : rcP n xs t.root ls a right = match trL n xs t.root ls (a / 16) with
      | some l => if l.f < n ∧ okR l.r right = true then some (16 * l.f.toNat + a % 16) else none
      | none => none := if_neg h4
    by_cases hy : ∃ l, trL n xs t.root ls (a / 16) = some l ∧ l.f < n ∧ okR l.r right = true
    · obtain ⟨l, h1, h2, h3⟩ := hy
      have hm := trL_good h.good h1
      simp [Tl.mayB, Tl.inB] at hm
      have hf : l.f = (l.f.toNat : Nat) := by omega
      rw [hP, h1]
      dsimp only
      rw [if_pos ⟨h2, h3⟩]
      exact reach_yes s tb cb g n a l.f.toNat right cs t xs ls st FT FC w h (by omega) hq l h1 hf (by omega) h3
    · have hN : rcP n xs t.root ls a right = none := by
        rw [hP]
        cases hl : trL n xs t.root ls (a / 16) with
        | none => rfl
        | some l => dsimp only; rw [if_neg]; intro e; exact hy ⟨l, hl, e⟩
      rw [hN]
      refine (reach_no s tb cb g n a right cs t xs ls st FT FC w h (by omega) ⟨hq.1, by omega⟩ fun l hl e => hy ⟨l, hl, e⟩).mono ?_
      rintro e w' ⟨rfl, hM⟩
      refine ⟨rfl, ?_⟩
      have : ({ t with cost := t.cost + trC ls (a / 16) + toC none st } : Sp) = { t with cost := t.cost + trC ls (a / 16) } := by simp [toC]
      rw [this]
      exact hM

/-- Where an ld or an st goes. -/
def Sp.x (t : Sp) : Nat := wd ((t.rg.getD t.b 0).toNat + wd t.imm)
def Sp.pay (t : Sp) (k : Int) : Sp := { t with cost := k }

set_option maxHeartbeats 4000000 in
theorem load_no (s tb cb g n : Nat) (cs : List Value) (t : Sp) (xs : List UInt32) (ls : List Tl.Lf) (st : Nat → List Int) (FT FC : Nat → Prop) (w : World) (h : Env w s tb cb g n cs t xs ls st FT FC) (hq : 0 ≤ t.cost ∧ t.cost ≤ 900) (hn : rcP n xs t.root ls t.x 1 = none) :
    Calls Tryz.prog 136 #[ptr s] w fun e w' => e = .returned (.int .i64 3) ∧ Moved w w' s tb cb g n cs FT FC (t.pay (t.cost + rcW ls t.x)) xs (rcL n xs t.root ls t.x) st := by
  have HB : Hid (Calls _ _ _ _ _) := rb_any s t w h.sp
  have HI : Hid (∀ k, Calls Tryz.prog 185 _ (w.drewN k) _) := fun k => imm_any s t (w.drewN k) (h.sp.drewN k)
  have HR := fun k => reach_any s tb cb g n t.x 1 cs t xs ls st FT FC (w.drewN k) (h.grown ((Keeps.refl (fun _ => False) w).drewN k)) (wd_lt _) hq
  rw [hn] at HR
  rw [show ({ t with cost := t.cost + rcW ls t.x + toC none st } : Sp) = t.pay (t.cost + rcW ls t.x) by simp [toC, Sp.pay]] at HR
  have hx : (t.x : Int) = ((t.rg.getD t.b 0).toNat + wd t.imm : Int) % 4294967296 := wd_cast _
  obtain ⟨x, ex⟩ : ∃ x, x = t.x := ⟨_, rfl⟩
  rw [← ex] at HR hx ⊢
  obtain ⟨T, eT⟩ : ∃ T, T = t.pay (t.cost + rcW ls x) := ⟨_, rfl⟩
  obtain ⟨l2, el⟩ : ∃ l2, l2 = rcL n xs t.root ls x := ⟨_, rfl⟩
  rw [← eT, ← el] at HR ⊢
  replace HR : Hid (∀ k, Calls Tryz.prog 91 #[ptr s, .int .u32 x, .int .i64 1] (w.drewN k) fun e w' => e = .returned (.tuple #[.int .i64 0, .bool false]) ∧ Moved (w.drewN k) w' s tb cb g n cs FT FC T xs l2 st) := HR
  obtain ⟨b, eb⟩ : ∃ b, b = (t.rg.getD t.b 0).toNat := ⟨_, rfl⟩
  obtain ⟨i, ei⟩ : ∃ i, i = wd t.imm := ⟨_, rfl⟩
  rw [← eb] at HB hx
  rw [← ei] at HI hx
  have HX : Hid ((x : Int) = ((b : Int) + i) % 4294967296) := hx
  clear h hq hn hx ex eT el eb ei
  go_enter Tryz.func136, Tryz.ntmps136
  go_wp2_with fail
  refine HB.out.mono ?_
  rintro e w1 ⟨rfl, k, rfl⟩
  go_wp2_with fail
  refine (HI.out k).mono ?_
  rintro e w1 ⟨rfl, k2, rfl⟩
  rw [World.drewN_drewN]
  go_wp2_with fail
  rw [← HX.out]
  refine (HR.out _).mono ?_
  rintro e w2 ⟨rfl, hM⟩
  have HM : Hid (Moved w w2 s tb cb g n cs FT FC T xs l2 st) := by
    obtain ⟨F1, C1, e, a1, a2, a3⟩ := hM
    exact ⟨F1, C1, e, a1, a2, a3.fromDrewN⟩
  clear hM HR HI HB
  go_wp2
  go_ret
  exact ⟨rfl, HM.out⟩

end Go.Proofs.YtipejahmjdamjaaGreatDoor
