import Derived.Test.YtipejahmjdamjaaGreatDoorCg
namespace Go.Proofs.YtipejahmjdamjaaGreatDoor
open Go.RowKit Go.Shelf
set_option linter.unusedVariables false
set_option maxRecDepth 6000

theorem leaf_any (s tb cb g n p : Nat) (cs : List Value) (t : Sp) (xs : List UInt32) (ls : List Tl.Lf) (st : Nat → List Int) (FT FC : Nat → Prop) (w : World) (h : Env w s tb cb g n cs t xs ls st FT FC) (hp : p < 256) (hq : 0 ≤ t.cost ∧ t.cost ≤ 1000) :
    Calls Tryz.prog 126 #[ptr s, .int .i64 p] w fun e w' => e = .returned (.tuple #[((trL n xs t.root ls p).getD Tl.Lf.none).v, .bool (trL n xs t.root ls p).isSome]) ∧ Moved w w' s tb cb g n cs FT FC { t with cost := t.cost + trC ls p } xs (trS n xs t.root ls p) st := by
  cases hx : Tl.findT p ls with
  | some x =>
    have := leaf_known s tb cb g n p cs t xs ls st FT FC w h hp x hx
    rw [show trL n xs t.root ls p = some x by unfold trL; rw [hx], show trS n xs t.root ls p = Tl.touchT p ls by unfold trS; rw [hx], show t.cost + trC ls p = t.cost by unfold trC; rw [hx]; simp]
    exact this
  | none =>
    rw [show t.cost + trC ls p = t.cost + 6 by unfold trC; rw [hx]; simp]
    by_cases hw : walkE n xs t.root p = 0
    · have := leaf_new s tb cb g n p cs t xs ls st FT FC w h hp hx hq hw
      rw [show trL n xs t.root ls p = some (toT (walkL n xs t.root p)) by unfold trL; rw [hx]; exact if_pos hw, show trS n xs t.root ls p = Tl.putT (toT (walkL n xs t.root p)) ls by unfold trS; rw [hx]; exact if_pos hw]
      exact this
    · have := leaf_none s tb cb g n p cs t xs ls st FT FC w h hp hx hq hw
      rw [show trL n xs t.root ls p = none by unfold trL; rw [hx]; exact if_neg hw, show trS n xs t.root ls p = ls by unfold trS; rw [hx]; exact if_neg hw]
      exact this

/-- Does a leaf give a right? -/
def okR (r right : Int) : Bool := !(bits .and .i64 r right == 0)

theorem reach_far (s a : Nat) (right : Int) (w : World) (ha : 4096 ≤ a) (hb : a < 4294967296) : Calls Tryz.prog 91 #[ptr s, .int .u32 a, .int .i64 right] w fun e w' => e = .returned (.tuple #[.int .i64 0, .bool false]) ∧ w' = w := by
  have g1 : decide ((4096 : Int) ≤ a) = true := decide_eq_true (by omega)
  go_enter Tryz.func91, Tryz.ntmps91
  go_wp2
  go_ret2
  exact ⟨rfl, rfl⟩

set_option maxHeartbeats 4000000 in
theorem reach_no (s tb cb g n a : Nat) (right : Int) (cs : List Value) (t : Sp) (xs : List UInt32) (ls : List Tl.Lf) (st : Nat → List Int) (FT FC : Nat → Prop) (w : World) (h : Env w s tb cb g n cs t xs ls st FT FC) (ha : a < 4096) (hq : 0 ≤ t.cost ∧ t.cost ≤ 1000)
    (hn : ∀ l, trL n xs t.root ls (a / 16) = some l → ¬ (l.f < n ∧ okR l.r right = true)) :
    Calls Tryz.prog 91 #[ptr s, .int .u32 a, .int .i64 right] w fun e w' => e = .returned (.tuple #[.int .i64 0, .bool false]) ∧ Moved w w' s tb cb g n cs FT FC { t with cost := t.cost + trC ls (a / 16) } xs (trS n xs t.root ls (a / 16)) st := by
  have HC := leaf_any s tb cb g n (a / 16) cs t xs ls st FT FC w h (by omega) hq
  obtain ⟨T, eT⟩ : ∃ T : Sp, T = { t with cost := t.cost + trC ls (a / 16) } := ⟨_, rfl⟩
  have HT : Hid (T = { t with cost := t.cost + trC ls (a / 16) }) := eT
  rw [← eT] at HC ⊢
  have HG : Hid (∀ l, trL n xs t.root ls (a / 16) = some l → Tl.mayB l = true) := fun l hl => trL_good h.good hl
  obtain ⟨O, eO⟩ : ∃ O, O = trL n xs t.root ls (a / 16) := ⟨_, rfl⟩
  obtain ⟨l2, eS⟩ : ∃ l2, l2 = trS n xs t.root ls (a / 16) := ⟨_, rfl⟩
  rw [← eO] at HC hn HG
  rw [← eS] at HC ⊢
  rw [show ((a / 16 : Nat) : Int) = (a : Int) / 16 by omega] at HC
  have g1 : decide ((4096 : Int) ≤ a) = false := decide_eq_false (by omega)
  have hb : (a : Int) < 4096 := by omega
  have HM : Hid (t.m = T.m) := by show _ = _; rw [HT.out]
  clear h hq eT eO eS ha
  cases O with
  | none =>
    have HC : Hid (Calls Tryz.prog 126 #[ptr s, .int .i64 ((a : Int) / 16)] w fun e w' => e = .returned (.tuple #[Tl.Lf.none.v, .bool false]) ∧ Moved w w' s tb cb g n cs FT FC T xs l2 st) := HC
    clear hn
    go_enter Tryz.func91, Tryz.ntmps91
    go_wp2_with fail
    refine HC.out.mono ?_
    rintro e w1 ⟨rfl, hM⟩
    have HM : Hid (Moved w w1 s tb cb g n cs FT FC T xs l2 st) := hM
    clear hM HC
    go_wp2_with fail
    go_quiet (fail)
    go_wp2
    go_ret2
    obtain ⟨F1, C1, hF⟩ := HM.out.far
    exact ⟨rfl, (hF.grown (((Keeps.refl (fun _ => False) w1).alloc _).drewN _)).moved⟩
  | some l =>
    obtain ⟨m, em⟩ : ∃ m, m = T.m := ⟨_, rfl⟩
    have HMm : Hid (m = T.m) := em
    have hl := hn l rfl
    clear hn em HM
    have HC : Hid (Calls Tryz.prog 126 #[ptr s, .int .i64 ((a : Int) / 16)] w fun e w' => e = .returned (.tuple #[l.v, .bool true]) ∧ Moved w w' s tb cb g n cs FT FC T xs l2 st) := HC
    by_cases hf : l.f < n
    · have g2 : decide ((n : Int) ≤ l.f) = false := decide_eq_false (by omega)
      have g3 : (bits .and .i64 l.r right == 0) = true := by
        have : ¬ okR l.r right = true := fun e => hl ⟨hf, e⟩
        simpa [okR] using this
      clear hl hf
      go_enter Tryz.func91, Tryz.ntmps91
      go_wp2_with fail
      refine HC.out.mono ?_
      rintro e w1 ⟨rfl, hM⟩
      obtain ⟨F1, C1, hF⟩ := hM.far
      have c1 : (w1.alloc (.cells #[.int .i64 l.p, .int .i64 l.f, .int .i64 l.r] 64)).cell? ⟨s, 18, none⟩ = some (ptr m) := by rw [HMm.out]; exact (hF.env.grown ((Keeps.refl (fun _ => False) w1).alloc (.cells #[.int .i64 l.p, .int .i64 l.f, .int .i64 l.r] 64))).sp.get 2 rfl
      have HK : Hid (Quiet 34 #[ptr m] (.int .i64 n) (w1.alloc (.cells #[.int .i64 l.p, .int .i64 l.f, .int .i64 l.r] 64))) := by rw [HMm.out]; exact quiet_eq fun k => frames_any T.m g xs n _ ((hF.env.mn.grown ((Keeps.refl (fun _ => False) w1).alloc (.cells #[.int .i64 l.p, .int .i64 l.f, .int .i64 l.r] 64))).grown ((Keeps.refl (fun _ => False) _).drewN k)).mm hF.env.mn.len
      have HF : Hid (Far w w1 s tb cb g n cs T xs l2 st FT FC F1 C1) := hF
      clear hM HC hF
      go_wp2_with fail
      go_quiet (first | exact HK.out.at _)
      go_wp2
      go_ret2
      exact ⟨rfl, (HF.out.grown (((Keeps.refl (fun _ => False) w1).alloc _).drewN _)).moved⟩
    · have g2 : decide ((n : Int) ≤ l.f) = true := decide_eq_true (by omega)
      clear hl hf
      go_enter Tryz.func91, Tryz.ntmps91
      go_wp2_with fail
      refine HC.out.mono ?_
      rintro e w1 ⟨rfl, hM⟩
      obtain ⟨F1, C1, hF⟩ := hM.far
      have c1 : (w1.alloc (.cells #[.int .i64 l.p, .int .i64 l.f, .int .i64 l.r] 64)).cell? ⟨s, 18, none⟩ = some (ptr m) := by rw [HMm.out]; exact (hF.env.grown ((Keeps.refl (fun _ => False) w1).alloc (.cells #[.int .i64 l.p, .int .i64 l.f, .int .i64 l.r] 64))).sp.get 2 rfl
      have HK : Hid (Quiet 34 #[ptr m] (.int .i64 n) (w1.alloc (.cells #[.int .i64 l.p, .int .i64 l.f, .int .i64 l.r] 64))) := by rw [HMm.out]; exact quiet_eq fun k => frames_any T.m g xs n _ ((hF.env.mn.grown ((Keeps.refl (fun _ => False) w1).alloc (.cells #[.int .i64 l.p, .int .i64 l.f, .int .i64 l.r] 64))).grown ((Keeps.refl (fun _ => False) _).drewN k)).mm hF.env.mn.len
      have HF : Hid (Far w w1 s tb cb g n cs T xs l2 st FT FC F1 C1) := hF
      clear hM HC hF
      go_wp2_with fail
      go_quiet (first | exact HK.out.at _)
      go_wp2
      go_ret2
      exact ⟨rfl, (HF.out.grown (((Keeps.refl (fun _ => False) w1).alloc _).drewN _)).moved⟩

set_option maxHeartbeats 4000000 in
theorem reach_yes (s tb cb g n a f : Nat) (right : Int) (cs : List Value) (t : Sp) (xs : List UInt32) (ls : List Tl.Lf) (st : Nat → List Int) (FT FC : Nat → Prop) (w : World) (h : Env w s tb cb g n cs t xs ls st FT FC) (ha : a < 4096) (hq : 0 ≤ t.cost ∧ t.cost ≤ 900)
    (l : Tl.Lf) (hl : trL n xs t.root ls (a / 16) = some l) (hf : l.f = f) (hn : f < n) (hr : okR l.r right = true) :
    Calls Tryz.prog 91 #[ptr s, .int .u32 a, .int .i64 right] w fun e w' => e = .returned (.tuple #[.int .i64 (16 * f + a % 16 : Nat), .bool true]) ∧
      Moved w w' s tb cb g n cs FT FC { t with cost := t.cost + trC ls (a / 16) + Ch.cost ((16 * f + a % 16) / 4) st } xs (trS n xs t.root ls (a / 16)) (Ch.step ((16 * f + a % 16) / 4) st) := by
  have HC := leaf_any s tb cb g n (a / 16) cs t xs ls st FT FC w h (by omega) ⟨hq.1, by omega⟩
  have hn2 := h.mn.n_le
  have hcst : 0 ≤ t.cost + trC ls (a / 16) ∧ t.cost + trC ls (a / 16) ≤ 1000 := by unfold trC; split <;> omega
  have hch : 0 ≤ Ch.cost ((16 * f + a % 16) / 4) st ∧ Ch.cost ((16 * f + a % 16) / 4) st ≤ 7 := by unfold Ch.cost; split <;> omega
  obtain ⟨T, eT⟩ : ∃ T : Sp, T = { t with cost := t.cost + trC ls (a / 16) } := ⟨_, rfl⟩
  have HT : Hid (T = { t with cost := t.cost + trC ls (a / 16) }) := eT
  obtain ⟨q, eq⟩ : ∃ q, q = t.cost + trC ls (a / 16) := ⟨_, rfl⟩
  have Hq : Hid (q = T.cost) := by show _ = _; rw [eT, eq]
  have HU : Hid (∀ k : Int, { T with cost := k } = { t with cost := k }) := fun k => by rw [eT]
  rw [← eT, hl] at HC
  rw [← eq] at hcst ⊢
  obtain ⟨l2, eS⟩ : ∃ l2, l2 = trS n xs t.root ls (a / 16) := ⟨_, rfl⟩
  rw [← eS] at HC ⊢
  rw [show ((a / 16 : Nat) : Int) = (a : Int) / 16 by omega] at HC
  have g1 : decide ((4096 : Int) ≤ a) = false := decide_eq_false (by omega)
  have hb : (a : Int) < 4096 := by omega
  obtain ⟨m, em⟩ : ∃ m, m = T.m := ⟨_, rfl⟩
  have HMm : Hid (m = T.m) := em
  obtain ⟨c, ec⟩ : ∃ c, c = T.c := ⟨_, rfl⟩
  have HMc : Hid (c = T.c) := ec
  obtain ⟨P, eP⟩ : ∃ P, P = 16 * f + a % 16 := ⟨_, rfl⟩
  have HP : Hid (P < 16384 ∧ (P : Int) = (f : Int) * 16 + (a : Int) % 16) := ⟨by omega, by omega⟩
  rw [← eP] at hch ⊢
  obtain ⟨k, ek⟩ : ∃ k, k = Ch.cost (P / 4) st := ⟨_, rfl⟩
  have Hk : Hid (k = Ch.cost (P / 4) st) := ek
  rw [← ek] at hch ⊢
  obtain ⟨z1, z2⟩ := hch
  obtain ⟨z3, z4⟩ := hcst
  have hfn : (f : Int) < 1024 := by omega
  have g2 : decide (n ≤ f) = false := decide_eq_false (by omega)
  have g3 : (bits .and .i64 l.r right == 0) = false := by simpa [okR] using hr
  obtain ⟨lp, lf, lr⟩ := l
  obtain rfl : lf = f := hf
  replace HC : Hid (Calls Tryz.prog 126 #[ptr s, .int .i64 ((a : Int) / 16)] w fun e w' => e = .returned (.tuple #[.agg #[.int .i64 lp, .int .i64 f, .int .i64 lr], .bool true]) ∧ Moved w w' s tb cb g n cs FT FC T xs l2 st) := HC
  clear h hq eT eS ha em ec hl hn hr eP ek eq hn2
  go_enter Tryz.func91, Tryz.ntmps91
  go_wp2_with fail
  refine HC.out.mono ?_
  rintro e w1 ⟨rfl, hM⟩
  obtain ⟨F1, C1, hF⟩ := hM.far
  have c1 : (w1.alloc (.cells #[.int .i64 lp, .int .i64 f, .int .i64 lr] 64)).cell? ⟨s, 18, none⟩ = some (ptr m) := by rw [HMm.out]; exact (hF.env.grown ((Keeps.refl (fun _ => False) w1).alloc (.cells #[.int .i64 lp, .int .i64 f, .int .i64 lr] 64))).sp.get 2 rfl
  have HK : Hid (Quiet 34 #[ptr m] (.int .i64 n) (w1.alloc (.cells #[.int .i64 lp, .int .i64 f, .int .i64 lr] 64))) := by rw [HMm.out]; exact quiet_eq fun k => frames_any T.m g xs n _ ((hF.env.mn.grown ((Keeps.refl (fun _ => False) w1).alloc (.cells #[.int .i64 lp, .int .i64 f, .int .i64 lr] 64))).grown ((Keeps.refl (fun _ => False) _).drewN k)).mm hF.env.mn.len
  have HF : Hid (Far w w1 s tb cb g n cs T xs l2 st FT FC F1 C1) := hF
  clear hM HC hF
  go_wp2_with fail
  go_quiet (first | exact HK.out.at _)
  obtain ⟨W, hW⟩ : ∃ W, W = (w1.alloc (.cells #[.int .i64 lp, .int .i64 f, .int .i64 lr] 64)).drewN nq := ⟨_, rfl⟩
  have hFW := HF.out.grown (((Keeps.refl (fun _ => False) w1).alloc (.cells #[.int .i64 lp, .int .i64 f, .int .i64 lr] 64)).drewN nq)
  rw [← hW] at hFW ⊢
  have k1 : W.cell? ⟨w1.heap.size, 1, none⟩ = some (.int .i64 f) := by
    rw [hW]; exact (Blk.new w1 #[.int .i64 lp, .int .i64 f, .int .i64 lr] 64).cell rfl
  have k2 : W.cell? ⟨s, 17, none⟩ = some (ptr c) := by rw [HMc.out]; exact hFW.env.sp.get 1 rfl
  have k3 : W.cell? ⟨c, 18, none⟩ = some (ptr cb) := by rw [HMc.out]; exact hFW.env.core.cell hFW.env.h18
  have HTo : Hid (Calls Tryz.prog 127 #[ptr cb, .int .i64 P] W fun r w' => r = .returned (.tuple #[.int .i64 k, .int .i64 0]) ∧ Ch.NowC W w' cb (Ch.step (P / 4) st) C1) := by
    rw [Hk.out]; exact Ch.touch_any cb P st C1 W hFW.env.ca HP.out.1
  have HFW : Hid (Far w W s tb cb g n cs T xs l2 st FT FC F1 C1) := hFW
  clear hFW hW HK c1
  go_wp2_with fail
  rw [← HP.out.2]
  refine HTo.out.mono ?_
  rintro e w2 ⟨rfl, hN⟩
  obtain ⟨F2, C2, hF2⟩ := (HFW.out.on (HFW.out.env.touched hN)).far
  have k4 : w2.cell? ⟨s, 26, none⟩ = some (.int .i64 q) := by rw [Hq.out]; exact hF2.env.sp.get 10 rfl
  have k5 := hF2.env.sp.frozen 26
  have HE : Hid (Moved w (w2.setCell ⟨s, 26, none⟩ (.int .i64 (q + k))) s tb cb g n cs FT FC { T with cost := q + k } xs l2 (Ch.step (P / 4) st)) := hF2.on (hF2.env.paid _)
  rw [HU.out] at HE
  clear hF2 hN k1 k2 k3
  go_wp2
  go_ret2
  exact ⟨rfl, HE.out⟩

end Go.Proofs.YtipejahmjdamjaaGreatDoor
namespace Go.Proofs.YtipejahmjdamjaaGreatDoor
open Go.RowKit Go.Shelf
set_option linter.unusedVariables false
set_option maxRecDepth 6000

/-- The place of a word of the space, if its page can be translated with a right. -/
def rcP (n : Nat) (xs : List UInt32) (root : Nat) (ls : List Tl.Lf) (a : Nat) (right : Int) : Option Nat :=
  if 4096 ≤ a then none else
  match trL n xs root ls (a / 16) with
  | some l => if l.f < n ∧ okR l.r right = true then some (16 * l.f.toNat + a % 16) else none
  | none => none
def rcL (n : Nat) (xs : List UInt32) (root : Nat) (ls : List Tl.Lf) (a : Nat) : List Tl.Lf := if 4096 ≤ a then ls else trS n xs root ls (a / 16)
def rcW (ls : List Tl.Lf) (a : Nat) : Int := if 4096 ≤ a then 0 else trC ls (a / 16)
def toC (o : Option Nat) (st : Nat → List Int) : Int := match o with | some p => Ch.cost (p / 4) st | none => 0
def toS (o : Option Nat) (st : Nat → List Int) : Nat → List Int := match o with | some p => Ch.step (p / 4) st | none => st

theorem rcW_bd (ls : List Tl.Lf) (a : Nat) : 0 ≤ rcW ls a ∧ rcW ls a ≤ 6 := by unfold rcW trC; split <;> (try split) <;> omega
theorem toC_bd (o : Option Nat) (st : Nat → List Int) : 0 ≤ toC o st ∧ toC o st ≤ 7 := by
  cases o with
  | none => simp [toC]
  | some p => simp only [toC, Ch.cost]; split <;> omega

theorem rcP_lt {n : Nat} {xs : List UInt32} {root : Nat} {ls : List Tl.Lf} {a : Nat} {right : Int} {P : Nat} (hg : ∀ l ∈ ls, Tl.mayB l = true) (h : rcP n xs root ls a right = some P) : P < n * 16 := by
  unfold rcP at h
  split at h
  · cases h
  · cases ht : trL n xs root ls (a / 16) with
    | none => rw [ht] at h; cases h
    | some l =>
      rw [ht] at h
      dsimp only at h
      split at h
      · rename_i hc
        have hm := trL_good hg ht
        simp [Tl.mayB, Tl.inB] at hm
        obtain rfl := Option.some.inj h
        omega
      · cases h

theorem reach_any (s tb cb g n a : Nat) (right : Int) (cs : List Value) (t : Sp) (xs : List UInt32) (ls : List Tl.Lf) (st : Nat → List Int) (FT FC : Nat → Prop) (w : World) (h : Env w s tb cb g n cs t xs ls st FT FC) (ha : a < 4294967296) (hq : 0 ≤ t.cost ∧ t.cost ≤ 900) :
    Calls Tryz.prog 91 #[ptr s, .int .u32 a, .int .i64 right] w fun e w' => e = .returned (.tuple #[.int .i64 ((rcP n xs t.root ls a right).getD 0 : Nat), .bool (rcP n xs t.root ls a right).isSome]) ∧
      Moved w w' s tb cb g n cs FT FC { t with cost := t.cost + rcW ls a + toC (rcP n xs t.root ls a right) st } xs (rcL n xs t.root ls a) (toS (rcP n xs t.root ls a right) st) := by
  by_cases h4 : 4096 ≤ a
  · rw [show rcP n xs t.root ls a right = none from if_pos h4, show rcW ls a = 0 from if_pos h4, show rcL n xs t.root ls a = ls from if_pos h4]
    refine (reach_far s a right w h4 ha).mono ?_
    rintro e w' ⟨rfl, rfl⟩
    refine ⟨rfl, ?_⟩
    have : ({ t with cost := t.cost + 0 + toC none st } : Sp) = t := by simp [toC]
    rw [this]
    exact h.grow (Keeps.refl _ _)
  · rw [show rcW ls a = trC ls (a / 16) from if_neg h4, show rcL n xs t.root ls a = trS n xs t.root ls (a / 16) from if_neg h4]
    have hP : rcP n xs t.root ls a right = match trL n xs t.root ls (a / 16) with
      | some l => if l.f < n ∧ okR l.r right = true then some (16 * l.f.toNat + a % 16) else none
      | none => none := if_neg h4
    by_cases hy : ∃ l, trL n xs t.root ls (a / 16) = some l ∧ l.f < n ∧ okR l.r right = true
    · obtain ⟨l, h1, h2, h3⟩ := hy
      have hm := trL_good h.good h1
      simp [Tl.mayB, Tl.inB] at hm
      have hf : l.f = (l.f.toNat : Nat) := by omega
      rw [hP, h1]
      dsimp only
      rw [if_pos ⟨h2, h3⟩]
      exact reach_yes s tb cb g n a l.f.toNat right cs t xs ls st FT FC w h (by omega) hq l h1 hf (by omega) h3
    · have hN : rcP n xs t.root ls a right = none := by
        rw [hP]
        cases hl : trL n xs t.root ls (a / 16) with
        | none => rfl
        | some l => dsimp only; rw [if_neg]; intro e; exact hy ⟨l, hl, e⟩
      rw [hN]
      refine (reach_no s tb cb g n a right cs t xs ls st FT FC w h (by omega) ⟨hq.1, by omega⟩ fun l hl e => hy ⟨l, hl, e⟩).mono ?_
      rintro e w' ⟨rfl, hM⟩
      refine ⟨rfl, ?_⟩
      have : ({ t with cost := t.cost + trC ls (a / 16) + toC none st } : Sp) = { t with cost := t.cost + trC ls (a / 16) } := by simp [toC]
      rw [this]
      exact hM

/-- Where an ld or an st goes. -/
def Sp.x (t : Sp) : Nat := wd ((t.rg.getD t.b 0).toNat + wd t.imm)
def Sp.pay (t : Sp) (k : Int) : Sp := { t with cost := k }

set_option maxHeartbeats 4000000 in
theorem load_no (s tb cb g n : Nat) (cs : List Value) (t : Sp) (xs : List UInt32) (ls : List Tl.Lf) (st : Nat → List Int) (FT FC : Nat → Prop) (w : World) (h : Env w s tb cb g n cs t xs ls st FT FC) (hq : 0 ≤ t.cost ∧ t.cost ≤ 900) (hn : rcP n xs t.root ls t.x 1 = none) :
    Calls Tryz.prog 136 #[ptr s] w fun e w' => e = .returned (.int .i64 3) ∧ Moved w w' s tb cb g n cs FT FC (t.pay (t.cost + rcW ls t.x)) xs (rcL n xs t.root ls t.x) st := by
  have HB : Hid (Calls _ _ _ _ _) := rb_any s t w h.sp
  have HI : Hid (∀ k, Calls Tryz.prog 185 _ (w.drewN k) _) := fun k => imm_any s t (w.drewN k) (h.sp.drewN k)
  have HR := fun k => reach_any s tb cb g n t.x 1 cs t xs ls st FT FC (w.drewN k) (h.grown ((Keeps.refl (fun _ => False) w).drewN k)) (wd_lt _) hq
  rw [hn] at HR
  rw [show ({ t with cost := t.cost + rcW ls t.x + toC none st } : Sp) = t.pay (t.cost + rcW ls t.x) by simp [toC, Sp.pay]] at HR
  have hx : (t.x : Int) = ((t.rg.getD t.b 0).toNat + wd t.imm : Int) % 4294967296 := wd_cast _
  obtain ⟨x, ex⟩ : ∃ x, x = t.x := ⟨_, rfl⟩
  rw [← ex] at HR hx ⊢
  obtain ⟨T, eT⟩ : ∃ T, T = t.pay (t.cost + rcW ls x) := ⟨_, rfl⟩
  obtain ⟨l2, el⟩ : ∃ l2, l2 = rcL n xs t.root ls x := ⟨_, rfl⟩
  rw [← eT, ← el] at HR ⊢
  replace HR : Hid (∀ k, Calls Tryz.prog 91 #[ptr s, .int .u32 x, .int .i64 1] (w.drewN k) fun e w' => e = .returned (.tuple #[.int .i64 0, .bool false]) ∧ Moved (w.drewN k) w' s tb cb g n cs FT FC T xs l2 st) := HR
  obtain ⟨b, eb⟩ : ∃ b, b = (t.rg.getD t.b 0).toNat := ⟨_, rfl⟩
  obtain ⟨i, ei⟩ : ∃ i, i = wd t.imm := ⟨_, rfl⟩
  rw [← eb] at HB hx
  rw [← ei] at HI hx
  have HX : Hid ((x : Int) = ((b : Int) + i) % 4294967296) := hx
  clear h hq hn hx ex eT el eb ei
  go_enter Tryz.func136, Tryz.ntmps136
  go_wp2_with fail
  refine HB.out.mono ?_
  rintro e w1 ⟨rfl, k, rfl⟩
  go_wp2_with fail
  refine (HI.out k).mono ?_
  rintro e w1 ⟨rfl, k2, rfl⟩
  rw [World.drewN_drewN]
  go_wp2_with fail
  rw [← HX.out]
  refine (HR.out _).mono ?_
  rintro e w2 ⟨rfl, hM⟩
  have HM : Hid (Moved w w2 s tb cb g n cs FT FC T xs l2 st) := by
    obtain ⟨F1, C1, e, a1, a2, a3⟩ := hM
    exact ⟨F1, C1, e, a1, a2, a3.fromDrewN⟩
  clear hM HR HI HB
  go_wp2
  go_ret
  exact ⟨rfl, HM.out⟩

end Go.Proofs.YtipejahmjdamjaaGreatDoor
namespace Go.Proofs.YtipejahmjdamjaaGreatDoor
open Go.RowKit Go.Shelf
set_option linter.unusedVariables false
set_option maxRecDepth 6000

/-- Behind an ld. -/
def Sp.loaded (t : Sp) (k : Int) (v : UInt32) : Sp := { t with cost := k, rd := true, addr := t.x, val := v.toNat, rg := t.rg.set t.a v }

set_option maxHeartbeats 4000000 in
theorem store_no (s tb cb g n : Nat) (cs : List Value) (t : Sp) (xs : List UInt32) (ls : List Tl.Lf) (st : Nat → List Int) (FT FC : Nat → Prop) (w : World) (h : Env w s tb cb g n cs t xs ls st FT FC) (hq : 0 ≤ t.cost ∧ t.cost ≤ 900) (hn : rcP n xs t.root ls t.x 2 = none) :
    Calls Tryz.prog 137 #[ptr s] w fun e w' => e = .returned (.int .i64 4) ∧ Moved w w' s tb cb g n cs FT FC (t.pay (t.cost + rcW ls t.x)) xs (rcL n xs t.root ls t.x) st := by
  have HB : Hid (Calls _ _ _ _ _) := rb_any s t w h.sp
  have HI : Hid (∀ k, Calls Tryz.prog 185 _ (w.drewN k) _) := fun k => imm_any s t (w.drewN k) (h.sp.drewN k)
  have HR := fun k => reach_any s tb cb g n t.x 2 cs t xs ls st FT FC (w.drewN k) (h.grown ((Keeps.refl (fun _ => False) w).drewN k)) (wd_lt _) hq
  rw [hn] at HR
  rw [show ({ t with cost := t.cost + rcW ls t.x + toC none st } : Sp) = t.pay (t.cost + rcW ls t.x) by simp [toC, Sp.pay]] at HR
  have hx : (t.x : Int) = ((t.rg.getD t.b 0).toNat + wd t.imm : Int) % 4294967296 := wd_cast _
  obtain ⟨x, ex⟩ : ∃ x, x = t.x := ⟨_, rfl⟩
  rw [← ex] at HR hx ⊢
  obtain ⟨T, eT⟩ : ∃ T, T = t.pay (t.cost + rcW ls x) := ⟨_, rfl⟩
  obtain ⟨l2, el⟩ : ∃ l2, l2 = rcL n xs t.root ls x := ⟨_, rfl⟩
  rw [← eT, ← el] at HR ⊢
  replace HR : Hid (∀ k, Calls Tryz.prog 91 #[ptr s, .int .u32 x, .int .i64 2] (w.drewN k) fun e w' => e = .returned (.tuple #[.int .i64 0, .bool false]) ∧ Moved (w.drewN k) w' s tb cb g n cs FT FC T xs l2 st) := HR
  obtain ⟨b, eb⟩ : ∃ b, b = (t.rg.getD t.b 0).toNat := ⟨_, rfl⟩
  obtain ⟨i, ei⟩ : ∃ i, i = wd t.imm := ⟨_, rfl⟩
  rw [← eb] at HB hx
  rw [← ei] at HI hx
  have HX : Hid ((x : Int) = ((b : Int) + i) % 4294967296) := hx
  clear h hq hn hx ex eT el eb ei
  go_enter Tryz.func137, Tryz.ntmps137
  go_wp2_with fail
  refine HB.out.mono ?_
  rintro e w1 ⟨rfl, k, rfl⟩
  go_wp2_with fail
  refine (HI.out k).mono ?_
  rintro e w1 ⟨rfl, k2, rfl⟩
  rw [World.drewN_drewN]
  go_wp2_with fail
  rw [← HX.out]
  refine (HR.out _).mono ?_
  rintro e w2 ⟨rfl, hM⟩
  have HM : Hid (Moved w w2 s tb cb g n cs FT FC T xs l2 st) := by
    obtain ⟨F1, C1, e, a1, a2, a3⟩ := hM
    exact ⟨F1, C1, e, a1, a2, a3.fromDrewN⟩
  clear hM HR HI HB
  go_wp2
  go_ret
  exact ⟨rfl, HM.out⟩

set_option maxHeartbeats 4000000 in
theorem load_yes (s tb cb g n P : Nat) (cs : List Value) (t : Sp) (xs : List UInt32) (ls : List Tl.Lf) (st : Nat → List Int) (FT FC : Nat → Prop) (w : World) (h : Env w s tb cb g n cs t xs ls st FT FC) (hq : 0 ≤ t.cost ∧ t.cost ≤ 900) (hn : rcP n xs t.root ls t.x 1 = some P) :
    Calls Tryz.prog 136 #[ptr s] w fun e w' => e = .returned (.int .i64 0) ∧ Moved w w' s tb cb g n cs FT FC (t.loaded (t.cost + rcW ls t.x + Ch.cost (P / 4) st) (xs.getD P 0)) xs (rcL n xs t.root ls t.x) (Ch.step (P / 4) st) := by
  have hlt : P < xs.length := by rw [h.mn.len]; exact rcP_lt h.good hn
  have HB : Hid (Calls _ _ _ _ _) := rb_any s t w h.sp
  have HI : Hid (∀ k, Calls Tryz.prog 185 _ (w.drewN k) _) := fun k => imm_any s t (w.drewN k) (h.sp.drewN k)
  have HR := fun k => reach_any s tb cb g n t.x 1 cs t xs ls st FT FC (w.drewN k) (h.grown ((Keeps.refl (fun _ => False) w).drewN k)) (wd_lt _) hq
  rw [hn] at HR
  have hx : (t.x : Int) = ((t.rg.getD t.b 0).toNat + wd t.imm : Int) % 4294967296 := wd_cast _
  obtain ⟨x, ex⟩ : ∃ x, x = t.x := ⟨_, rfl⟩
  have Hx : Hid (x = t.x ∧ x < 4294967296) := ⟨ex, by rw [ex]; exact wd_lt _⟩
  rw [← ex] at HR hx ⊢
  obtain ⟨T, eT⟩ : ∃ T, T = t.pay (t.cost + rcW ls x + Ch.cost (P / 4) st) := ⟨_, rfl⟩
  have HT : Hid (T = t.pay (t.cost + rcW ls x + Ch.cost (P / 4) st)) := eT
  obtain ⟨l2, el⟩ : ∃ l2, l2 = rcL n xs t.root ls x := ⟨_, rfl⟩
  obtain ⟨s2, es⟩ : ∃ s2, s2 = Ch.step (P / 4) st := ⟨_, rfl⟩
  replace HR : Hid (∀ k, Calls Tryz.prog 91 #[ptr s, .int .u32 x, .int .i64 1] (w.drewN k) fun e w' => e = .returned (.tuple #[.int .i64 P, .bool true]) ∧ Moved (w.drewN k) w' s tb cb g n cs FT FC T xs l2 s2) := by rw [eT, el, es]; exact HR
  rw [← el, ← es]
  obtain ⟨b, eb⟩ : ∃ b, b = (t.rg.getD t.b 0).toNat := ⟨_, rfl⟩
  obtain ⟨i, ei⟩ : ∃ i, i = wd t.imm := ⟨_, rfl⟩
  rw [← eb] at HB hx
  rw [← ei] at HI hx
  have HX : Hid ((x : Int) = ((b : Int) + i) % 4294967296) := hx
  obtain ⟨m, em⟩ : ∃ m, m = T.m := ⟨_, rfl⟩
  have Hm : Hid (m = T.m) := em
  have HL : Hid (P < xs.length) := hlt
  clear h hq hn hx ex eT el eb ei es em hlt
  go_enter Tryz.func136, Tryz.ntmps136
  go_wp2_with fail
  refine HB.out.mono ?_
  rintro e w1 ⟨rfl, k, rfl⟩
  go_wp2_with fail
  refine (HI.out k).mono ?_
  rintro e w1 ⟨rfl, k2, rfl⟩
  rw [World.drewN_drewN]
  go_wp2_with fail
  rw [← HX.out]
  refine (HR.out _).mono ?_
  rintro e w2 ⟨rfl, hM⟩
  have hM2 : Moved w w2 s tb cb g n cs FT FC T xs l2 s2 := by
    obtain ⟨F1, C1, e, a1, a2, a3⟩ := hM
    exact ⟨F1, C1, e, a1, a2, a3.fromDrewN⟩
  obtain ⟨F1, C1, hF⟩ := hM2.far
  have c1 : w2.cell? ⟨s, 18, none⟩ = some (ptr m) := by rw [Hm.out]; exact hF.env.sp.get 2 rfl
  have HRd := read_in T.m g xs P w2 hF.env.mn.mm HL.out
  rw [← getD_toNat xs P HL.out, ← Hm.out] at HRd
  obtain ⟨v, ev⟩ : ∃ v, v = (xs.getD P 0).toNat := ⟨_, rfl⟩
  have Hv : Hid (v = (xs.getD P 0).toNat) := ev
  rw [← ev] at HRd
  replace HRd : Hid (Calls Tryz.prog 36 #[ptr m, .int .i64 P] w2 fun e w' => e = .returned (.tuple #[.int .u32 v, .int .i64 0]) ∧ w' = w2) := HRd
  have c2 : w2.cell? ⟨s, 31, none⟩ = some (.bool T.rd) := hF.env.sp.get 15 rfl
  have c3 : w2.cell? ⟨s, 32, none⟩ = some (.int .u32 T.addr) := hF.env.sp.get 16 rfl
  have c4 : w2.cell? ⟨s, 33, none⟩ = some (.int .u32 T.val) := hF.env.sp.get 17 rfl
  have f2 := hF.env.sp.frozen 31
  have f3 := hF.env.sp.frozen 32
  have f4 := hF.env.sp.frozen 33
  obtain ⟨u2, eu2⟩ : ∃ u, u = T.rd := ⟨_, rfl⟩
  obtain ⟨u3, eu3⟩ : ∃ u, u = T.addr := ⟨_, rfl⟩
  obtain ⟨u4, eu4⟩ : ∃ u, u = T.val := ⟨_, rfl⟩
  rw [← eu2] at c2
  rw [← eu3] at c3
  rw [← eu4] at c4
  have hs3 : SpAt (((w2.setCell ⟨s, 31, none⟩ (.bool true)).setCell ⟨s, 32, none⟩ (.int .u32 x)).setCell ⟨s, 33, none⟩ (.int .u32 v)) s { T with rd := true, addr := x, val := v } :=
    ((hF.env.sp.set 15 (.bool true) { T with rd := true } rfl rfl hF.env.sp.la hF.env.sp.lb hF.env.sp.ld).set 16 (.int .u32 x) { T with rd := true, addr := x } rfl rfl hF.env.sp.la hF.env.sp.lb hF.env.sp.ld).set 17 (.int .u32 v) { T with rd := true, addr := x, val := v } rfl rfl hF.env.sp.la hF.env.sp.lb hF.env.sp.ld
  have HS3 : Hid (SpAt (((w2.setCell ⟨s, 31, none⟩ (.bool true)).setCell ⟨s, 32, none⟩ (.int .u32 x)).setCell ⟨s, 33, none⟩ (.int .u32 v)) s { T with rd := true, addr := x, val := v } ∧ Keeps (· = s) w2 (((w2.setCell ⟨s, 31, none⟩ (.bool true)).setCell ⟨s, 32, none⟩ (.int .u32 x)).setCell ⟨s, 33, none⟩ (.int .u32 v))) :=
    ⟨hs3, (((Keeps.refl (· = s) w2).setCell _ _ fun _ => rfl).setCell _ _ fun _ => rfl).setCell _ _ fun _ => rfl⟩
  have HP := put_any s v { T with rd := true, addr := x, val := v } _ hs3 (by rw [ev]; exact rg_lt _)
  replace HP : Hid (Calls _ _ _ _ _) := HP
  have HF : Hid (Far w w2 s tb cb g n cs T xs l2 s2 FT FC F1 C1) := hF
  clear hM hM2 hF hs3 ev HR HI HB eu2 eu3 eu4
  go_wp2_with fail
  refine HRd.out.mono ?_
  rintro e w2' ⟨rfl, hw⟩
  obtain rfl := hw.symm
  clear hw
  go_wp2_with fail
  refine HP.out.mono ?_
  rintro e w3 ⟨rfl, h3, hK3⟩
  have HE : Hid (Moved w w3 s tb cb g n cs FT FC (t.loaded (t.cost + rcW ls x + Ch.cost (P / 4) st) (xs.getD P 0)) xs l2 s2) := by
    refine HF.out.on (HF.out.env.turned ?_ (HS3.out.2.trans hK3 fun _ _ h => h) ?_ ?_)
    · rw [Hv.out, UInt32.ofNat_toNat, HT.out] at h3
      rw [show x = t.x from Hx.out.1] at h3 ⊢
      exact h3
    · rw [HT.out]; rfl
    · rw [HT.out]; rfl
  clear h3 hK3 HP HS3 c1 c2 c3 c4 f2 f3 f4 HRd
  go_wp2
  go_ret
  exact ⟨rfl, HE.out⟩

set_option maxHeartbeats 4000000 in
theorem store_yes (s tb cb g n P : Nat) (cs : List Value) (t : Sp) (xs : List UInt32) (ls : List Tl.Lf) (st : Nat → List Int) (FT FC : Nat → Prop) (w : World) (h : Env w s tb cb g n cs t xs ls st FT FC) (hq : 0 ≤ t.cost ∧ t.cost ≤ 900) (hn : rcP n xs t.root ls t.x 2 = some P) :
    Calls Tryz.prog 137 #[ptr s] w fun e w' => e = .returned (.int .i64 0) ∧ Moved w w' s tb cb g n cs FT FC (t.pay (t.cost + rcW ls t.x + Ch.cost (P / 4) st)) (lay xs P [t.rg.getD t.a 0]) (rcL n xs t.root ls t.x) (Ch.step (P / 4) st) := by
  have hlt : P < xs.length := by rw [h.mn.len]; exact rcP_lt h.good hn
  have HB : Hid (Calls _ _ _ _ _) := rb_any s t w h.sp
  have HI : Hid (∀ k, Calls Tryz.prog 185 _ (w.drewN k) _) := fun k => imm_any s t (w.drewN k) (h.sp.drewN k)
  have HR := fun k => reach_any s tb cb g n t.x 2 cs t xs ls st FT FC (w.drewN k) (h.grown ((Keeps.refl (fun _ => False) w).drewN k)) (wd_lt _) hq
  rw [hn] at HR
  have hx : (t.x : Int) = ((t.rg.getD t.b 0).toNat + wd t.imm : Int) % 4294967296 := wd_cast _
  obtain ⟨x, ex⟩ : ∃ x, x = t.x := ⟨_, rfl⟩
  have Hx : Hid (x = t.x ∧ x < 4294967296) := ⟨ex, by rw [ex]; exact wd_lt _⟩
  rw [← ex] at HR hx ⊢
  obtain ⟨T, eT⟩ : ∃ T, T = t.pay (t.cost + rcW ls x + Ch.cost (P / 4) st) := ⟨_, rfl⟩
  have HT : Hid (T = t.pay (t.cost + rcW ls x + Ch.cost (P / 4) st)) := eT
  obtain ⟨l2, el⟩ : ∃ l2, l2 = rcL n xs t.root ls x := ⟨_, rfl⟩
  obtain ⟨s2, es⟩ : ∃ s2, s2 = Ch.step (P / 4) st := ⟨_, rfl⟩
  replace HR : Hid (∀ k, Calls Tryz.prog 91 #[ptr s, .int .u32 x, .int .i64 2] (w.drewN k) fun e w' => e = .returned (.tuple #[.int .i64 P, .bool true]) ∧ Moved (w.drewN k) w' s tb cb g n cs FT FC T xs l2 s2) := by rw [eT, el, es]; exact HR
  rw [← el, ← es]
  obtain ⟨b, eb⟩ : ∃ b, b = (t.rg.getD t.b 0).toNat := ⟨_, rfl⟩
  obtain ⟨i, ei⟩ : ∃ i, i = wd t.imm := ⟨_, rfl⟩
  rw [← eb] at HB hx
  rw [← ei] at HI hx
  have HX : Hid ((x : Int) = ((b : Int) + i) % 4294967296) := hx
  obtain ⟨m, em⟩ : ∃ m, m = T.m := ⟨_, rfl⟩
  have Hm : Hid (m = T.m) := em
  have HL : Hid (P < xs.length) := hlt
  clear h hq hn hx ex eT el eb ei es em hlt
  go_enter Tryz.func137, Tryz.ntmps137
  go_wp2_with fail
  refine HB.out.mono ?_
  rintro e w1 ⟨rfl, k, rfl⟩
  go_wp2_with fail
  refine (HI.out k).mono ?_
  rintro e w1 ⟨rfl, k2, rfl⟩
  rw [World.drewN_drewN]
  go_wp2_with fail
  rw [← HX.out]
  refine (HR.out _).mono ?_
  rintro e w2 ⟨rfl, hM⟩
  have hM2 : Moved w w2 s tb cb g n cs FT FC T xs l2 s2 := by
    obtain ⟨F1, C1, e, a1, a2, a3⟩ := hM
    exact ⟨F1, C1, e, a1, a2, a3.fromDrewN⟩
  obtain ⟨F1, C1, hF⟩ := hM2.far
  have c1 : w2.cell? ⟨s, 18, none⟩ = some (ptr m) := by rw [Hm.out]; exact hF.env.sp.get 2 rfl
  have HA : Hid (Quiet 188 #[ptr s] (.int .u32 ((T.rg.getD T.a 0).toNat : Int)) w2) := quiet_of fun k => ra_any s T (w2.drewN k) (hF.env.sp.drewN k)
  have HW := fun k => write_in T.m g xs P (T.rg.getD T.a 0) (w2.drewN k) (hF.env.mn.grown ((Keeps.refl (fun _ => False) w2).drewN k)).mm HL.out
  rw [← Hm.out] at HW
  have Hv : Hid (T.rg.getD T.a 0 = t.rg.getD t.a 0) := by show _ = _; rw [HT.out]; rfl
  obtain ⟨v, ev⟩ : ∃ v, v = T.rg.getD T.a 0 := ⟨_, rfl⟩
  rw [← ev] at HW HA Hv
  obtain ⟨y, ey⟩ : ∃ y, y = v.toNat := ⟨_, rfl⟩
  rw [← ey] at HW HA
  replace HW : Hid (∀ k, Calls Tryz.prog 15 #[ptr m, .int .i64 P, .int .u32 y] (w2.drewN k) fun e w' => e = .returned (.int .i64 0) ∧ Mm w' m g (lay xs P [v]) ∧ Keeps (· = g) (w2.drewN k) w') := HW
  have HF : Hid (Far w w2 s tb cb g n cs T xs l2 s2 FT FC F1 C1) := hF
  clear hM hM2 hF ev ey HR HI HB
  go_wp2_with fail
  have hS : w2.cell? ⟨s, 18, none⟩ = some (ptr m) := c1
  go_region_held3 (fun w' => w'.cell? ⟨s, 18, none⟩ = some (ptr m)) (first | exact hS | exact hS3 | go_keep)
    (first
      | (go_at_call 188; refine (HA.out.at 1).mono ?_; rintro e w3 ⟨rfl, k3, rfl⟩; have hS2 : (w2.drewN k3).cell? ⟨s, 18, none⟩ = some (ptr m) := c1)
      | (go_at_call 15; refine (HW.out _).mono ?_; rintro e w4 ⟨rfl, hM4, hK4⟩; have hS3 : w4.cell? ⟨s, 18, none⟩ = some (ptr m) := Ch.cell_kept c1 hK4.fromDrewN HF.out.env.sg; have H4 : Hid (Mm w4 m g (lay xs P [v]) ∧ Keeps (· = g) w2 w4) := ⟨hM4, hK4.fromDrewN⟩; clear hM4 hK4))
  have HE : Hid (Moved w w4 s tb cb g n cs FT FC (t.pay (t.cost + rcW ls x + Ch.cost (P / 4) st)) (lay xs P [t.rg.getD t.a 0]) l2 s2) := by
    obtain ⟨hM4, hK4⟩ := H4.out
    rw [← HT.out, ← Hv.out]
    rw [Hm.out] at hM4
    exact HF.out.on (HF.out.env.written hM4 (lay_length _ _ _ (by have := HL.out; simp; omega)) hK4)
  clear HW HA c1 hS3
  go_wp2
  go_ret
  exact ⟨rfl, HE.out⟩

end Go.Proofs.YtipejahmjdamjaaGreatDoor
