import Derived.Test.YtipejahmjdamjaaGreatDoorCg
namespace Go.Proofs.YtipejahmjdamjaaGreatDoor
open Go.RowKit Go.Shelf
set_option linter.unusedVariables false
set_option maxRecDepth 6000

theorem leaf_any (s tb cb g n p : Nat) (cs : List Value) (t : Sp) (xs : List UInt32) (ls : List Tl.Lf) (st : Nat → List Int) (FT FC : Nat → Prop) (w : World) (h : Env w s tb cb g n cs t xs ls st FT FC) (hp : p < 256) (hq : 0 ≤ t.cost ∧ t.cost ≤ 1000) :
    Calls Tryz.prog 126 #[ptr s, .int .i64 p] w fun e w' => e = .returned (.tuple #[((trL n xs t.root ls p).getD Tl.Lf.none).v, .bool (trL n xs t.root ls p).isSome]) ∧ Moved w w' s tb cb g n cs FT FC { t with cost := t.cost + trC ls p } xs (trS n xs t.root ls p) st := by
  cases hx : Tl.findT p ls with
  | some x =>
    have := leaf_known s tb cb g n p cs t xs ls st FT FC w h hp x hx
    rw [show trL n xs t.root ls p = some x by unfold trL; rw [hx], show trS n xs t.root ls p = Tl.touchT p ls by unfold trS; rw [hx], show t.cost + trC ls p = t.cost by unfold trC; rw [hx]; simp]
    exact this
  | none =>
    rw [show t.cost + trC ls p = t.cost + 6 by unfold trC; rw [hx]; simp]
    by_cases hw : walkE n xs t.root p = 0
    · have := leaf_new s tb cb g n p cs t xs ls st FT FC w h hp hx hq hw
      rw [show trL n xs t.root ls p = some (toT (walkL n xs t.root p)) by unfold trL; rw [hx]; exact if_pos hw, show trS n xs t.root ls p = Tl.putT (toT (walkL n xs t.root p)) ls by unfold trS; rw [hx]; exact if_pos hw]
      exact this
    · have := leaf_none s tb cb g n p cs t xs ls st FT FC w h hp hx hq hw
      rw [show trL n xs t.root ls p = none by unfold trL; rw [hx]; exact if_neg hw, show trS n xs t.root ls p = ls by unfold trS; rw [hx]; exact if_neg hw]
      exact this

/-- Does a leaf give a right? -/
def okR (r right : Int) : Bool := !(bits .and .i64 r right == 0)

theorem reach_far (s a : Nat) (right : Int) (w : World) (ha : 4096 ≤ a) (hb : a < 4294967296) : Calls Tryz.prog 91 #[ptr s, .int .u32 a, .int .i64 right] w fun e w' => e = .returned (.tuple #[.int .i64 0, .bool false]) ∧ w' = w := by
  have g1 : decide ((4096 : Int) ≤ a) = true := decide_eq_true (by omega)
  go_enter Tryz.func91, Tryz.ntmps91
  go_wp2
  go_ret2
  exact ⟨rfl, rfl⟩

set_option maxHeartbeats 4000000 in
theorem reach_no (s tb cb g n a : Nat) (right : Int) (cs : List Value) (t : Sp) (xs : List UInt32) (ls : List Tl.Lf) (st : Nat → List Int) (FT FC : Nat → Prop) (w : World) (h : Env w s tb cb g n cs t xs ls st FT FC) (ha : a < 4096) (hq : 0 ≤ t.cost ∧ t.cost ≤ 1000)
    (hn : ∀ l, trL n xs t.root ls (a / 16) = some l → ¬ (l.f < n ∧ okR l.r right = true)) :
    Calls Tryz.prog 91 #[ptr s, .int .u32 a, .int .i64 right] w fun e w' => e = .returned (.tuple #[.int .i64 0, .bool false]) ∧ Moved w w' s tb cb g n cs FT FC { t with cost := t.cost + trC ls (a / 16) } xs (trS n xs t.root ls (a / 16)) st := by
  have HC := leaf_any s tb cb g n (a / 16) cs t xs ls st FT FC w h (by omega) hq
  obtain ⟨T, eT⟩ : ∃ T : Sp, T = { t with cost := t.cost + trC ls (a / 16) } := ⟨_, rfl⟩
  have HT : Hid (T = { t with cost := t.cost + trC ls (a / 16) }) := eT
  rw [← eT] at HC ⊢
  have HG : Hid (∀ l, trL n xs t.root ls (a / 16) = some l → Tl.mayB l = true) := fun l hl => trL_good h.good hl
  obtain ⟨O, eO⟩ : ∃ O, O = trL n xs t.root ls (a / 16) := ⟨_, rfl⟩
  obtain ⟨l2, eS⟩ : ∃ l2, l2 = trS n xs t.root ls (a / 16) := ⟨_, rfl⟩
  rw [← eO] at HC hn HG
  rw [← eS] at HC ⊢
  rw [show ((a / 16 : Nat) : Int) = (a : Int) / 16 by omega] at HC
  have g1 : decide ((4096 : Int) ≤ a) = false := decide_eq_false (by omega)
  have hb : (a : Int) < 4096 := by omega
  have HM : Hid (t.m = T.m) := by show _ = _; rw [HT.out]
  clear h hq eT eO eS ha
  cases O with
  | none =>
    have HC : Hid (Calls Tryz.prog 126 #[ptr s, .int .i64 ((a : Int) / 16)] w fun e w' => e = .returned (.tuple #[Tl.Lf.none.v, .bool false]) ∧ Moved w w' s tb cb g n cs FT FC T xs l2 st) := HC
    clear hn
    go_enter Tryz.func91, Tryz.ntmps91
    go_wp2_with fail
    refine HC.out.mono ?_
    rintro e w1 ⟨rfl, hM⟩
    have HM : Hid (Moved w w1 s tb cb g n cs FT FC T xs l2 st) := hM
    clear hM HC
    go_wp2_with fail
    go_quiet (fail)
    go_wp2
    go_ret2
    obtain ⟨F1, C1, hF⟩ := HM.out.far
    exact ⟨rfl, (hF.grown (((Keeps.refl (fun _ => False) w1).alloc _).drewN _)).moved⟩
  | some l =>
    obtain ⟨m, em⟩ : ∃ m, m = T.m := ⟨_, rfl⟩
    have HMm : Hid (m = T.m) := em
    have hl := hn l rfl
    clear hn em HM
    have HC : Hid (Calls Tryz.prog 126 #[ptr s, .int .i64 ((a : Int) / 16)] w fun e w' => e = .returned (.tuple #[l.v, .bool true]) ∧ Moved w w' s tb cb g n cs FT FC T xs l2 st) := HC
    by_cases hf : l.f < n
    · have g2 : decide ((n : Int) ≤ l.f) = false := decide_eq_false (by omega)
      have g3 : (bits .and .i64 l.r right == 0) = true := by
        have : ¬ okR l.r right = true := fun e => hl ⟨hf, e⟩
        simpa [okR] using this
      clear hl hf
      go_enter Tryz.func91, Tryz.ntmps91
      go_wp2_with fail
      refine HC.out.mono ?_
      rintro e w1 ⟨rfl, hM⟩
      obtain ⟨F1, C1, hF⟩ := hM.far
      have c1 : (w1.alloc (.cells #[.int .i64 l.p, .int .i64 l.f, .int .i64 l.r] 64)).cell? ⟨s, 18, none⟩ = some (ptr m) := by rw [HMm.out]; exact (hF.env.grown ((Keeps.refl (fun _ => False) w1).alloc (.cells #[.int .i64 l.p, .int .i64 l.f, .int .i64 l.r] 64))).sp.get 2 rfl
      have HK : Hid (Quiet 34 #[ptr m] (.int .i64 n) (w1.alloc (.cells #[.int .i64 l.p, .int .i64 l.f, .int .i64 l.r] 64))) := by rw [HMm.out]; exact quiet_eq fun k => frames_any T.m g xs n _ ((hF.env.mn.grown ((Keeps.refl (fun _ => False) w1).alloc (.cells #[.int .i64 l.p, .int .i64 l.f, .int .i64 l.r] 64))).grown ((Keeps.refl (fun _ => False) _).drewN k)).mm hF.env.mn.len
      have HF : Hid (Far w w1 s tb cb g n cs T xs l2 st FT FC F1 C1) := hF
      clear hM HC hF
      go_wp2_with fail
      go_quiet (first | exact HK.out.at _)
      go_wp2
      go_ret2
      exact ⟨rfl, (HF.out.grown (((Keeps.refl (fun _ => False) w1).alloc _).drewN _)).moved⟩
    · have g2 : decide ((n : Int) ≤ l.f) = true := decide_eq_true (by omega)
      clear hl hf
      go_enter Tryz.func91, Tryz.ntmps91
      go_wp2_with fail
      refine HC.out.mono ?_
      rintro e w1 ⟨rfl, hM⟩
      obtain ⟨F1, C1, hF⟩ := hM.far
      have c1 : (w1.alloc (.cells #[.int .i64 l.p, .int .i64 l.f, .int .i64 l.r] 64)).cell? ⟨s, 18, none⟩ = some (ptr m) := by rw [HMm.out]; exact (hF.env.grown ((Keeps.refl (fun _ => False) w1).alloc (.cells #[.int .i64 l.p, .int .i64 l.f, .int .i64 l.r] 64))).sp.get 2 rfl
      have HK : Hid (Quiet 34 #[ptr m] (.int .i64 n) (w1.alloc (.cells #[.int .i64 l.p, .int .i64 l.f, .int .i64 l.r] 64))) := by rw [HMm.out]; exact quiet_eq fun k => frames_any T.m g xs n _ ((hF.env.mn.grown ((Keeps.refl (fun _ => False) w1).alloc (.cells #[.int .i64 l.p, .int .i64 l.f, .int .i64 l.r] 64))).grown ((Keeps.refl (fun _ => False) _).drewN k)).mm hF.env.mn.len
      have HF : Hid (Far w w1 s tb cb g n cs T xs l2 st FT FC F1 C1) := hF
      clear hM HC hF
      go_wp2_with fail
      go_quiet (first | exact HK.out.at _)
      go_wp2
      go_ret2
      exact ⟨rfl, (HF.out.grown (((Keeps.refl (fun _ => False) w1).alloc _).drewN _)).moved⟩

set_option maxHeartbeats 4000000 in
theorem reach_yes (s tb cb g n a f : Nat) (right : Int) (cs : List Value) (t : Sp) (xs : List UInt32) (ls : List Tl.Lf) (st : Nat → List Int) (FT FC : Nat → Prop) (w : World) (h : Env w s tb cb g n cs t xs ls st FT FC) (ha : a < 4096) (hq : 0 ≤ t.cost ∧ t.cost ≤ 900)
    (l : Tl.Lf) (hl : trL n xs t.root ls (a / 16) = some l) (hf : l.f = f) (hn : f < n) (hr : okR l.r right = true) :
    Calls Tryz.prog 91 #[ptr s, .int .u32 a, .int .i64 right] w fun e w' => e = .returned (.tuple #[.int .i64 (16 * f + a % 16 : Nat), .bool true]) ∧
      Moved w w' s tb cb g n cs FT FC { t with cost := t.cost + trC ls (a / 16) + Ch.cost ((16 * f + a % 16) / 4) st } xs (trS n xs t.root ls (a / 16)) (Ch.step ((16 * f + a % 16) / 4) st) := by
  have HC := leaf_any s tb cb g n (a / 16) cs t xs ls st FT FC w h (by omega) ⟨hq.1, by omega⟩
  have hn2 := h.mn.n_le
  have hcst : 0 ≤ t.cost + trC ls (a / 16) ∧ t.cost + trC ls (a / 16) ≤ 1000 := by unfold trC; split <;> omega
  have hch : 0 ≤ Ch.cost ((16 * f + a % 16) / 4) st ∧ Ch.cost ((16 * f + a % 16) / 4) st ≤ 7 := by unfold Ch.cost; split <;> omega
  obtain ⟨T, eT⟩ : ∃ T : Sp, T = { t with cost := t.cost + trC ls (a / 16) } := ⟨_, rfl⟩
  have HT : Hid (T = { t with cost := t.cost + trC ls (a / 16) }) := eT
  obtain ⟨q, eq⟩ : ∃ q, q = t.cost + trC ls (a / 16) := ⟨_, rfl⟩
  have Hq : Hid (q = T.cost) := by show _ = _; rw [eT, eq]
  have HU : Hid (∀ k : Int, { T with cost := k } = { t with cost := k }) := fun k => by rw [eT]
  rw [← eT, hl] at HC
  rw [← eq] at hcst ⊢
  obtain ⟨l2, eS⟩ : ∃ l2, l2 = trS n xs t.root ls (a / 16) := ⟨_, rfl⟩
  rw [← eS] at HC ⊢
  rw [show ((a / 16 : Nat) : Int) = (a : Int) / 16 by omega] at HC
  have g1 : decide ((4096 : Int) ≤ a) = false := decide_eq_false (by omega)
  have hb : (a : Int) < 4096 := by omega
  obtain ⟨m, em⟩ : ∃ m, m = T.m := ⟨_, rfl⟩
  have HMm : Hid (m = T.m) := em
  obtain ⟨c, ec⟩ : ∃ c, c = T.c := ⟨_, rfl⟩
  have HMc : Hid (c = T.c) := ec
  obtain ⟨P, eP⟩ : ∃ P, P = 16 * f + a % 16 := ⟨_, rfl⟩
  have HP : Hid (P < 16384 ∧ (P : Int) = (f : Int) * 16 + (a : Int) % 16) := ⟨by omega, by omega⟩
  rw [← eP] at hch ⊢
  obtain ⟨k, ek⟩ : ∃ k, k = Ch.cost (P / 4) st := ⟨_, rfl⟩
  have Hk : Hid (k = Ch.cost (P / 4) st) := ek
  rw [← ek] at hch ⊢
  obtain ⟨z1, z2⟩ := hch
  obtain ⟨z3, z4⟩ := hcst
  have hfn : (f : Int) < 1024 := by omega
  have g2 : decide (n ≤ f) = false := decide_eq_false (by omega)
  have g3 : (bits .and .i64 l.r right == 0) = false := by simpa [okR] using hr
  obtain ⟨lp, lf, lr⟩ := l
  obtain rfl : lf = f := hf
  replace HC : Hid (Calls Tryz.prog 126 #[ptr s, .int .i64 ((a : Int) / 16)] w fun e w' => e = .returned (.tuple #[.agg #[.int .i64 lp, .int .i64 f, .int .i64 lr], .bool true]) ∧ Moved w w' s tb cb g n cs FT FC T xs l2 st) := HC
  clear h hq eT eS ha em ec hl hn hr eP ek eq hn2
  go_enter Tryz.func91, Tryz.ntmps91
  go_wp2_with fail
  refine HC.out.mono ?_
  rintro e w1 ⟨rfl, hM⟩
  obtain ⟨F1, C1, hF⟩ := hM.far
  have c1 : (w1.alloc (.cells #[.int .i64 lp, .int .i64 f, .int .i64 lr] 64)).cell? ⟨s, 18, none⟩ = some (ptr m) := by rw [HMm.out]; exact (hF.env.grown ((Keeps.refl (fun _ => False) w1).alloc (.cells #[.int .i64 lp, .int .i64 f, .int .i64 lr] 64))).sp.get 2 rfl
  have HK : Hid (Quiet 34 #[ptr m] (.int .i64 n) (w1.alloc (.cells #[.int .i64 lp, .int .i64 f, .int .i64 lr] 64))) := by rw [HMm.out]; exact quiet_eq fun k => frames_any T.m g xs n _ ((hF.env.mn.grown ((Keeps.refl (fun _ => False) w1).alloc (.cells #[.int .i64 lp, .int .i64 f, .int .i64 lr] 64))).grown ((Keeps.refl (fun _ => False) _).drewN k)).mm hF.env.mn.len
  have HF : Hid (Far w w1 s tb cb g n cs T xs l2 st FT FC F1 C1) := hF
  clear hM HC hF
  go_wp2_with fail
  go_quiet (first | exact HK.out.at _)
  obtain ⟨W, hW⟩ : ∃ W, W = (w1.alloc (.cells #[.int .i64 lp, .int .i64 f, .int .i64 lr] 64)).drewN nq := ⟨_, rfl⟩
  have hFW := HF.out.grown (((Keeps.refl (fun _ => False) w1).alloc (.cells #[.int .i64 lp, .int .i64 f, .int .i64 lr] 64)).drewN nq)
  rw [← hW] at hFW ⊢
  have k1 : W.cell? ⟨w1.heap.size, 1, none⟩ = some (.int .i64 f) := by
    rw [hW]; exact (Blk.new w1 #[.int .i64 lp, .int .i64 f, .int .i64 lr] 64).cell rfl
  have k2 : W.cell? ⟨s, 17, none⟩ = some (ptr c) := by rw [HMc.out]; exact hFW.env.sp.get 1 rfl
  have k3 : W.cell? ⟨c, 18, none⟩ = some (ptr cb) := by rw [HMc.out]; exact hFW.env.core.cell hFW.env.h18
  have HTo : Hid (Calls Tryz.prog 127 #[ptr cb, .int .i64 P] W fun r w' => r = .returned (.tuple #[.int .i64 k, .int .i64 0]) ∧ Ch.NowC W w' cb (Ch.step (P / 4) st) C1) := by
    rw [Hk.out]; exact Ch.touch_any cb P st C1 W hFW.env.ca HP.out.1
  have HFW : Hid (Far w W s tb cb g n cs T xs l2 st FT FC F1 C1) := hFW
  clear hFW hW HK c1
  go_wp2_with fail
  rw [← HP.out.2]
  refine HTo.out.mono ?_
  rintro e w2 ⟨rfl, hN⟩
  obtain ⟨F2, C2, hF2⟩ := (HFW.out.on (HFW.out.env.touched hN)).far
  have k4 : w2.cell? ⟨s, 26, none⟩ = some (.int .i64 q) := by rw [Hq.out]; exact hF2.env.sp.get 10 rfl
  have k5 := hF2.env.sp.frozen 26
  have HE : Hid (Moved w (w2.setCell ⟨s, 26, none⟩ (.int .i64 (q + k))) s tb cb g n cs FT FC { T with cost := q + k } xs l2 (Ch.step (P / 4) st)) := hF2.on (hF2.env.paid _)
  rw [HU.out] at HE
  clear hF2 hN k1 k2 k3
  go_wp2
  go_ret2
  exact ⟨rfl, HE.out⟩

end Go.Proofs.YtipejahmjdamjaaGreatDoor
