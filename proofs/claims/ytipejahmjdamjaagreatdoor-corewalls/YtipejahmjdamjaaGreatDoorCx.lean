import Derived.Test.YtipejahmjdamjaaGreatDoorCw
namespace Go.Proofs.YtipejahmjdamjaaGreatDoor
open Go.RowKit Go.Shelf
set_option linter.unusedVariables false
set_option maxRecDepth 6000

set_option maxHeartbeats 4000000 in
theorem carry_fetch (s tb cb g n : Nat) (cs : List Value) (t : Sp) (xs : List UInt32) (ls : List Tl.Lf) (st : Nat → List Int) (FT FC : Nat → Prop) (w : World) (h : Env w s tb cb g n cs t xs ls st FT FC) (hq : 0 ≤ t.cost ∧ t.cost ≤ 900) (hp : t.pc < 4294967296) (hn : rcP n xs t.root ls t.pc 4 = none) :
    Calls Tryz.prog 57 #[ptr s] w fun e w' => e = .returned (.int .i64 1) ∧ Moved w w' s tb cb g n cs FT FC (t.pay (t.cost + rcW ls t.pc)) xs (rcL n xs t.root ls t.pc) st := by
  have c1 : w.cell? ⟨s, 16, none⟩ = some (.int .u32 t.pc) := h.sp.get 0 rfl
  have HR := reach_any s tb cb g n t.pc 4 cs t xs ls st FT FC w h hp hq
  rw [hn] at HR
  rw [show ({ t with cost := t.cost + rcW ls t.pc + toC none st } : Sp) = t.pay (t.cost + rcW ls t.pc) by simp [toC, Sp.pay]] at HR
  obtain ⟨x, ex⟩ : ∃ x, x = t.pc := ⟨_, rfl⟩
  rw [← ex] at HR c1 ⊢
  obtain ⟨T, eT⟩ : ∃ T, T = t.pay (t.cost + rcW ls x) := ⟨_, rfl⟩
  obtain ⟨l2, el⟩ : ∃ l2, l2 = rcL n xs t.root ls x := ⟨_, rfl⟩
  rw [← eT, ← el] at HR ⊢
  replace HR : Hid (Calls Tryz.prog 91 #[ptr s, .int .u32 x, .int .i64 4] w fun e w' => e = .returned (.tuple #[.int .i64 0, .bool false]) ∧ Moved w w' s tb cb g n cs FT FC T xs l2 st) := HR
  clear h hq hn ex eT el hp
  go_enter Tryz.func57, Tryz.ntmps57
  go_wp2_with fail
  refine HR.out.mono ?_
  rintro e w2 ⟨rfl, hM⟩
  have HM : Hid (Moved w w2 s tb cb g n cs FT FC T xs l2 st) := hM
  clear hM HR
  go_wp2
  go_ret
  exact ⟨rfl, HM.out⟩

theorem Env.worded {w : World} {s tb cb g n : Nat} {cs : List Value} {t : Sp} {xs : List UInt32} {ls : List Tl.Lf} {st : Nat → List Int} {FT FC : Nat → Prop} (h : Env w s tb cb g n cs t xs ls st FT FC) (x : Nat) :
    Moved w (w.setCell ⟨s, 30, none⟩ (.int .u32 x)) s tb cb g n cs FT FC { t with word := x } xs ls st :=
  h.turned (h.sp.set 14 _ _ rfl rfl h.sp.la h.sp.lb h.sp.ld) ((Keeps.refl _ w).setCell _ _ fun _ => rfl) rfl rfl

theorem Far.tabs {W w : World} {s tb cb g n : Nat} {cs : List Value} {t : Sp} {xs : List UInt32} {ls : List Tl.Lf} {st : Nat → List Int} {FT FC F1 F2 : Nat → Prop} (h : Far W w s tb cb g n cs t xs ls st FT FC F1 F2) (hT : Is.Tabs W) (h2 : ∀ k, (k = s ∨ k = g ∨ FT k ∨ FC k) → 2 ≤ k) : Is.Tabs w :=
  tabs_kept hT h.kp h2

set_option maxHeartbeats 4000000 in
theorem carry_word (s tb cb g n P : Nat) (cs : List Value) (t : Sp) (xs : List UInt32) (ls : List Tl.Lf) (st : Nat → List Int) (FT FC : Nat → Prop) (w : World) (h : Env w s tb cb g n cs t xs ls st FT FC) (hq : 0 ≤ t.cost ∧ t.cost ≤ 900) (hp : t.pc < 4294967296)
    (hT : Is.Tabs w) (h2 : ∀ k, (k = s ∨ k = g ∨ FT k ∨ FC k) → 2 ≤ k) (hn : rcP n xs t.root ls t.pc 4 = some P) (hd : Is.decOk (xs.getD P 0).toNat = false) :
    Calls Tryz.prog 57 #[ptr s] w fun e w' => e = .returned (.int .i64 2) ∧ Moved w w' s tb cb g n cs FT FC (t.fetched (t.cost + rcW ls t.pc + Ch.cost (P / 4) st) (xs.getD P 0).toNat) xs (rcL n xs t.root ls t.pc) (Ch.step (P / 4) st) := by
  have c1 : w.cell? ⟨s, 16, none⟩ = some (.int .u32 t.pc) := h.sp.get 0 rfl
  have hlt : P < xs.length := by rw [h.mn.len]; exact rcP_lt h.good hn
  have HR := reach_any s tb cb g n t.pc 4 cs t xs ls st FT FC w h hp hq
  rw [hn, show ({ t with cost := t.cost + rcW ls t.pc + toC (some P) st } : Sp) = t.pay (t.cost + rcW ls t.pc + Ch.cost (P / 4) st) from rfl] at HR
  obtain ⟨p, ep⟩ : ∃ p, p = t.pc := ⟨_, rfl⟩
  rw [← ep] at HR c1 ⊢
  obtain ⟨T, eT⟩ : ∃ T : Sp, T = t.pay (t.cost + rcW ls p + Ch.cost (P / 4) st) := ⟨_, rfl⟩
  have HT : Hid (∀ x : Nat, { T with word := x } = t.fetched (t.cost + rcW ls p + Ch.cost (P / 4) st) x) := fun x => by rw [eT]; rfl
  obtain ⟨l2, el⟩ : ∃ l2, l2 = rcL n xs t.root ls p := ⟨_, rfl⟩
  obtain ⟨s2, es⟩ : ∃ s2, s2 = Ch.step (P / 4) st := ⟨_, rfl⟩
  replace HR : Hid (Calls Tryz.prog 91 #[ptr s, .int .u32 p, .int .i64 4] w fun e w' => e = .returned (.tuple #[.int .i64 P, .bool true]) ∧ Moved w w' s tb cb g n cs FT FC T xs l2 s2) := by rw [eT, el, es]; exact HR
  rw [← el, ← es]
  obtain ⟨m, em⟩ : ∃ m, m = T.m := ⟨_, rfl⟩
  have Hm : Hid (m = T.m) := em
  have HL : Hid (P < xs.length ∧ Is.Tabs w ∧ ∀ k, (k = s ∨ k = g ∨ FT k ∨ FC k) → 2 ≤ k) := ⟨hlt, hT, h2⟩
  obtain ⟨x, ex⟩ : ∃ x, x = (xs.getD P 0).toNat := ⟨_, rfl⟩
  rw [← ex] at hd ⊢
  have Hx : Hid (x = (xs.getD P 0).toNat ∧ x < 4294967296) := ⟨ex, by rw [ex]; exact rg_lt _⟩
  have Hd : Hid (Is.decOk x = false) := hd
  clear h hq hn ep eT el es em hlt hT h2 ex hd hp
  go_enter Tryz.func57, Tryz.ntmps57
  go_wp2_with fail
  refine HR.out.mono ?_
  rintro e w1 ⟨rfl, hM⟩
  obtain ⟨F1, C1, hF⟩ := hM.far
  have c2 : w1.cell? ⟨s, 18, none⟩ = some (ptr m) := by rw [Hm.out]; exact hF.env.sp.get 2 rfl
  have c3 : w1.cell? ⟨s, 30, none⟩ = some (.int .u32 T.word) := hF.env.sp.get 14 rfl
  have f3 := hF.env.sp.frozen 30
  have HRd := read_in T.m g xs P w1 hF.env.mn.mm HL.out.1
  rw [← getD_toNat xs P HL.out.1, ← Hm.out, ← Hx.out.1] at HRd
  replace HRd : Hid (Calls Tryz.prog 36 #[ptr m, .int .i64 P] w1 fun e w' => e = .returned (.tuple #[.int .u32 x, .int .i64 0]) ∧ w' = w1) := HRd
  obtain ⟨F2, C2, hF2⟩ := (hF.on (hF.env.worded x)).far
  have HD := Is.dec_any x Hx.out.2 (w1.setCell ⟨s, 30, none⟩ (.int .u32 x)) (hF2.tabs HL.out.2.1 HL.out.2.2)
  rw [show Is.decV x = .agg #[.int .i64 0, .int .i64 0, .int .i64 0, .int .i64 0, .int .i64 0] by unfold Is.decV; rw [Hd.out]; rfl, show Is.decE x = 20 by unfold Is.decE; rw [Hd.out]; rfl] at HD
  replace HD : Hid (Calls Tryz.prog 92 #[.int .u32 x] (w1.setCell ⟨s, 30, none⟩ (.int .u32 x)) fun e w' => e = .returned (.tuple #[.agg #[.int .i64 0, .int .i64 0, .int .i64 0, .int .i64 0, .int .i64 0], .int .i64 20]) ∧ Below (w1.setCell ⟨s, 30, none⟩ (.int .u32 x)).heap.size (w1.setCell ⟨s, 30, none⟩ (.int .u32 x)) w') := HD
  have HF : Hid (Far w (w1.setCell ⟨s, 30, none⟩ (.int .u32 x)) s tb cb g n cs { T with word := x } xs l2 s2 FT FC F2 C2) := hF2
  obtain ⟨u, eu⟩ : ∃ u, u = T.word := ⟨_, rfl⟩
  rw [← eu] at c3
  clear hM HR hF hF2 c1 eu
  go_wp2_with fail
  refine HRd.out.mono ?_
  rintro e w1' ⟨rfl, hw⟩
  obtain rfl := hw.symm
  clear hw
  go_wp2_with fail
  refine HD.out.mono ?_
  rintro e w3 ⟨rfl, hB⟩
  have HE : Hid (Moved w (w3.alloc (.cells #[.int .i64 0, .int .i64 0, .int .i64 0, .int .i64 0, .int .i64 0] 111)) s tb cb g n cs FT FC { T with word := x } xs l2 s2) := (HF.out.grown ((keeps_of_below hB).alloc _)).moved
  rw [HT.out] at HE
  clear hB HD c2 c3 f3 HRd
  go_wp2
  go_ret
  exact ⟨rfl, HE.out⟩

end Go.Proofs.YtipejahmjdamjaaGreatDoor
