import Derived.Test.YtipejahmjdamjaaGreatDoorCo
namespace Go.Proofs.YtipejahmjdamjaaGreatDoor
open Go.RowKit Go.Shelf
set_option linter.unusedVariables false
set_option maxRecDepth 6000

/-- What an operation beside the memory does: its trap, and the block behind it. -/
def Did (f s : Nat) (t t' : Sp) (trap : Nat) (w : World) : Prop := Calls Tryz.prog f #[ptr s] w fun e w' => e = .returned (.int .i64 trap) ∧ SpAt w' s t' ∧ Keeps (· = s) w w'

theorem keeps_drewN_trans {s : Nat} {w w2 : World} {k : Nat} (h : Keeps (· = s) (w.drewN k) w2) : Keeps (· = s) w w2 := ⟨h.os, h.tape, h.output, h.size, h.block⟩

theorem rg_lt (x : UInt32) : x.toNat < 4294967296 := x.toNat_lt

theorem nothing_did (s : Nat) (t : Sp) (w : World) (h : SpAt w s t) : Did 130 s t t 0 w := by
  have HS : Hid (SpAt w s t ∧ Keeps (· = s) w w) := ⟨h, Keeps.refl _ w⟩
  clear h
  unfold Did
  go_enter Tryz.func130, Tryz.ntmps130
  go_wp2
  go_ret
  exact ⟨rfl, HS.out⟩

theorem move_did (s : Nat) (t : Sp) (w : World) (h : SpAt w s t) : Did 131 s t { t with rg := t.rg.set t.a (t.rg.getD t.b 0) } 0 w := by
  have HB : Hid (Calls _ _ _ _ _) := rb_any s t w h
  have HP : Hid (∀ k, Calls Tryz.prog 183 _ (w.drewN k) _) := fun k => put_any s _ t (w.drewN k) (h.drewN k) (rg_lt (t.rg.getD t.b 0))
  rw [UInt32.ofNat_toNat] at HP
  obtain ⟨T, eT⟩ : ∃ T : Sp, T = { t with rg := t.rg.set t.a (t.rg.getD t.b 0) } := ⟨_, rfl⟩
  obtain ⟨v, ev⟩ : ∃ v, v = (t.rg.getD t.b 0).toNat := ⟨_, rfl⟩
  rw [← eT] at HP ⊢
  rw [← ev] at HP HB
  clear h eT ev
  unfold Did
  go_enter Tryz.func131, Tryz.ntmps131
  go_wp2_with fail
  refine HB.out.mono ?_
  rintro e w1 ⟨rfl, k, rfl⟩
  go_wp2_with fail
  refine (HP.out k).mono ?_
  rintro e w2 ⟨rfl, h2, hK⟩
  have HE : Hid (SpAt w2 s T ∧ Keeps (· = s) w w2) := ⟨h2, keeps_drewN_trans hK⟩
  clear h2 hK HP HB
  go_wp2
  go_ret
  exact ⟨rfl, HE.out⟩

theorem ofNat_wd (n : Int) : (wd n) < 4294967296 := wd_lt n

theorem low_did (s : Nat) (t : Sp) (w : World) (h : SpAt w s t) : Did 132 s t { t with rg := t.rg.set t.a (UInt32.ofNat (wd t.imm)) } 0 w := by
  have HB : Hid (Calls _ _ _ _ _) := imm_any s t w h
  have HP : Hid (∀ k, Calls Tryz.prog 183 _ (w.drewN k) _) := fun k => put_any s _ t (w.drewN k) (h.drewN k) (wd_lt t.imm)
  obtain ⟨T, eT⟩ : ∃ T : Sp, T = { t with rg := t.rg.set t.a (UInt32.ofNat (wd t.imm)) } := ⟨_, rfl⟩
  obtain ⟨v, ev⟩ : ∃ v, v = wd t.imm := ⟨_, rfl⟩
  rw [← eT] at HP ⊢
  rw [← ev] at HP HB
  clear h eT ev
  unfold Did
  go_enter Tryz.func132, Tryz.ntmps132
  go_wp2_with fail
  refine HB.out.mono ?_
  rintro e w1 ⟨rfl, k, rfl⟩
  go_wp2_with fail
  refine (HP.out k).mono ?_
  rintro e w2 ⟨rfl, h2, hK⟩
  have HE : Hid (SpAt w2 s T ∧ Keeps (· = s) w w2) := ⟨h2, keeps_drewN_trans hK⟩
  clear h2 hK HP
  go_wp2
  go_ret
  exact ⟨rfl, HE.out⟩

theorem high_did (s : Nat) (t : Sp) (w : World) (h : SpAt w s t) : Did 133 s t { t with rg := t.rg.set t.a (UInt32.ofNat (wd (wd t.imm * 16384))) } 0 w := by
  have HB : Hid (Calls _ _ _ _ _) := imm_any s t w h
  have HP : Hid (∀ k, Calls Tryz.prog 183 _ (w.drewN k) _) := fun k => put_any s _ t (w.drewN k) (h.drewN k) (wd_lt (wd t.imm * 16384))
  obtain ⟨T, eT⟩ : ∃ T : Sp, T = { t with rg := t.rg.set t.a (UInt32.ofNat (wd (wd t.imm * 16384))) } := ⟨_, rfl⟩
  rw [← eT] at HP ⊢
  obtain ⟨v, ev⟩ : ∃ v, v = wd t.imm := ⟨_, rfl⟩
  rw [← ev] at HP HB
  obtain ⟨u, eu⟩ : ∃ u, u = wd ((v : Int) * 16384) := ⟨_, rfl⟩
  rw [← eu] at HP
  have hu := wd_cast ((v : Int) * 16384)
  rw [← eu] at hu
  have HU : Hid ((u : Int) = (v : Int) * 16384 % 4294967296) := hu
  clear h eT ev eu hu
  unfold Did
  go_enter Tryz.func133, Tryz.ntmps133
  go_wp2_with fail
  refine HB.out.mono ?_
  rintro e w1 ⟨rfl, k, rfl⟩
  go_wp2_with fail
  rw [← HU.out]
  refine (HP.out k).mono ?_
  rintro e w2 ⟨rfl, h2, hK⟩
  have HE : Hid (SpAt w2 s T ∧ Keeps (· = s) w w2) := ⟨h2, keeps_drewN_trans hK⟩
  clear h2 hK HP
  go_wp2
  go_ret
  exact ⟨rfl, HE.out⟩

theorem addImm_did (s : Nat) (t : Sp) (w : World) (h : SpAt w s t) : Did 135 s t { t with rg := t.rg.set t.a (UInt32.ofNat (wd ((t.rg.getD t.b 0).toNat + wd t.imm))) } 0 w := by
  have HB : Hid (Calls _ _ _ _ _) := rb_any s t w h
  have HI : Hid (∀ k, Calls Tryz.prog 185 _ (w.drewN k) _) := fun k => imm_any s t (w.drewN k) (h.drewN k)
  have HP : Hid (∀ k, Calls Tryz.prog 183 _ (w.drewN k) _) := fun k => put_any s _ t (w.drewN k) (h.drewN k) (wd_lt ((t.rg.getD t.b 0).toNat + wd t.imm))
  obtain ⟨T, eT⟩ : ∃ T : Sp, T = { t with rg := t.rg.set t.a (UInt32.ofNat (wd ((t.rg.getD t.b 0).toNat + wd t.imm))) } := ⟨_, rfl⟩
  rw [← eT] at HP ⊢
  obtain ⟨v, ev⟩ : ∃ v, v = wd t.imm := ⟨_, rfl⟩
  obtain ⟨b, eb⟩ : ∃ b, b = (t.rg.getD t.b 0).toNat := ⟨_, rfl⟩
  rw [← ev] at HP HI
  rw [← eb] at HP HB
  obtain ⟨u, eu⟩ : ∃ u, u = wd ((b : Int) + v) := ⟨_, rfl⟩
  rw [← eu] at HP
  have hu := wd_cast ((b : Int) + v)
  rw [← eu] at hu
  have HU : Hid ((u : Int) = ((b : Int) + v) % 4294967296) := hu
  clear h eT ev eu hu eb
  unfold Did
  go_enter Tryz.func135, Tryz.ntmps135
  go_wp2_with fail
  refine HB.out.mono ?_
  rintro e w1 ⟨rfl, k, rfl⟩
  go_wp2_with fail
  refine (HI.out k).mono ?_
  rintro e w1 ⟨rfl, k2, rfl⟩
  rw [World.drewN_drewN]
  go_wp2_with fail
  rw [← HU.out]
  refine (HP.out _).mono ?_
  rintro e w2 ⟨rfl, h2, hK⟩
  have HE : Hid (SpAt w2 s T ∧ Keeps (· = s) w w2) := ⟨h2, keeps_drewN_trans hK⟩
  clear h2 hK HP
  go_wp2
  go_ret
  exact ⟨rfl, HE.out⟩

theorem cycles_did (s : Nat) (t : Sp) (w : World) (h : SpAt w s t) (hc : t.clock < 4294967296) : Did 142 s t { t with rg := t.rg.set t.a (UInt32.ofNat t.clock) } 0 w := by
  have c1 : w.cell? ⟨s, 20, none⟩ = some (.int .u32 t.clock) := h.get 4 rfl
  have HP : Hid (Calls Tryz.prog 183 _ w _) := put_any s _ t w h hc
  obtain ⟨T, eT⟩ : ∃ T : Sp, T = { t with rg := t.rg.set t.a (UInt32.ofNat t.clock) } := ⟨_, rfl⟩
  rw [← eT] at HP ⊢
  obtain ⟨v, ev⟩ : ∃ v, v = t.clock := ⟨_, rfl⟩
  rw [← ev] at HP c1
  clear h eT ev hc
  unfold Did
  go_enter Tryz.func142, Tryz.ntmps142
  go_wp2_with fail
  refine HP.out.mono ?_
  rintro e w2 ⟨rfl, h2, hK⟩
  have HE : Hid (SpAt w2 s T ∧ Keeps (· = s) w w2) := ⟨h2, hK⟩
  clear h2 hK HP
  go_wp2
  go_ret
  exact ⟨rfl, HE.out⟩

theorem jump_did (s : Nat) (t : Sp) (w : World) (h : SpAt w s t) : Did 139 s t { t with pc := wd (t.apc + wd t.imm) } 0 w := by
  have HB : Hid (Calls _ _ _ _ _) := away_any s t w h
  have HP : Hid (∀ k, Calls Tryz.prog 190 _ (w.drewN k) _) := fun k => goOn_any s (wd (t.apc + wd t.imm)) t (w.drewN k) (h.drewN k)
  obtain ⟨T, eT⟩ : ∃ T : Sp, T = { t with pc := wd (t.apc + wd t.imm) } := ⟨_, rfl⟩
  rw [← eT] at HP ⊢
  obtain ⟨v, ev⟩ : ∃ v, v = wd (t.apc + wd t.imm) := ⟨_, rfl⟩
  rw [← ev] at HP HB
  clear h eT ev
  unfold Did
  go_enter Tryz.func139, Tryz.ntmps139
  go_wp2_with fail
  refine HB.out.mono ?_
  rintro e w1 ⟨rfl, k, rfl⟩
  go_wp2_with fail
  refine (HP.out k).mono ?_
  rintro e w2 ⟨rfl, h2, hK⟩
  have HE : Hid (SpAt w2 s T ∧ Keeps (· = s) w w2) := ⟨h2, keeps_drewN_trans hK⟩
  clear h2 hK HP
  go_wp2
  go_ret
  exact ⟨rfl, HE.out⟩

theorem jumpR_did (s : Nat) (t : Sp) (w : World) (h : SpAt w s t) : Did 141 s t { t with pc := (t.rg.getD t.a 0).toNat } 0 w := by
  have HB : Hid (Calls _ _ _ _ _) := ra_any s t w h
  have HP : Hid (∀ k, Calls Tryz.prog 190 _ (w.drewN k) _) := fun k => goOn_any s (t.rg.getD t.a 0).toNat t (w.drewN k) (h.drewN k)
  obtain ⟨T, eT⟩ : ∃ T : Sp, T = { t with pc := (t.rg.getD t.a 0).toNat } := ⟨_, rfl⟩
  rw [← eT] at HP ⊢
  obtain ⟨v, ev⟩ : ∃ v, v = (t.rg.getD t.a 0).toNat := ⟨_, rfl⟩
  rw [← ev] at HP HB
  clear h eT ev
  unfold Did
  go_enter Tryz.func141, Tryz.ntmps141
  go_wp2_with fail
  refine HB.out.mono ?_
  rintro e w1 ⟨rfl, k, rfl⟩
  go_wp2_with fail
  refine (HP.out k).mono ?_
  rintro e w2 ⟨rfl, h2, hK⟩
  have HE : Hid (SpAt w2 s T ∧ Keeps (· = s) w w2) := ⟨h2, keeps_drewN_trans hK⟩
  clear h2 hK HP
  go_wp2
  go_ret
  exact ⟨rfl, HE.out⟩

theorem jumpL_walk (s u v p : Nat) (T1 T : Sp) (w : World) (c1 : w.cell? ⟨s, 29, none⟩ = some (.int .u32 p)) (HU : Hid ((u : Int) = ((p : Int) + 1) % 4294967296))
    (HP : Hid (Calls Tryz.prog 183 #[ptr s, .int .u32 u] w fun e w' => e = .returned (.int .i64 0) ∧ SpAt w' s T1 ∧ Keeps (· = s) w w'))
    (HA : Hid (∀ w1, SpAt w1 s T1 → Calls Tryz.prog 191 #[ptr s] w1 fun e w' => e = .returned (.int .u32 v) ∧ ∃ k, w' = w1.drewN k))
    (HG : Hid (∀ w1, SpAt w1 s T1 → Calls Tryz.prog 190 #[ptr s, .int .u32 v] w1 fun e w' => e = .returned (.int .i64 0) ∧ SpAt w' s T ∧ Keeps (· = s) w1 w')) :
    Calls Tryz.prog 140 #[ptr s] w fun e w' => e = .returned (.int .i64 0) ∧ SpAt w' s T ∧ Keeps (· = s) w w' := by
  go_enter Tryz.func140, Tryz.ntmps140
  go_wp2_with fail
  rw [← HU.out]
  refine HP.out.mono ?_
  rintro e w1 ⟨rfl, h1, hK1⟩
  have H1 : Hid (SpAt w1 s T1 ∧ Keeps (· = s) w w1) := ⟨h1, hK1⟩
  clear h1 hK1 c1
  go_wp2_with fail
  refine (HA.out _ H1.out.1).mono ?_
  rintro e w1' ⟨rfl, k, rfl⟩
  go_wp2_with fail
  refine (HG.out _ (H1.out.1.drewN k)).mono ?_
  rintro e w2 ⟨rfl, h2, hK⟩
  have HE : Hid (SpAt w2 s T ∧ Keeps (· = s) w w2) := ⟨h2, H1.out.2.trans (keeps_drewN_trans hK) fun _ _ h => h⟩
  clear h2 hK HP
  go_wp2
  go_ret
  exact ⟨rfl, HE.out⟩

theorem jumpL_did (s : Nat) (t : Sp) (w : World) (h : SpAt w s t) : Did 140 s t { t with rg := t.rg.set t.a (UInt32.ofNat (wd (t.apc + 1))), pc := wd (t.apc + wd t.imm) } 0 w :=
  jumpL_walk s (wd (t.apc + 1)) (wd (t.apc + wd t.imm)) t.apc { t with rg := t.rg.set t.a (UInt32.ofNat (wd (t.apc + 1))) } _ w (h.get 13 rfl) (wd_cast _) (put_any s _ t w h (wd_lt _))
    (fun w1 h1 => away_any s { t with rg := t.rg.set t.a (UInt32.ofNat (wd (t.apc + 1))) } w1 h1) (fun w1 h1 => goOn_any s _ { t with rg := t.rg.set t.a (UInt32.ofNat (wd (t.apc + 1))) } w1 h1)

theorem call_no (s : Nat) (t : Sp) (w : World) (h : SpAt w s t) (hi : ¬ (0 ≤ t.imm ∧ t.imm < 8)) : Did 143 s t t 6 w := by
  have c1 : w.cell? ⟨s, 25, none⟩ = some (.int .i64 t.imm) := h.get 9 rfl
  have HE : Hid (SpAt w s t ∧ Keeps (· = s) w w) := ⟨h, Keeps.refl _ w⟩
  obtain ⟨v, ev⟩ : ∃ v, v = t.imm := ⟨_, rfl⟩
  rw [← ev] at c1 hi
  clear h ev
  unfold Did
  by_cases h0 : v < 0
  · have g1 : decide (v < 0) = true := decide_eq_true h0
    go_enter Tryz.func143, Tryz.ntmps143
    go_wp2
    go_ret
    exact ⟨rfl, HE.out⟩
  · have g1 : decide (v < 0) = false := decide_eq_false h0
    have g2 : decide (8 ≤ v) = true := decide_eq_true (by omega)
    go_enter Tryz.func143, Tryz.ntmps143
    go_wp2
    go_ret
    exact ⟨rfl, HE.out⟩

theorem call_yes (s : Nat) (t : Sp) (w : World) (h : SpAt w s t) (hi : 0 ≤ t.imm ∧ t.imm < 8) : Did 143 s t { t with call := t.imm } 0 w := by
  have c1 : w.cell? ⟨s, 25, none⟩ = some (.int .i64 t.imm) := h.get 9 rfl
  have c2 : w.cell? ⟨s, 28, none⟩ = some (.int .i64 t.call) := h.get 12 rfl
  have f2 := h.frozen 28
  have HE : Hid (SpAt (w.setCell ⟨s, 28, none⟩ (.int .i64 t.imm)) s { t with call := t.imm } ∧ Keeps (· = s) w (w.setCell ⟨s, 28, none⟩ (.int .i64 t.imm))) :=
    ⟨h.set 12 _ _ rfl rfl h.la h.lb h.ld, (Keeps.refl _ w).setCell _ _ fun _ => rfl⟩
  obtain ⟨T, eT⟩ : ∃ T : Sp, T = { t with call := t.imm } := ⟨_, rfl⟩
  rw [← eT] at HE ⊢
  obtain ⟨v, ev⟩ : ∃ v, v = t.imm := ⟨_, rfl⟩
  obtain ⟨u, eu⟩ : ∃ u, u = t.call := ⟨_, rfl⟩
  rw [← ev] at c1 hi HE
  rw [← eu] at c2
  have g1 : decide (v < 0) = false := decide_eq_false (by omega)
  have g2 : decide (8 ≤ v) = false := decide_eq_false (by omega)
  clear h ev eu eT hi
  unfold Did
  go_enter Tryz.func143, Tryz.ntmps143
  go_wp2
  go_ret
  exact ⟨rfl, HE.out⟩

end Go.Proofs.YtipejahmjdamjaaGreatDoor
namespace Go.Proofs.YtipejahmjdamjaaGreatDoor
open Go.RowKit Go.Shelf
set_option linter.unusedVariables false
set_option maxRecDepth 6000

theorem reckon_no (s : Nat) (t : Sp) (w : World) (h : SpAt w s t) (hd : Al.doE t.op (t.rg.getD t.d 0).toNat ≠ 0) : Did 134 s t t 5 w := by
  have c1 : w.cell? ⟨s, 21, none⟩ = some (.int .i64 t.op) := h.get 5 rfl
  have HB : Hid (Quiet 184 #[ptr s] (.int .u32 ((t.rg.getD t.b 0).toNat : Int)) w) := quiet_of fun k => rb_any s t (w.drewN k) (h.drewN k)
  have HC : Hid (Quiet 187 #[ptr s] (.int .u32 ((t.rg.getD t.d 0).toNat : Int)) w) := quiet_of fun k => rc_any s t (w.drewN k) (h.drewN k)
  have HD : Hid (Quiet 186 #[.int .i64 t.op, .int .u32 ((t.rg.getD t.b 0).toNat : Int), .int .u32 ((t.rg.getD t.d 0).toNat : Int)] _ w) := quiet_eq fun k => Al.do_any t.op _ _ (w.drewN k) (rg_lt _) (rg_lt _)
  have HE : Hid (∀ k, SpAt (w.drewN k) s t ∧ Keeps (· = s) w (w.drewN k)) := fun k => ⟨h.drewN k, (Keeps.refl _ w).drewN k⟩
  have g1 : (Al.doE t.op (t.rg.getD t.d 0).toNat != 0) = true := by simpa using hd
  obtain ⟨b, eb⟩ : ∃ b, b = (t.rg.getD t.b 0).toNat := ⟨_, rfl⟩
  obtain ⟨d, ed⟩ : ∃ d, d = (t.rg.getD t.d 0).toNat := ⟨_, rfl⟩
  obtain ⟨o, eo⟩ : ∃ o, o = t.op := ⟨_, rfl⟩
  rw [← eb] at HB HD
  rw [← ed] at HC HD g1
  rw [← eo] at c1 HD g1
  obtain ⟨E, eE⟩ : ∃ E, E = Al.doE o d := ⟨_, rfl⟩
  obtain ⟨V, eV⟩ : ∃ V, V = Al.doW o b d := ⟨_, rfl⟩
  rw [← eE] at HD g1
  rw [← eV] at HD
  clear h hd eb ed eo eE eV
  unfold Did
  go_enter Tryz.func134, Tryz.ntmps134
  go_wp2_with fail
  go_quiet (first | exact HB.out.at _ | exact HC.out.at _ | exact HD.out.at _)
  go_wp2
  go_ret
  exact ⟨rfl, HE.out _⟩

theorem reckon_yes (s : Nat) (t : Sp) (w : World) (h : SpAt w s t) (hd : Al.doE t.op (t.rg.getD t.d 0).toNat = 0) (hw : Al.doW t.op (t.rg.getD t.b 0).toNat (t.rg.getD t.d 0).toNat < 4294967296) :
    Did 134 s t { t with rg := t.rg.set t.a (UInt32.ofNat (Al.doW t.op (t.rg.getD t.b 0).toNat (t.rg.getD t.d 0).toNat)) } 0 w := by
  have c1 : w.cell? ⟨s, 21, none⟩ = some (.int .i64 t.op) := h.get 5 rfl
  have HB : Hid (Quiet 184 #[ptr s] (.int .u32 ((t.rg.getD t.b 0).toNat : Int)) w) := quiet_of fun k => rb_any s t (w.drewN k) (h.drewN k)
  have HC : Hid (Quiet 187 #[ptr s] (.int .u32 ((t.rg.getD t.d 0).toNat : Int)) w) := quiet_of fun k => rc_any s t (w.drewN k) (h.drewN k)
  have HD : Hid (Quiet 186 #[.int .i64 t.op, .int .u32 ((t.rg.getD t.b 0).toNat : Int), .int .u32 ((t.rg.getD t.d 0).toNat : Int)] _ w) := quiet_eq fun k => Al.do_any t.op _ _ (w.drewN k) (rg_lt _) (rg_lt _)
  have HP : Hid (∀ k, Calls Tryz.prog 183 _ (w.drewN k) _) := fun k => put_any s (Al.doW t.op (t.rg.getD t.b 0).toNat (t.rg.getD t.d 0).toNat) t (w.drewN k) (h.drewN k) hw
  obtain ⟨T, eT⟩ : ∃ T : Sp, T = { t with rg := t.rg.set t.a (UInt32.ofNat (Al.doW t.op (t.rg.getD t.b 0).toNat (t.rg.getD t.d 0).toNat)) } := ⟨_, rfl⟩
  rw [← eT] at HP ⊢
  rw [hd] at HD
  obtain ⟨b, eb⟩ : ∃ b, b = (t.rg.getD t.b 0).toNat := ⟨_, rfl⟩
  obtain ⟨d, ed⟩ : ∃ d, d = (t.rg.getD t.d 0).toNat := ⟨_, rfl⟩
  obtain ⟨o, eo⟩ : ∃ o, o = t.op := ⟨_, rfl⟩
  rw [← eb] at HB HD HP
  rw [← ed] at HC HD HP
  rw [← eo] at c1 HD HP
  obtain ⟨V, eV⟩ : ∃ V, V = Al.doW o b d := ⟨_, rfl⟩
  rw [← eV] at HD HP
  clear h hd eb ed eo eV eT hw
  unfold Did
  go_enter Tryz.func134, Tryz.ntmps134
  go_wp2_with fail
  go_quiet (first | exact HB.out.at _ | exact HC.out.at _ | exact HD.out.at _)
  go_wp2_with fail
  refine (HP.out _).mono ?_
  rintro e w2 ⟨rfl, h2, hK⟩
  have HE : Hid (SpAt w2 s T ∧ Keeps (· = s) w w2) := ⟨h2, keeps_drewN_trans hK⟩
  clear h2 hK HP
  go_wp2
  go_ret
  exact ⟨rfl, HE.out⟩

theorem branch_did (s : Nat) (t : Sp) (w : World) (h : SpAt w s t) :
    Did 138 s t (if Al.takeV t.op (t.rg.getD t.a 0).toNat (t.rg.getD t.b 0).toNat then { t with pc := wd (t.apc + wd t.imm) } else t) 0 w := by
  have c1 : w.cell? ⟨s, 21, none⟩ = some (.int .i64 t.op) := h.get 5 rfl
  have HA : Hid (Quiet 188 #[ptr s] (.int .u32 ((t.rg.getD t.a 0).toNat : Int)) w) := quiet_of fun k => ra_any s t (w.drewN k) (h.drewN k)
  have HB : Hid (Quiet 184 #[ptr s] (.int .u32 ((t.rg.getD t.b 0).toNat : Int)) w) := quiet_of fun k => rb_any s t (w.drewN k) (h.drewN k)
  have HD : Hid (Quiet 189 #[.int .i64 t.op, .int .u32 ((t.rg.getD t.a 0).toNat : Int), .int .u32 ((t.rg.getD t.b 0).toNat : Int)] _ w) := quiet_eq fun k => Al.takes_any t.op _ _ (w.drewN k) (rg_lt _) (rg_lt _)
  have HW : Hid (∀ k, Calls Tryz.prog 191 _ (w.drewN k) _) := fun k => away_any s t (w.drewN k) (h.drewN k)
  have HG : Hid (∀ k, Calls Tryz.prog 190 _ (w.drewN k) _) := fun k => goOn_any s (wd (t.apc + wd t.imm)) t (w.drewN k) (h.drewN k)
  have HE : Hid (∀ k, SpAt (w.drewN k) s t ∧ Keeps (· = s) w (w.drewN k)) := fun k => ⟨h.drewN k, (Keeps.refl _ w).drewN k⟩
  obtain ⟨T, eT⟩ : ∃ T : Sp, T = { t with pc := wd (t.apc + wd t.imm) } := ⟨_, rfl⟩
  rw [← eT] at HG ⊢
  obtain ⟨p, ep⟩ : ∃ p, p = wd (t.apc + wd t.imm) := ⟨_, rfl⟩
  rw [← ep] at HG HW
  obtain ⟨a, ea⟩ : ∃ a, a = (t.rg.getD t.a 0).toNat := ⟨_, rfl⟩
  obtain ⟨b, eb⟩ : ∃ b, b = (t.rg.getD t.b 0).toNat := ⟨_, rfl⟩
  obtain ⟨o, eo⟩ : ∃ o, o = t.op := ⟨_, rfl⟩
  rw [← ea] at HA HD ⊢
  rw [← eb] at HB HD ⊢
  rw [← eo] at c1 HD ⊢
  obtain ⟨V, eV⟩ : ∃ V, V = Al.takeV o a b := ⟨_, rfl⟩
  obtain ⟨E, eE⟩ : ∃ E, E = Al.takeE o := ⟨_, rfl⟩
  rw [← eV] at HD ⊢
  rw [← eE] at HD
  clear h eb ea eo eV eT eE ep
  unfold Did
  cases V with
  | false =>
    go_enter Tryz.func138, Tryz.ntmps138
    go_wp2_with fail
    go_quiet (first | exact HA.out.at _ | exact HB.out.at _ | exact HD.out.at _)
    go_wp2
    go_ret
    exact ⟨rfl, HE.out _⟩
  | true =>
    go_enter Tryz.func138, Tryz.ntmps138
    go_wp2_with fail
    go_quiet (first | exact HA.out.at _ | exact HB.out.at _ | exact HD.out.at _)
    go_wp2_with fail
    refine (HW.out _).mono ?_
    rintro e w1 ⟨rfl, k, rfl⟩
    rw [World.drewN_drewN]
    go_wp2_with fail
    refine (HG.out _).mono ?_
    rintro e w2 ⟨rfl, h2, hK⟩
    have HZ : Hid (SpAt w2 s T ∧ Keeps (· = s) w w2) := ⟨h2, keeps_drewN_trans hK⟩
    clear h2 hK HG
    go_wp2
    go_ret
    exact ⟨rfl, HZ.out⟩

end Go.Proofs.YtipejahmjdamjaaGreatDoor
