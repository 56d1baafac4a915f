import Derived.Test.YtipejahmjdamjaaGreatDoorCp
namespace Go.Proofs.YtipejahmjdamjaaGreatDoor
open Go.RowKit Go.Shelf
set_option linter.unusedVariables false
set_option maxRecDepth 6000

theorem reckon_no (s : Nat) (t : Sp) (w : World) (h : SpAt w s t) (hd : Al.doE t.op (t.rg.getD t.d 0).toNat ≠ 0) : Did 134 s t t 5 w := by
  have c1 : w.cell? ⟨s, 21, none⟩ = some (.int .i64 t.op) := h.get 5 rfl
  have HB : Hid (Quiet 184 #[ptr s] (.int .u32 ((t.rg.getD t.b 0).toNat : Int)) w) := quiet_of fun k => rb_any s t (w.drewN k) (h.drewN k)
  have HC : Hid (Quiet 187 #[ptr s] (.int .u32 ((t.rg.getD t.d 0).toNat : Int)) w) := quiet_of fun k => rc_any s t (w.drewN k) (h.drewN k)
  have HD : Hid (Quiet 186 #[.int .i64 t.op, .int .u32 ((t.rg.getD t.b 0).toNat : Int), .int .u32 ((t.rg.getD t.d 0).toNat : Int)] _ w) := quiet_eq fun k => Al.do_any t.op _ _ (w.drewN k) (rg_lt _) (rg_lt _)
  have HE : Hid (∀ k, SpAt (w.drewN k) s t ∧ Keeps (· = s) w (w.drewN k)) := fun k => ⟨h.drewN k, (Keeps.refl _ w).drewN k⟩
  have g1 : (Al.doE t.op (t.rg.getD t.d 0).toNat != 0) = true := by simpa using hd
  obtain ⟨b, eb⟩ : ∃ b, b = (t.rg.getD t.b 0).toNat := ⟨_, rfl⟩
  obtain ⟨d, ed⟩ : ∃ d, d = (t.rg.getD t.d 0).toNat := ⟨_, rfl⟩
  obtain ⟨o, eo⟩ : ∃ o, o = t.op := ⟨_, rfl⟩
  rw [← eb] at HB HD
  rw [← ed] at HC HD g1
  rw [← eo] at c1 HD g1
  obtain ⟨E, eE⟩ : ∃ E, E = Al.doE o d := ⟨_, rfl⟩
  obtain ⟨V, eV⟩ : ∃ V, V = Al.doW o b d := ⟨_, rfl⟩
  rw [← eE] at HD g1
  rw [← eV] at HD
  clear h hd eb ed eo eE eV
  unfold Did
  go_enter Tryz.func134, Tryz.ntmps134
  go_wp2_with fail
  go_quiet (first | exact HB.out.at _ | exact HC.out.at _ | exact HD.out.at _)
  go_wp2
  go_ret
  exact ⟨rfl, HE.out _⟩

theorem reckon_yes (s : Nat) (t : Sp) (w : World) (h : SpAt w s t) (hd : Al.doE t.op (t.rg.getD t.d 0).toNat = 0) (hw : Al.doW t.op (t.rg.getD t.b 0).toNat (t.rg.getD t.d 0).toNat < 4294967296) :
    Did 134 s t { t with rg := t.rg.set t.a (UInt32.ofNat (Al.doW t.op (t.rg.getD t.b 0).toNat (t.rg.getD t.d 0).toNat)) } 0 w := by
  have c1 : w.cell? ⟨s, 21, none⟩ = some (.int .i64 t.op) := h.get 5 rfl
  have HB : Hid (Quiet 184 #[ptr s] (.int .u32 ((t.rg.getD t.b 0).toNat : Int)) w) := quiet_of fun k => rb_any s t (w.drewN k) (h.drewN k)
  have HC : Hid (Quiet 187 #[ptr s] (.int .u32 ((t.rg.getD t.d 0).toNat : Int)) w) := quiet_of fun k => rc_any s t (w.drewN k) (h.drewN k)
  have HD : Hid (Quiet 186 #[.int .i64 t.op, .int .u32 ((t.rg.getD t.b 0).toNat : Int), .int .u32 ((t.rg.getD t.d 0).toNat : Int)] _ w) := quiet_eq fun k => Al.do_any t.op _ _ (w.drewN k) (rg_lt _) (rg_lt _)
  have HP : Hid (∀ k, Calls Tryz.prog 183 _ (w.drewN k) _) := fun k => put_any s (Al.doW t.op (t.rg.getD t.b 0).toNat (t.rg.getD t.d 0).toNat) t (w.drewN k) (h.drewN k) hw
  obtain ⟨T, eT⟩ : ∃ T : Sp, T = { t with rg := t.rg.set t.a (UInt32.ofNat (Al.doW t.op (t.rg.getD t.b 0).toNat (t.rg.getD t.d 0).toNat)) } := ⟨_, rfl⟩
  rw [← eT] at HP ⊢
  rw [hd] at HD
  obtain ⟨b, eb⟩ : ∃ b, b = (t.rg.getD t.b 0).toNat := ⟨_, rfl⟩
  obtain ⟨d, ed⟩ : ∃ d, d = (t.rg.getD t.d 0).toNat := ⟨_, rfl⟩
  obtain ⟨o, eo⟩ : ∃ o, o = t.op := ⟨_, rfl⟩
  rw [← eb] at HB HD HP
  rw [← ed] at HC HD HP
  rw [← eo] at c1 HD HP
  obtain ⟨V, eV⟩ : ∃ V, V = Al.doW o b d := ⟨_, rfl⟩
  rw [← eV] at HD HP
  clear h hd eb ed eo eV eT hw
  unfold Did
  go_enter Tryz.func134, Tryz.ntmps134
  go_wp2_with fail
  go_quiet (first | exact HB.out.at _ | exact HC.out.at _ | exact HD.out.at _)
  go_wp2_with fail
  refine (HP.out _).mono ?_
  rintro e w2 ⟨rfl, h2, hK⟩
  have HE : Hid (SpAt w2 s T ∧ Keeps (· = s) w w2) := ⟨h2, keeps_drewN_trans hK⟩
  clear h2 hK HP
  go_wp2
  go_ret
  exact ⟨rfl, HE.out⟩

theorem branch_did (s : Nat) (t : Sp) (w : World) (h : SpAt w s t) :
    Did 138 s t (if Al.takeV t.op (t.rg.getD t.a 0).toNat (t.rg.getD t.b 0).toNat then { t with pc := wd (t.apc + wd t.imm) } else t) 0 w := by
  have c1 : w.cell? ⟨s, 21, none⟩ = some (.int .i64 t.op) := h.get 5 rfl
  have HA : Hid (Quiet 188 #[ptr s] (.int .u32 ((t.rg.getD t.a 0).toNat : Int)) w) := quiet_of fun k => ra_any s t (w.drewN k) (h.drewN k)
  have HB : Hid (Quiet 184 #[ptr s] (.int .u32 ((t.rg.getD t.b 0).toNat : Int)) w) := quiet_of fun k => rb_any s t (w.drewN k) (h.drewN k)
  have HD : Hid (Quiet 189 #[.int .i64 t.op, .int .u32 ((t.rg.getD t.a 0).toNat : Int), .int .u32 ((t.rg.getD t.b 0).toNat : Int)] _ w) := quiet_eq fun k => Al.takes_any t.op _ _ (w.drewN k) (rg_lt _) (rg_lt _)
  have HW : Hid (∀ k, Calls Tryz.prog 191 _ (w.drewN k) _) := fun k => away_any s t (w.drewN k) (h.drewN k)
  have HG : Hid (∀ k, Calls Tryz.prog 190 _ (w.drewN k) _) := fun k => goOn_any s (wd (t.apc + wd t.imm)) t (w.drewN k) (h.drewN k)
  have HE : Hid (∀ k, SpAt (w.drewN k) s t ∧ Keeps (· = s) w (w.drewN k)) := fun k => ⟨h.drewN k, (Keeps.refl _ w).drewN k⟩
  obtain ⟨T, eT⟩ : ∃ T : Sp, T = { t with pc := wd (t.apc + wd t.imm) } := ⟨_, rfl⟩
  rw [← eT] at HG ⊢
  obtain ⟨p, ep⟩ : ∃ p, p = wd (t.apc + wd t.imm) := ⟨_, rfl⟩
  rw [← ep] at HG HW
  obtain ⟨a, ea⟩ : ∃ a, a = (t.rg.getD t.a 0).toNat := ⟨_, rfl⟩
  obtain ⟨b, eb⟩ : ∃ b, b = (t.rg.getD t.b 0).toNat := ⟨_, rfl⟩
  obtain ⟨o, eo⟩ : ∃ o, o = t.op := ⟨_, rfl⟩
  rw [← ea] at HA HD ⊢
  rw [← eb] at HB HD ⊢
  rw [← eo] at c1 HD ⊢
  obtain ⟨V, eV⟩ : ∃ V, V = Al.takeV o a b := ⟨_, rfl⟩
  obtain ⟨E, eE⟩ : ∃ E, E = Al.takeE o := ⟨_, rfl⟩
  rw [← eV] at HD ⊢
  rw [← eE] at HD
  clear h eb ea eo eV eT eE ep
  unfold Did
  cases V with
  | false =>
    go_enter Tryz.func138, Tryz.ntmps138
    go_wp2_with fail
    go_quiet (first | exact HA.out.at _ | exact HB.out.at _ | exact HD.out.at _)
    go_wp2
    go_ret
    exact ⟨rfl, HE.out _⟩
  | true =>
    go_enter Tryz.func138, Tryz.ntmps138
    go_wp2_with fail
    go_quiet (first | exact HA.out.at _ | exact HB.out.at _ | exact HD.out.at _)
    go_wp2_with fail
    refine (HW.out _).mono ?_
    rintro e w1 ⟨rfl, k, rfl⟩
    rw [World.drewN_drewN]
    go_wp2_with fail
    refine (HG.out _).mono ?_
    rintro e w2 ⟨rfl, h2, hK⟩
    have HZ : Hid (SpAt w2 s T ∧ Keeps (· = s) w w2) := ⟨h2, keeps_drewN_trans hK⟩
    clear h2 hK HG
    go_wp2
    go_ret
    exact ⟨rfl, HZ.out⟩

end Go.Proofs.YtipejahmjdamjaaGreatDoor
