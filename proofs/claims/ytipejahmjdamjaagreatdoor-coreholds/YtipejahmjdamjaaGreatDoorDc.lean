import Derived.Test.YtipejahmjdamjaaGreatDoorCx
namespace Go.Proofs.YtipejahmjdamjaaGreatDoor
open Go.RowKit Go.Shelf
set_option linter.unusedVariables false
set_option maxRecDepth 6000

/-- The instruction and the next place are laid down. -/
theorem Far.decoded {W w : World} {s tb cb g n : Nat} {cs : List Value} {t : Sp} {xs : List UInt32} {ls : List Tl.Lf} {st : Nat → List Int} {FT FC F1 F2 : Nat → Prop} (h : Far W w s tb cb g n cs t xs ls st FT FC F1 F2) (O A B D q : Nat) (I : Int) (ha : A < 16) (hb : B < 16) (hd : D < 16) (p : Int) (hq : (q : Int) = p) :
    Far W ((((((w.setCell ⟨s, 21, none⟩ (.int .i64 O)).setCell ⟨s, 22, none⟩ (.int .i64 A)).setCell ⟨s, 23, none⟩ (.int .i64 B)).setCell ⟨s, 24, none⟩ (.int .i64 D)).setCell ⟨s, 25, none⟩ (.int .i64 I)).setCell ⟨s, 16, none⟩ (.int .u32 p)) s tb cb g n cs
      { t with op := O, a := A, b := B, d := D, imm := I, pc := q } xs ls st FT FC F1 F2 := by
  subst hq
  have h1 := h.env.sp.set 5 (.int .i64 O) { t with op := O } rfl rfl h.env.sp.la h.env.sp.lb h.env.sp.ld
  have h2 := h1.set 6 (.int .i64 A) { t with op := O, a := A } rfl rfl ha h.env.sp.lb h.env.sp.ld
  have h3 := h2.set 7 (.int .i64 B) { t with op := O, a := A, b := B } rfl rfl ha hb h.env.sp.ld
  have h4 := h3.set 8 (.int .i64 D) { t with op := O, a := A, b := B, d := D } rfl rfl ha hb hd
  have h5 := h4.set 9 (.int .i64 I) { t with op := O, a := A, b := B, d := D, imm := I } rfl rfl ha hb hd
  have h6 := h5.set 0 (.int .u32 q) { t with op := O, a := A, b := B, d := D, imm := I, pc := q } rfl rfl ha hb hd
  have hK : Keeps (· = s) w ((((((w.setCell ⟨s, 21, none⟩ (.int .i64 O)).setCell ⟨s, 22, none⟩ (.int .i64 A)).setCell ⟨s, 23, none⟩ (.int .i64 B)).setCell ⟨s, 24, none⟩ (.int .i64 D)).setCell ⟨s, 25, none⟩ (.int .i64 I)).setCell ⟨s, 16, none⟩ (.int .u32 q)) :=
    ((((((Keeps.refl (· = s) w).setCell _ _ fun _ => rfl).setCell _ _ fun _ => rfl).setCell _ _ fun _ => rfl).setCell _ _ fun _ => rfl).setCell _ _ fun _ => rfl).setCell _ _ fun _ => rfl
  have hE := h.env
  refine ⟨{ hE with sp := h6, core := hE.core.kept hK fun e => hE.sc e.symm, mn := hE.mn.kept hK (fun e => hE.sm e.symm) fun e => hE.sg e.symm, tl := hE.tl.kept hK fun k hk => (hE.ft k hk).1, ca := hE.ca.kept hK fun k hk => (hE.fc k hk).1 }, h.a1, h.a2, h.kp.trans hK fun _ _ e => .inl e⟩

theorem costOf_bd (k : Int) : 0 ≤ Is.costOf k ∧ Is.costOf k ≤ 24 := by
  have h : ∀ i : Nat, i < 31 → 0 ≤ Is.costAt i ∧ Is.costAt i ≤ 24 := by decide
  exact h _ (Is.rowOf_lt k)

theorem fnOf_in (k : Nat) : fnOf k = 130 ∨ fnOf k = 131 ∨ fnOf k = 132 ∨ fnOf k = 133 ∨ fnOf k = 134 ∨ fnOf k = 135 ∨ fnOf k = 136 ∨ fnOf k = 137 ∨ fnOf k = 138 ∨ fnOf k = 139 ∨ fnOf k = 140 ∨ fnOf k = 141 ∨ fnOf k = 142 ∨ fnOf k = 143 := by
  by_cases hk : k < 31
  · have : ∀ k, k < 31 → (fnOf k = 130 ∨ fnOf k = 131 ∨ fnOf k = 132 ∨ fnOf k = 133 ∨ fnOf k = 134 ∨ fnOf k = 135 ∨ fnOf k = 136 ∨ fnOf k = 137 ∨ fnOf k = 138 ∨ fnOf k = 139 ∨ fnOf k = 140 ∨ fnOf k = 141 ∨ fnOf k = 142 ∨ fnOf k = 143) := by decide
    exact this k hk
  · left
    unfold fnOf
    rw [if_neg (by omega), if_neg (by omega), if_neg (by omega), if_neg (by omega), if_neg (by omega), if_neg (by omega), if_neg (by omega), if_neg (by omega), if_neg (by omega), if_neg (by omega), if_neg (by omega), if_neg (by omega), if_neg (by omega)]

theorem call_enter {P : Program} {F : FuncId} {fn : Func} (hf : P.funcs[F]? = some fn) (hn : (fn.name == "runtime.NumGoroutine") = false) (hb : fn.body.isNone = false) (args : Array Value) (w : World) :
    (callFunc F args).run P w = .ok (.enter F args) w := by
  have hn' : ¬ fn.name = "runtime.NumGoroutine" := by simpa using hn
  have hb' : ¬ fn.body = none := fun e => by rw [e] at hb; cases hb
  simp [callFunc, go_sem, hf, hn', hb']

theorem fn_enter (k : Nat) : ∀ args w, (callFunc (fnOf k) args).run Tryz.prog w = .ok (.enter (fnOf k) args) w := by
  intro args w
  rcases fnOf_in k with h | h | h | h | h | h | h | h | h | h | h | h | h | h <;> rw [h]
  · exact call_enter Tryz.func130 (by kernel_rfl) (by kernel_rfl) args w
  · exact call_enter Tryz.func131 (by kernel_rfl) (by kernel_rfl) args w
  · exact call_enter Tryz.func132 (by kernel_rfl) (by kernel_rfl) args w
  · exact call_enter Tryz.func133 (by kernel_rfl) (by kernel_rfl) args w
  · exact call_enter Tryz.func134 (by kernel_rfl) (by kernel_rfl) args w
  · exact call_enter Tryz.func135 (by kernel_rfl) (by kernel_rfl) args w
  · exact call_enter Tryz.func136 (by kernel_rfl) (by kernel_rfl) args w
  · exact call_enter Tryz.func137 (by kernel_rfl) (by kernel_rfl) args w
  · exact call_enter Tryz.func138 (by kernel_rfl) (by kernel_rfl) args w
  · exact call_enter Tryz.func139 (by kernel_rfl) (by kernel_rfl) args w
  · exact call_enter Tryz.func140 (by kernel_rfl) (by kernel_rfl) args w
  · exact call_enter Tryz.func141 (by kernel_rfl) (by kernel_rfl) args w
  · exact call_enter Tryz.func142 (by kernel_rfl) (by kernel_rfl) args w
  · exact call_enter Tryz.func143 (by kernel_rfl) (by kernel_rfl) args w

set_option maxHeartbeats 16000000 in
theorem carry_op (s tb cb g n P : Nat) (cs : List Value) (t : Sp) (xs : List UInt32) (ls : List Tl.Lf) (st : Nat → List Int) (FT FC : Nat → Prop) (w : World) (h : Env w s tb cb g n cs t xs ls st FT FC) (hq : 0 ≤ t.cost ∧ t.cost ≤ 800) (hp : t.pc < 4294967296) (hc : t.clock < 4294967296)
    (hT : Is.Tabs w) (h2 : ∀ k, (k = s ∨ k = g ∨ FT k ∨ FC k) → 2 ≤ k) (hn : rcP n xs t.root ls t.pc 4 = some P) (hd : Is.decOk (xs.getD P 0).toNat = true) (r : Nat × Mc)
    (hr : r = opM n ⟨((t.fetched (t.cost + rcW ls t.pc + Ch.cost (P / 4) st) (xs.getD P 0).toNat).dec (xs.getD P 0).toNat).goes (wd (t.pc + 1)), xs, rcL n xs t.root ls t.pc, Ch.step (P / 4) st⟩)
    (hr2 : 0 ≤ r.2.t.cost ∧ r.2.t.cost ≤ 900) (hr3 : r.1 < 100) (hr4 : r.2.t.op = (Is.rdOp (xs.getD P 0).toNat).toNat) :
    Calls Tryz.prog 57 #[ptr s] w fun e w' => e = .returned (.int .i64 r.1) ∧ Moved w w' s tb cb g n cs FT FC (if r.1 = 0 then r.2.t.pay (r.2.t.cost + Is.costOf (Is.rdOp (xs.getD P 0).toNat)) else r.2.t) r.2.xs r.2.ls r.2.st := by
  have c1 : w.cell? ⟨s, 16, none⟩ = some (.int .u32 t.pc) := h.sp.get 0 rfl
  have hlt : P < xs.length := by rw [h.mn.len]; exact rcP_lt h.good hn
  have HR := reach_any s tb cb g n t.pc 4 cs t xs ls st FT FC w h hp ⟨hq.1, by omega⟩
  rw [hn, show ({ t with cost := t.cost + rcW ls t.pc + toC (some P) st } : Sp) = t.pay (t.cost + rcW ls t.pc + Ch.cost (P / 4) st) from rfl] at HR
  have hkb : 0 ≤ t.cost + rcW ls t.pc + Ch.cost (P / 4) st ∧ t.cost + rcW ls t.pc + Ch.cost (P / 4) st ≤ 900 := by
    have := rcW_bd ls t.pc
    have := toC_bd (some P) st
    simp only [toC] at this
    omega
  have hpc : t.pc < 4294967296 := hp
  obtain ⟨p, ep⟩ : ∃ p, p = t.pc := ⟨_, rfl⟩
  rw [← ep] at HR c1 hr hpc hkb
  obtain ⟨T, eT⟩ : ∃ T : Sp, T = t.pay (t.cost + rcW ls p + Ch.cost (P / 4) st) := ⟨_, rfl⟩
  obtain ⟨l2, el⟩ : ∃ l2, l2 = rcL n xs t.root ls p := ⟨_, rfl⟩
  obtain ⟨s2, es⟩ : ∃ s2, s2 = Ch.step (P / 4) st := ⟨_, rfl⟩
  replace HR : Hid (Calls Tryz.prog 91 #[ptr s, .int .u32 p, .int .i64 4] w fun e w' => e = .returned (.tuple #[.int .i64 P, .bool true]) ∧ Moved w w' s tb cb g n cs FT FC T xs l2 s2) := by rw [eT, el, es]; exact HR
  obtain ⟨m, em⟩ : ∃ m, m = T.m := ⟨_, rfl⟩
  have Hm : Hid (m = T.m) := em
  have HTp : Hid (T.pc = p) := by show _ = _; rw [eT, ep]; rfl
  have HL : Hid (P < xs.length ∧ Is.Tabs w ∧ ∀ k, (k = s ∨ k = g ∨ FT k ∨ FC k) → 2 ≤ k) := ⟨hlt, hT, h2⟩
  obtain ⟨x, ex⟩ : ∃ x, x = (xs.getD P 0).toNat := ⟨_, rfl⟩
  rw [← ex] at hd hr hr4 ⊢
  have Hx : Hid (x = (xs.getD P 0).toNat ∧ x < 4294967296) := ⟨ex, by rw [ex]; exact rg_lt _⟩
  obtain ⟨⟨o1, o2⟩, ⟨a1, a2⟩, ⟨b1, b2⟩, ⟨d1, d2⟩⟩ := dec_bd hd
  obtain ⟨O, eO⟩ : ∃ O : Nat, O = (Is.rdOp x).toNat := ⟨_, rfl⟩
  obtain ⟨A, eA⟩ : ∃ A : Nat, A = (Is.rdA x).toNat := ⟨_, rfl⟩
  obtain ⟨B, eB⟩ : ∃ B : Nat, B = (Is.rdB x).toNat := ⟨_, rfl⟩
  obtain ⟨D, eD⟩ : ∃ D : Nat, D = (Is.rdC x).toNat := ⟨_, rfl⟩
  obtain ⟨I, eI⟩ : ∃ I : Int, I = Is.rdI x := ⟨_, rfl⟩
  have hO : (O : Int) = Is.rdOp x := by omega
  have hA : (A : Int) = Is.rdA x := by omega
  have hB : (B : Int) = Is.rdB x := by omega
  have hD : (D : Int) = Is.rdC x := by omega
  have hV : Is.decV x = .agg #[.int .i64 O, .int .i64 A, .int .i64 B, .int .i64 D, .int .i64 I] := by unfold Is.decV; rw [hd, hO, hA, hB, hD, eI]; rfl
  have hE0 : Is.decE x = 0 := by unfold Is.decE; rw [hd]; rfl
  have hidx := index_tbl O (by omega) (by omega)
  rw [← hO]
  obtain ⟨q, eq⟩ : ∃ q : Nat, q = wd ((p : Int) + 1) := ⟨_, rfl⟩
  have Hq : Hid ((q : Int) = ((p : Int) + 1) % 4294967296) := by show _ = _; rw [eq]; exact wd_cast _
  obtain ⟨T6, eT6⟩ : ∃ T6 : Sp, T6 = { T with word := x, op := O, a := A, b := B, d := D, imm := I, pc := q } := ⟨_, rfl⟩
  have hr' : r = opM n ⟨T6, xs, l2, s2⟩ := by
    rw [hr, eT6, eT, el, es, eO, eA, eB, eD, eI, eq]; rfl
  have hop : T6.op = O ∧ T6.clock < 4294967296 ∧ 0 ≤ T6.cost ∧ T6.cost ≤ 900 := by
    rw [eT6, eT]; exact ⟨rfl, hc, hkb.1, hkb.2⟩
  have HV : Hid (Is.decV x = .agg #[.int .i64 O, .int .i64 A, .int .i64 B, .int .i64 D, .int .i64 I] ∧ Is.decE x = 0) := ⟨hV, hE0⟩
  have H6 : Hid (T6 = { T with word := x, op := O, a := A, b := B, d := D, imm := I, pc := q } ∧ r = opM n ⟨T6, xs, l2, s2⟩ ∧ A < 16 ∧ B < 16 ∧ D < 16) := ⟨eT6, hr', by omega, by omega, by omega⟩
  have HC : Hid (∀ w' F C, Env w' s tb cb g n cs T6 xs l2 s2 F C → Calls Tryz.prog (fnOf O) #[ptr s] w' fun e w'' => e = .returned (.int .i64 r.1) ∧ Moved w' w'' s tb cb g n cs F C r.2.t r.2.xs r.2.ls r.2.st) := fun w' F C hE => by
    have := op_any s tb cb g n cs ⟨T6, xs, l2, s2⟩ F C w' hE hop.2.2 hop.2.1
    rw [← hr', show (⟨T6, xs, l2, s2⟩ : Mc).t.op = O from hop.1] at this
    exact this
  obtain ⟨fn, efn⟩ : ∃ fn, fn = fnOf O := ⟨_, rfl⟩
  have hent : ∀ args w, (callFunc fn args).run Tryz.prog w = .ok (.enter fn args) w := by rw [efn]; exact fn_enter O
  rw [← efn] at HC hidx
  obtain ⟨rt, R⟩ := r
  obtain ⟨R1, R2, R3, R4⟩ := R
  dsimp only at HC hr2 hr3 hr4 ⊢
  have hRo : R1.op = O := by rw [hr4, eO]
  have HRo : Hid (R1.op = O ∧ 0 ≤ R1.cost ∧ R1.cost ≤ 900) := ⟨hRo, hr2⟩
  clear h hq hn ep eT el es em hlt hT h2 ex hd hp hc hr hkb hr4 o1 o2 a1 a2 b1 b2 d1 d2 eO eA eB eD eI hO hA hB hD hV hE0 eq eT6 hr' hop efn hRo
  go_enter Tryz.func57, Tryz.ntmps57
  go_wp2_with fail
  refine HR.out.mono ?_
  rintro e w1 ⟨rfl, hM⟩
  obtain ⟨F1, C1, hF⟩ := hM.far
  have c2 : w1.cell? ⟨s, 18, none⟩ = some (ptr m) := by rw [Hm.out]; exact hF.env.sp.get 2 rfl
  have c3 : w1.cell? ⟨s, 30, none⟩ = some (.int .u32 T.word) := hF.env.sp.get 14 rfl
  have f3 := hF.env.sp.frozen 30
  have HRd := read_in T.m g xs P w1 hF.env.mn.mm HL.out.1
  rw [← getD_toNat xs P HL.out.1, ← Hm.out, ← Hx.out.1] at HRd
  replace HRd : Hid (Calls Tryz.prog 36 #[ptr m, .int .i64 P] w1 fun e w' => e = .returned (.tuple #[.int .u32 x, .int .i64 0]) ∧ w' = w1) := HRd
  obtain ⟨F2, C2, hF2⟩ := (hF.on (hF.env.worded x)).far
  have HD := Is.dec_any x Hx.out.2 (w1.setCell ⟨s, 30, none⟩ (.int .u32 x)) (hF2.tabs HL.out.2.1 HL.out.2.2)
  rw [HV.out.1, HV.out.2] at HD
  replace HD : Hid (Calls Tryz.prog 92 #[.int .u32 x] (w1.setCell ⟨s, 30, none⟩ (.int .u32 x)) fun e w' => e = .returned (.tuple #[.agg #[.int .i64 O, .int .i64 A, .int .i64 B, .int .i64 D, .int .i64 I], .int .i64 0]) ∧ Below (w1.setCell ⟨s, 30, none⟩ (.int .u32 x)).heap.size (w1.setCell ⟨s, 30, none⟩ (.int .u32 x)) w') := HD
  have HF : Hid (Far w (w1.setCell ⟨s, 30, none⟩ (.int .u32 x)) s tb cb g n cs { T with word := x } xs l2 s2 FT FC F2 C2) := hF2
  obtain ⟨u, eu⟩ : ∃ u, u = T.word := ⟨_, rfl⟩
  rw [← eu] at c3
  clear hM HR hF hF2 c1 eu
  go_wp2_with fail
  refine HRd.out.mono ?_
  rintro e w1' ⟨rfl, hw⟩
  obtain rfl := hw.symm
  clear hw
  go_wp2_with fail
  refine HD.out.mono ?_
  rintro e w3 ⟨rfl, hB⟩
  have hF4 := HF.out.grown ((keeps_of_below hB).alloc (.cells #[.int .i64 O, .int .i64 A, .int .i64 B, .int .i64 D, .int .i64 I] 111))
  have hs4 := hF4.env.sp
  have k0 : (w3.alloc (.cells #[.int .i64 O, .int .i64 A, .int .i64 B, .int .i64 D, .int .i64 I] 111)).cell? ⟨s, 16, none⟩ = some (.int .u32 p) := by rw [← HTp.out]; exact hs4.get 0 rfl
  have k1 : (w3.alloc (.cells #[.int .i64 O, .int .i64 A, .int .i64 B, .int .i64 D, .int .i64 I] 111)).cell? ⟨s, 21, none⟩ = some (.int .i64 T.op) := hs4.get 5 rfl
  have k2 : (w3.alloc (.cells #[.int .i64 O, .int .i64 A, .int .i64 B, .int .i64 D, .int .i64 I] 111)).cell? ⟨s, 22, none⟩ = some (.int .i64 T.a) := hs4.get 6 rfl
  have k3 : (w3.alloc (.cells #[.int .i64 O, .int .i64 A, .int .i64 B, .int .i64 D, .int .i64 I] 111)).cell? ⟨s, 23, none⟩ = some (.int .i64 T.b) := hs4.get 7 rfl
  have k4 : (w3.alloc (.cells #[.int .i64 O, .int .i64 A, .int .i64 B, .int .i64 D, .int .i64 I] 111)).cell? ⟨s, 24, none⟩ = some (.int .i64 T.d) := hs4.get 8 rfl
  have k5 : (w3.alloc (.cells #[.int .i64 O, .int .i64 A, .int .i64 B, .int .i64 D, .int .i64 I] 111)).cell? ⟨s, 25, none⟩ = some (.int .i64 T.imm) := hs4.get 9 rfl
  have z0 := hs4.frozen 16
  have z1 := hs4.frozen 21
  have z2 := hs4.frozen 22
  have z3 := hs4.frozen 23
  have z4 := hs4.frozen 24
  have z5 := hs4.frozen 25
  have hF6 := hF4.decoded O A B D q I H6.out.2.2.1 H6.out.2.2.2.1 H6.out.2.2.2.2 _ Hq.out
  have hbI : Blk (((((((w3.alloc (.cells #[.int .i64 O, .int .i64 A, .int .i64 B, .int .i64 D, .int .i64 I] 111)).setCell ⟨s, 21, none⟩ (.int .i64 O)).setCell ⟨s, 22, none⟩ (.int .i64 A)).setCell ⟨s, 23, none⟩ (.int .i64 B)).setCell ⟨s, 24, none⟩ (.int .i64 D)).setCell ⟨s, 25, none⟩ (.int .i64 I)).setCell ⟨s, 16, none⟩ (.int .u32 (((p : Int) + 1) % 4294967296))) w3.heap.size [.int .i64 O, .int .i64 A, .int .i64 B, .int .i64 D, .int .i64 I] 111 := by
    have hs : s < w3.heap.size := Nat.lt_of_lt_of_le HF.out.env.lt.1 hB.size
    have hK : Keeps (· = s) (w3.alloc (.cells #[.int .i64 O, .int .i64 A, .int .i64 B, .int .i64 D, .int .i64 I] 111)) (((((((w3.alloc (.cells #[.int .i64 O, .int .i64 A, .int .i64 B, .int .i64 D, .int .i64 I] 111)).setCell ⟨s, 21, none⟩ (.int .i64 O)).setCell ⟨s, 22, none⟩ (.int .i64 A)).setCell ⟨s, 23, none⟩ (.int .i64 B)).setCell ⟨s, 24, none⟩ (.int .i64 D)).setCell ⟨s, 25, none⟩ (.int .i64 I)).setCell ⟨s, 16, none⟩ (.int .u32 (((p : Int) + 1) % 4294967296))) :=
      ((((((Keeps.refl (· = s) (w3.alloc (.cells #[.int .i64 O, .int .i64 A, .int .i64 B, .int .i64 D, .int .i64 I] 111))).setCell _ _ fun _ => rfl).setCell _ _ fun _ => rfl).setCell _ _ fun _ => rfl).setCell _ _ fun _ => rfl).setCell _ _ fun _ => rfl).setCell _ _ fun _ => rfl
    exact (Blk.new w3 _ 111).kept hK (by show ¬ w3.heap.size = s; omega)
  have HF6 : Hid (Far w (((((((w3.alloc (.cells #[.int .i64 O, .int .i64 A, .int .i64 B, .int .i64 D, .int .i64 I] 111)).setCell ⟨s, 21, none⟩ (.int .i64 O)).setCell ⟨s, 22, none⟩ (.int .i64 A)).setCell ⟨s, 23, none⟩ (.int .i64 B)).setCell ⟨s, 24, none⟩ (.int .i64 D)).setCell ⟨s, 25, none⟩ (.int .i64 I)).setCell ⟨s, 16, none⟩ (.int .u32 (((p : Int) + 1) % 4294967296))) s tb cb g n cs T6 xs l2 s2 FT FC F2 C2 ∧ Blk (((((((w3.alloc (.cells #[.int .i64 O, .int .i64 A, .int .i64 B, .int .i64 D, .int .i64 I] 111)).setCell ⟨s, 21, none⟩ (.int .i64 O)).setCell ⟨s, 22, none⟩ (.int .i64 A)).setCell ⟨s, 23, none⟩ (.int .i64 B)).setCell ⟨s, 24, none⟩ (.int .i64 D)).setCell ⟨s, 25, none⟩ (.int .i64 I)).setCell ⟨s, 16, none⟩ (.int .u32 (((p : Int) + 1) % 4294967296))) w3.heap.size [.int .i64 O, .int .i64 A, .int .i64 B, .int .i64 D, .int .i64 I] 111 ∧ (∀ k, (k = s ∨ k = g ∨ F2 k ∨ C2 k) → k < w3.heap.size)) := by
    refine ⟨by rw [H6.out.1]; exact hF6, hbI, fun k hk => ?_⟩
    have e1 := HF.out.env.lt
    have e2 := hB.size
    rcases hk with e | e | e | e
    · omega
    · omega
    · have := HF.out.env.tl.lt k e; omega
    · have := HF.out.env.ca.lt k e; omega
  clear hF4 hs4 hF6 hbI hB HD c2 c3 f3 HRd
  go_wp2_with fail
  obtain ⟨W, hW⟩ : ∃ W, W = (((((((w3.alloc (.cells #[.int .i64 O, .int .i64 A, .int .i64 B, .int .i64 D, .int .i64 I] 111)).setCell ⟨s, 21, none⟩ (.int .i64 O)).setCell ⟨s, 22, none⟩ (.int .i64 A)).setCell ⟨s, 23, none⟩ (.int .i64 B)).setCell ⟨s, 24, none⟩ (.int .i64 D)).setCell ⟨s, 25, none⟩ (.int .i64 I)).setCell ⟨s, 16, none⟩ (.int .u32 (((p : Int) + 1) % 4294967296))) := ⟨_, rfl⟩
  rw [← hW] at HF6 ⊢
  clear hW k0 k1 k2 k3 k4 k5 z0 z1 z2 z3 z4 z5
  obtain ⟨i, ei⟩ : ∃ i, i = w3.heap.size := ⟨_, rfl⟩
  rw [← ei] at HF6 ⊢
  clear ei
  have hS : W.cell? ⟨i, 0, none⟩ = some (.int .i64 O) := HF6.out.2.1.cell rfl
  have HO : Hid (Calls Tryz.prog 93 #[] W.drew fun e w' => e = .returned (.agg tbl.toArray) ∧ Keeps (fun _ => False) W.drew w') := operations_any W.drew
  obtain ⟨tb0, etb⟩ : ∃ tb0, tb0 = tbl.toArray := ⟨_, rfl⟩
  rw [← etb] at HO hidx
  clear etb
  go_region_held3 (fun w' => w'.cell? ⟨i, 0, none⟩ = some (.int .i64 O)) (first | exact hS | exact hS2 | exact hS3 | go_keep)
    (first
      | (go_at_call 93; refine HO.out.mono ?_; rintro e w7 ⟨rfl, hK7⟩; have hK7' : Keeps (fun _ => False) W w7 := ((Keeps.refl (fun _ => False) W).drew).trans hK7 fun _ _ h => h; have hS2 : w7.cell? ⟨i, 0, none⟩ = some (.int .i64 O) := Ch.cell_kept hS hK7' fun h => h; have H7 : Hid (Far w w7 s tb cb g n cs T6 xs l2 s2 FT FC F2 C2 ∧ Blk w7 i [.int .i64 O, .int .i64 A, .int .i64 B, .int .i64 D, .int .i64 I] 111) := ⟨HF6.out.1.grown hK7', HF6.out.2.1.kept hK7' fun h => h⟩; clear hK7 hK7')
      | (refine (HC.out _ F2 C2 H7.out.1.env).mono ?_; rintro e w8 ⟨rfl, hM8⟩; have hB8 : Blk w8 i [.int .i64 O, .int .i64 A, .int .i64 B, .int .i64 D, .int .i64 I] 111 := (by obtain ⟨G1, G2, _, _, _, hk⟩ := hM8; exact H7.out.2.kept hk fun e => absurd (HF6.out.2.2 _ e) (Nat.lt_irrefl _)); have hS3 : w8.cell? ⟨i, 0, none⟩ = some (.int .i64 O) := hB8.cell rfl; have H8 : Hid (Moved w w8 s tb cb g n cs FT FC R1 R2 R3 R4) := H7.out.1.on hM8; clear hM8 hB8))
  clear hS hS2 hidx HO HC H7 HF6 HF
  by_cases h0 : rt = 0
  · have g1 : ((rt : Int) != 0) = false := by simpa using h0
    have H0 : Hid (rt = 0) := h0
    clear h0
    obtain ⟨G1, G2, hG⟩ := H8.out.far
    have k1 : w8.cell? ⟨s, 26, none⟩ = some (.int .i64 R1.cost) := hG.env.sp.get 10 rfl
    have z1 := hG.env.sp.frozen 26
    have HCo : Hid (Calls Tryz.prog 94 #[.int .i64 O] (w8.drewN 1) fun e w'' => e = .returned (.int .i64 (Is.costOf O)) ∧ w'' = w8.drewN 1) := cost_any O (w8.drewN 1) (tabs_kept (hG.tabs HL.out.2.1 HL.out.2.2) ((Keeps.refl (fun _ => False) w8).drewN 1) fun _ h => h.elim)
    have hcb : 0 ≤ Is.costOf O ∧ Is.costOf O ≤ 24 := costOf_bd O
    obtain ⟨y, ey⟩ : ∃ y, y = Is.costOf O := ⟨_, rfl⟩
    have Hy : Hid (y = Is.costOf O) := ey
    rw [← ey] at HCo hcb
    have hRc := HRo.out.2
    have HG : Hid (Far w w8 s tb cb g n cs R1 R2 R3 R4 FT FC G1 G2) := hG
    have HPay : Hid (∀ k : Int, Moved w ((w8.drewN 1).setCell ⟨s, 26, none⟩ (.int .i64 k)) s tb cb g n cs FT FC (R1.pay k) R2 R3 R4) := fun k => by
      have hg := hG.grown ((Keeps.refl (fun _ => False) w8).drewN 1)
      exact hg.on (hg.env.paid k)
    obtain ⟨v, ev⟩ : ∃ v, v = R1.cost := ⟨_, rfl⟩
    have Hv : Hid (v = R1.cost) := ev
    rw [← ev] at k1 hRc
    obtain ⟨r1, r2⟩ := hRc
    obtain ⟨y1, y2⟩ := hcb
    have hS : w8.cell? ⟨s, 26, none⟩ = some (.int .i64 v) ∧ w8.cell? ⟨i, 0, none⟩ = some (.int .i64 O) := ⟨k1, hS3⟩
    clear hG ey ev hr2
    go_wp2_with fail
    refine Ch.region_tail 12 (by kernel_rfl) ?_
    simp only [List.take_succ_cons, List.take_zero, List.drop_succ_cons, List.drop_zero]
    repeat still_step
    still_call HCo.out
    repeat still_step
    refine wpStill_nil ?_
    go_wp2
    go_ret
    refine ⟨rfl, ?_⟩
    rw [← Hv.out, ← Hy.out]
    exact HPay.out _
  · have g1 : ((rt : Int) != 0) = true := by simpa using h0
    have H0 : Hid (¬ rt = 0) := h0
    clear hS3 hr2 hr3 h0
    go_wp2
    go_ret
    refine ⟨rfl, ?_⟩
    exact H8.out

end Go.Proofs.YtipejahmjdamjaaGreatDoor
namespace Go.Proofs.YtipejahmjdamjaaGreatDoor
open Go.RowKit Go.Shelf
set_option linter.unusedVariables false
set_option maxRecDepth 6000

/-- What an operation leaves alone. -/
structure Same (t t' : Sp) : Prop where
  op : t'.op = t.op
  c : t'.c = t.c
  m : t'.m = t.m
  root : t'.root = t.root
  clock : t'.clock = t.clock
  apc : t'.apc = t.apc
  word : t'.word = t.word
  lo : t.cost ≤ t'.cost
  hi : t'.cost ≤ t.cost + 13
theorem Same.refl (t : Sp) : Same t t := ⟨rfl, rfl, rfl, rfl, rfl, rfl, rfl, Int.le_refl _, by omega⟩

theorem opM_same (n : Nat) (M : Mc) : Same M.t (opM n M).2.t ∧ (opM n M).1 < 100 := by
  obtain ⟨t, xs, ls, st⟩ := M
  have z : Same t t := Same.refl t
  have hW := rcW_bd ls t.x
  unfold opM
  dsimp only
  by_cases h : t.op = 2
  · rw [if_pos h]
    exact ⟨⟨rfl, rfl, rfl, rfl, rfl, rfl, rfl, Int.le_refl _, by show t.cost ≤ t.cost + 13; omega⟩, by omega⟩
  rw [if_neg h]
  clear h
  by_cases h : t.op = 3
  · rw [if_pos h]
    exact ⟨⟨rfl, rfl, rfl, rfl, rfl, rfl, rfl, Int.le_refl _, by show t.cost ≤ t.cost + 13; omega⟩, by omega⟩
  rw [if_neg h]
  clear h
  by_cases h : t.op = 4
  · rw [if_pos h]
    exact ⟨⟨rfl, rfl, rfl, rfl, rfl, rfl, rfl, Int.le_refl _, by show t.cost ≤ t.cost + 13; omega⟩, by omega⟩
  rw [if_neg h]
  clear h
  by_cases h : 5 ≤ t.op ∧ t.op ≤ 17
  · rw [if_pos h]
    by_cases h' : Al.doE t.op t.D.toNat = 0
    · rw [if_pos h']; exact ⟨⟨rfl, rfl, rfl, rfl, rfl, rfl, rfl, Int.le_refl _, by show t.cost ≤ t.cost + 13; omega⟩, by omega⟩
    · rw [if_neg h']; exact ⟨z, by omega⟩
  rw [if_neg h]
  clear h
  by_cases h : t.op = 18
  · rw [if_pos h]
    exact ⟨⟨rfl, rfl, rfl, rfl, rfl, rfl, rfl, Int.le_refl _, by show t.cost ≤ t.cost + 13; omega⟩, by omega⟩
  rw [if_neg h]
  clear h
  by_cases h : t.op = 19
  · rw [if_pos h]
    cases hP : rcP n xs t.root ls t.x 1 with
    | none => exact ⟨⟨rfl, rfl, rfl, rfl, rfl, rfl, rfl, by simp [Sp.pay]; omega, by simp [Sp.pay]; omega⟩, by show _ < 100; simp⟩
    | some P =>
      have := toC_bd (some P) st
      simp only [toC] at this
      exact ⟨⟨rfl, rfl, rfl, rfl, rfl, rfl, rfl, by simp [Sp.loaded]; omega, by simp [Sp.loaded]; omega⟩, by show _ < 100; simp⟩
  rw [if_neg h]
  clear h
  by_cases h : t.op = 20
  · rw [if_pos h]
    cases hP : rcP n xs t.root ls t.x 2 with
    | none => exact ⟨⟨rfl, rfl, rfl, rfl, rfl, rfl, rfl, by simp [Sp.pay]; omega, by simp [Sp.pay]; omega⟩, by show _ < 100; simp⟩
    | some P =>
      have := toC_bd (some P) st
      simp only [toC] at this
      exact ⟨⟨rfl, rfl, rfl, rfl, rfl, rfl, rfl, by simp [Sp.pay]; omega, by simp [Sp.pay]; omega⟩, by show _ < 100; simp⟩
  rw [if_neg h]
  clear h
  by_cases h : 21 ≤ t.op ∧ t.op ≤ 25
  · rw [if_pos h]
    refine ⟨?_, by omega⟩
    dsimp only
    cases Al.takeV t.op t.A.toNat t.B.toNat with
    | false => exact z
    | true => exact ⟨rfl, rfl, rfl, rfl, rfl, rfl, rfl, Int.le_refl _, by show t.cost ≤ t.cost + 13; omega⟩
  rw [if_neg h]
  clear h
  by_cases h : t.op = 26
  · rw [if_pos h]
    exact ⟨⟨rfl, rfl, rfl, rfl, rfl, rfl, rfl, Int.le_refl _, by show t.cost ≤ t.cost + 13; omega⟩, by omega⟩
  rw [if_neg h]
  clear h
  by_cases h : t.op = 27
  · rw [if_pos h]
    exact ⟨⟨rfl, rfl, rfl, rfl, rfl, rfl, rfl, Int.le_refl _, by show t.cost ≤ t.cost + 13; omega⟩, by omega⟩
  rw [if_neg h]
  clear h
  by_cases h : t.op = 28
  · rw [if_pos h]
    exact ⟨⟨rfl, rfl, rfl, rfl, rfl, rfl, rfl, Int.le_refl _, by show t.cost ≤ t.cost + 13; omega⟩, by omega⟩
  rw [if_neg h]
  clear h
  by_cases h : t.op = 29
  · rw [if_pos h]
    exact ⟨⟨rfl, rfl, rfl, rfl, rfl, rfl, rfl, Int.le_refl _, by show t.cost ≤ t.cost + 13; omega⟩, by omega⟩
  rw [if_neg h]
  clear h
  by_cases h : t.op = 30
  · rw [if_pos h]
    by_cases h' : 0 ≤ t.imm ∧ t.imm < 8
    · rw [if_pos h']; exact ⟨⟨rfl, rfl, rfl, rfl, rfl, rfl, rfl, Int.le_refl _, by show t.cost ≤ t.cost + 13; omega⟩, by omega⟩
    · rw [if_neg h']; exact ⟨z, by omega⟩
  rw [if_neg h]
  clear h
  exact ⟨z, by omega⟩

theorem carry_any (s tb cb g n : Nat) (cs : List Value) (M : Mc) (FT FC : Nat → Prop) (w : World) (h : Env w s tb cb g n cs M.t M.xs M.ls M.st FT FC) (hq : M.t.cost = 0) (hp : M.t.pc < 4294967296) (hc : M.t.clock < 4294967296)
    (hT : Is.Tabs w) (h2 : ∀ k, (k = s ∨ k = g ∨ FT k ∨ FC k) → 2 ≤ k) : Op 57 s tb cb g n cs FT FC w (carryM n M) := by
  obtain ⟨t, xs, ls, st⟩ := M
  dsimp only at h hq hp hc
  unfold carryM
  dsimp only
  cases hn : rcP n xs t.root ls t.pc 4 with
  | none => exact carry_fetch s tb cb g n cs t xs ls st FT FC w h (by omega) hp hn
  | some P =>
    dsimp only
    cases hd : Is.decOk (xs.getD P 0).toNat with
    | false => exact carry_word s tb cb g n P cs t xs ls st FT FC w h (by omega) hp hT h2 hn hd
    | true =>
      simp only [if_true]
      obtain ⟨M2, eM⟩ : ∃ M2 : Mc, M2 = ⟨((t.fetched (t.cost + rcW ls t.pc + Ch.cost (P / 4) st) (xs.getD P 0).toNat).dec (xs.getD P 0).toNat).goes (wd (t.pc + 1)), xs, rcL n xs t.root ls t.pc, Ch.step (P / 4) st⟩ := ⟨_, rfl⟩
      have hS := opM_same n M2
      have hW := rcW_bd ls t.pc
      have hC := toC_bd (some P) st
      simp only [toC] at hC
      have e1 : M2.t.cost = t.cost + rcW ls t.pc + Ch.cost (P / 4) st := by rw [eM]; rfl
      have e2 : M2.t.op = (Is.rdOp (xs.getD P 0).toNat).toNat := by rw [eM]; rfl
      have := carry_op s tb cb g n P cs t xs ls st FT FC w h (by omega) hp hc hT h2 hn hd (opM n M2) (by rw [eM]) ⟨by have := hS.1.lo; omega, by have := hS.1.hi; omega⟩ hS.2 (by rw [hS.1.op, e2])
      rw [← eM]
      refine Calls.mono this fun e w' ⟨h1, h3⟩ => ?_
      by_cases h0 : (opM n M2).1 = 0
      · rw [if_pos h0] at h3 ⊢
        rw [h0] at h1
        exact ⟨h1, h3⟩
      · rw [if_neg h0] at h3 ⊢
        exact ⟨h1, h3⟩

end Go.Proofs.YtipejahmjdamjaaGreatDoor
namespace Go.Proofs.YtipejahmjdamjaaGreatDoor
open Go.RowKit Go.Shelf
set_option linter.unusedVariables false
set_option maxRecDepth 6000

/-- The cells of a context. -/
def ctx (rg : List UInt32) (pc : Nat) : List Value := wvs rg ++ [.int .u32 pc]
def coreCells (rg : List UInt32) (pc tb cb : Nat) : List Value := ctx rg pc ++ [ptr tb, ptr cb]

/-- A core lies in block c. -/
structure CoreAt (w : World) (c tb cb : Nat) (rg : List UInt32) (pc : Nat) (ls : List Tl.Lf) (st : Nat → List Int) (FT FC : Nat → Prop) : Prop where
  blk : Blk w c (coreCells rg pc tb cb) 91
  len : rg.length = 16
  tl : Tl.Tl w tb ls FT
  ca : Ch.Ca w cb st FC
  ft : ∀ k, FT k → k ≠ c ∧ ¬ FC k
  fc : ∀ k, FC k → k ≠ c
  good : ∀ l ∈ ls, Tl.mayB l = true
  pcl : pc < 4294967296
  two : ∀ k, (k = c ∨ FT k ∨ FC k) → 2 ≤ k

theorem CoreAt.kept {S : Nat → Prop} {w w' : World} {c tb cb : Nat} {rg : List UInt32} {pc : Nat} {ls : List Tl.Lf} {st : Nat → List Int} {FT FC : Nat → Prop} (h : CoreAt w c tb cb rg pc ls st FT FC) (hK : Keeps S w w') (hn : ∀ k, (k = c ∨ FT k ∨ FC k) → ¬ S k) :
    CoreAt w' c tb cb rg pc ls st FT FC :=
  { h with blk := h.blk.kept hK (hn c (.inl rfl)), tl := h.tl.kept hK fun k hk => hn k (.inr (.inl hk)), ca := h.ca.kept hK fun k hk => hn k (.inr (.inr hk)) }

/-- The instruction at its beginning. -/
def sp0 (rg : List UInt32) (pc c m root clock : Nat) : Sp := ⟨rg, pc, c, m, root, clock, 0, 0, 0, 0, 0, 0, 0, -1, pc, 0, false, 0, 0⟩
def spz (rg : List UInt32) (pc c m root clock : Nat) : Sp := ⟨rg, pc, c, m, root, clock, 0, 0, 0, 0, 0, 0, 0, 0, 0, 0, false, 0, 0⟩

def actCells (t : Sp) : List Value := [.int .i64 t.cost, .int .i64 t.trap, .int .i64 t.call, .int .u32 t.apc, .int .u32 t.word, .bool t.rd, .int .u32 t.addr, .int .u32 t.val]

theorem built113x (r0 r1 r2 r3 r4 r5 r6 r7 r8 r9 r10 r11 r12 r13 r14 r15 : UInt32) (pc c m root clock : Nat) :
    Tryz.prog.built 113 [(0, .agg (ctx [r0, r1, r2, r3, r4, r5, r6, r7, r8, r9, r10, r11, r12, r13, r14, r15] pc).toArray), (1, ptr c), (2, ptr m), (3, .int .i64 root), (4, .int .u32 clock)] = some (spz [r0, r1, r2, r3, r4, r5, r6, r7, r8, r9, r10, r11, r12, r13, r14, r15] pc c m root clock).cells.toArray := by
  kernel_rfl

theorem built113 (rg : List UInt32) (pc c m root clock : Nat) (hl : rg.length = 16) :
    Tryz.prog.built 113 [(0, .agg (ctx rg pc).toArray), (1, ptr c), (2, ptr m), (3, .int .i64 root), (4, .int .u32 clock)] = some (spz rg pc c m root clock).cells.toArray := by
  match rg, hl with
  | [r0, r1, r2, r3, r4, r5, r6, r7, r8, r9, r10, r11, r12, r13, r14, r15], _ => exact built113x r0 r1 r2 r3 r4 r5 r6 r7 r8 r9 r10 r11 r12 r13 r14 r15 pc c m root clock

theorem cs17 (rg : List UInt32) (pc tb cb : Nat) (hl : rg.length = 16) : (coreCells rg pc tb cb)[17]? = some (ptr tb) ∧ (coreCells rg pc tb cb)[18]? = some (ptr cb) ∧ (coreCells rg pc tb cb)[16]? = some (.int .u32 pc) ∧ (coreCells rg pc tb cb).length = 19 := by
  match rg, hl with
  | [r0, r1, r2, r3, r4, r5, r6, r7, r8, r9, r10, r11, r12, r13, r14, r15], _ => exact ⟨rfl, rfl, rfl, rfl⟩

end Go.Proofs.YtipejahmjdamjaaGreatDoor
namespace Go.Proofs.YtipejahmjdamjaaGreatDoor
open Go.RowKit Go.Shelf
set_option linter.unusedVariables false
set_option maxRecDepth 6000

theorem wpList_build_to {P : Program} {ops : Array Oper} {rest : List Oper} {o : Oper} {a : Act} {w : World} {Q : Exit → Act → World → Prop} (hg : o.guard = none) (t : TypeId) (parts : Array (Nat × Operand)) (ho : o.op = .build t parts) (cs : Array Value)
    (hf : P.built t (parts.map fun (i, x) => (i, a.eval x)).toList = some cs) (h : wpList P ops Q rest (a.put o.dst (.agg cs)) w) : wpList P ops Q (o :: rest) a w :=
  wpList_build hg t parts ho (by rw [hf]; rfl) (by rw [hf]; exact h)

theorem keeps_setCells (b : Nat) : ∀ (vs : List Value) (o : Nat) (w : World), Keeps (· = b) w (w.setCells b o vs)
  | [], _, w => Keeps.refl _ w
  | v :: r, o, w => by
    rw [World.setCells]
    exact ((Keeps.refl (· = b) w).setCell _ _ fun _ => rfl).trans (keeps_setCells b r (o + 1) _) fun _ _ h => h

theorem blk_setCells {b : Nat} {t : TypeId} : ∀ (vs old pre post : List Value) (w : World), Blk w b (pre ++ (old ++ post)) t → old.length = vs.length → Blk (w.setCells b pre.length vs) b (pre ++ (vs ++ post)) t
  | [], [], pre, post, w, h, _ => h
  | [], _ :: _, _, _, _, _, e => by cases e
  | _ :: _, [], _, _, _, _, e => by cases e
  | v :: r, u :: old, pre, post, w, h, e => by
    rw [World.setCells]
    have h1 := h.setCell pre.length v
    rw [List.set_append_right _ _ (Nat.le_refl _), Nat.sub_self] at h1
    have h2 := blk_setCells r old (pre ++ [v]) post _ (by simpa using h1) (by simpa using e)
    simpa using h2

theorem SpAt.range {w : World} {s : Nat} {t : Sp} (h : SpAt w s t) : w.rangeAt s 0 (ctx t.rg t.pc) := fun j v hv => by
  rw [Nat.zero_add]
  refine h.blk.cell ?_
  have e : t.cells = ctx t.rg t.pc ++ t.tail.tail := by simp [Sp.cells, ctx, Sp.tail]
  rw [e, List.getElem?_append_left (List.getElem?_eq_some_iff.1 hv).1]
  exact hv

theorem ctx_len {rg : List UInt32} (h : rg.length = 16) (pc : Nat) : (ctx rg pc).length = 17 := by simp [ctx, wvs_length, h]
theorem ctx_one (rg : List UInt32) (pc : Nat) : ∀ v ∈ ctx rg pc, v.oneCell' = true := fun v hv => by
  rcases List.mem_append.1 hv with e | e
  · exact wvs_one _ v e
  · rw [List.mem_singleton.1 e]; rfl

theorem info89 {rg : List UInt32} (h : rg.length = 16) (pc : Nat) : (Tryz.prog.info? 89).map (·.size) = some (ctx rg pc).length := by rw [ctx_len h]; kernel_rfl

theorem CoreAt.range {w : World} {c tb cb : Nat} {rg : List UInt32} {pc : Nat} {ls : List Tl.Lf} {st : Nat → List Int} {FT FC : Nat → Prop} (h : CoreAt w c tb cb rg pc ls st FT FC) : w.rangeAt c 0 (ctx rg pc) := fun j v hv => by
  rw [Nat.zero_add]
  refine h.blk.cell ?_
  rw [coreCells, List.getElem?_append_left (List.getElem?_eq_some_iff.1 hv).1]
  exact hv

/-- The new instruction's block, and all else. -/
theorem env_of {w : World} {c tb cb b g n s : Nat} {rg : List UInt32} {pc : Nat} {ls : List Tl.Lf} {st : Nat → List Int} {FT FC : Nat → Prop} {xs : List UInt32} {t : Sp} (h : CoreAt w c tb cb rg pc ls st FT FC) (hM : Mn w b g n xs)
    (hap : ∀ k, (k = c ∨ FT k ∨ FC k) → k ≠ b ∧ k ≠ g) (hs : SpAt w s t) (hsn : ∀ k, (k = c ∨ FT k ∨ FC k) → k ≠ s) (sb : s ≠ b) (sg : s ≠ g) (tc : t.c = c) (tm : t.m = b) :
    Env w s tb cb g n (coreCells rg pc tb cb) t xs ls st FT FC := by
  have hc := cs17 rg pc tb cb h.len
  subst tc; subst tm
  exact { sp := hs, core := h.blk, h17 := hc.1, h18 := hc.2.1, mn := hM, tl := h.tl, ca := h.ca, sc := fun e => hsn t.c (.inl rfl) e.symm, sm := sb, sg := sg, cm := (hap t.c (.inl rfl)).1, cg := (hap t.c (.inl rfl)).2, ft := fun k hk => ⟨hsn k (.inr (.inl hk)), (h.ft k hk).1, (hap k (.inr (.inl hk))).1, (hap k (.inr (.inl hk))).2, (h.ft k hk).2⟩, fc := fun k hk => ⟨hsn k (.inr (.inr hk)), h.fc k hk, (hap k (.inr (.inr hk))).1, (hap k (.inr (.inr hk))).2⟩, good := h.good }

/-- What a step leaves. -/
structure Stepped (w w' : World) (c tb cb b g n : Nat) (FT FC : Nat → Prop) (rg : List UInt32) (pc : Nat) (xs : List UInt32) (ls : List Tl.Lf) (st : Nat → List Int) : Prop where
  ex : ∃ FT' FC', CoreAt w' c tb cb rg pc ls st FT' FC' ∧ (∀ k, FT' k → FT k ∨ w.heap.size ≤ k) ∧ (∀ k, FC' k → FC k ∨ w.heap.size ≤ k) ∧ ∀ k, (k = c ∨ FT' k ∨ FC' k) → k ≠ b ∧ k ≠ g
  mn : Mn w' b g n xs
  kp : Keeps (fun k => k = c ∨ k = g ∨ FT k ∨ FC k) w w'

end Go.Proofs.YtipejahmjdamjaaGreatDoor
