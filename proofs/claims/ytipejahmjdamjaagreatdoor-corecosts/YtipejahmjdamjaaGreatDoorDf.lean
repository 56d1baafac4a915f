import Derived.Test.YtipejahmjdamjaaGreatDoorDd
namespace Go.Proofs.YtipejahmjdamjaaGreatDoor
open Go.RowKit Go.Shelf
set_option linter.unusedVariables false
set_option maxRecDepth 6000

/-- A memory that was made of words. -/
theorem of_mm {w1 : World} {g : Nat} {xs : List UInt32} (hB : Blk w1 g (wvs xs) 37) (hl : xs.length ≤ 16384) :
    Mm (w1.alloc (.cells #[.slice (some ⟨g, 0, none⟩) xs.length xs.length] 82)) w1.heap.size g xs :=
  ⟨fun e => by have := hB.lt; omega, Blk.new w1 _ 82, hB.alloc _, hl⟩

theorem of_yes (a : Option Addr) (c : Nat) (xs : List UInt32) (n : Nat) (w : World) (hx : SegW w a xs) (hn : xs.length = n * 16) (h1 : 1 ≤ n) (h2 : n ≤ 1024) :
    Calls Tryz.prog 8 #[.slice a xs.length c] w fun e w' => ∃ b, e = .returned (.tuple #[ptr b, .int .i64 0]) ∧ Mn w' b w.heap.size n xs ∧ w.heap.size ≤ b ∧ Keeps (fun _ => False) w w' := by
  have HC : Hid (Calls _ _ _ _ _) := copied_any a c xs w hx (by omega)
  have HL : Hid (xs.length = n * 16 ∧ n ≤ 1024) := ⟨hn, h2⟩
  obtain ⟨L, eL⟩ : ∃ L, L = xs.length := ⟨_, rfl⟩
  have HE : Hid (L = xs.length) := eL
  rw [← eL] at HC hn ⊢
  have b1 : (L : Int) ≤ 16384 := by omega
  have g1 : decide (16384 < L) = false := decide_eq_false (by omega)
  have g2 : ((L : Int) == 0) = false := by simp; omega
  have g3 : ((L : Int) % 16 != 0) = false := by simp; omega
  have g4 : (L == 0) = false := by simp; omega
  have g5 : decide ((16384 : Int) < L) = false := decide_eq_false (by omega)
  clear hx hn h1 h2 eL
  go_enter Tryz.func8, Tryz.ntmps8
  go_wp2_with fail
  refine HC.out.mono ?_
  rintro e w1 ⟨rfl, hB, hK⟩
  have HB : Hid (Blk w1 w.heap.size (wvs xs) 37 ∧ Keeps (fun _ => False) w w1) := ⟨hB, hK⟩
  clear hB hK HC
  go_wp2
  go_ret2
  refine ⟨w1.heap.size, rfl, ⟨?_, HL.out.1⟩, HB.out.2.size, HB.out.2.alloc _⟩
  rw [HE.out]
  exact of_mm HB.out.1 (by have := HL.out; omega)

theorem of_no (a : Option Addr) (L c : Nat) (w : World) (hL : L ≤ 9223372036854775807) (hn : ¬ ∃ n, L = n * 16 ∧ 1 ≤ n ∧ n ≤ 1024) :
    Calls Tryz.prog 8 #[.slice a L c] w fun e w' => ∃ k : Nat, e = .returned (.tuple #[.pointer none, .int .i64 k]) ∧ 0 < k ∧ w' = w := by
  have b1 : (L : Int) ≤ 9223372036854775807 := by omega
  by_cases h1 : 16384 < L
  · have g1 : decide (16384 < L) = true := decide_eq_true (by omega)
    have g5 : decide ((16384 : Int) < L) = true := decide_eq_true (by omega)
    go_enter Tryz.func8, Tryz.ntmps8
    go_wp2
    go_ret2
    exact ⟨2, rfl, by omega, rfl⟩
  · have g1 : decide (16384 < L) = false := decide_eq_false (by omega)
    have g5 : decide ((16384 : Int) < L) = false := decide_eq_false (by omega)
    by_cases h2 : L = 0
    · have g2 : ((L : Int) == 0) = true := by simp; omega
      have g4 : (L == 0) = true := by simp; omega
      clear h1 h2 hn
      go_enter Tryz.func8, Tryz.ntmps8
      go_wp2
      go_ret2
      exact ⟨50, rfl, by omega, rfl⟩
    · have g2 : ((L : Int) == 0) = false := by simp; omega
      have g4 : (L == 0) = false := by simp; omega
      have g3 : ((L : Int) % 16 != 0) = true := by
        simp
        intro e
        exact hn ⟨L / 16, by omega, by omega, by omega⟩
      clear h1 h2 hn
      go_enter Tryz.func8, Tryz.ntmps8
      go_wp2
      go_ret2
      exact ⟨50, rfl, by omega, rfl⟩

theorem clone_any (b g n : Nat) (xs : List UInt32) (w : World) (h : Mn w b g n xs) :
    Calls Tryz.prog 14 #[ptr b] w fun e w' => ∃ b', e = .returned (ptr b') ∧ Mn w' b' w.heap.size n xs ∧ w.heap.size ≤ b' ∧ Keeps (fun _ => False) w w' := by
  have c1 : w.cell? ⟨b, 0, none⟩ = some (.slice (some ⟨g, 0, none⟩) xs.length xs.length) := h.mm.blk.cell rfl
  have HC : Hid (Calls _ _ _ _ _) := copied_any (some ⟨g, 0, none⟩) xs.length xs w (segW_of_blk h.mm.row) (by have := h.mm.small; omega)
  have HL : Hid (xs.length = n * 16 ∧ xs.length ≤ 16384) := ⟨h.len, h.mm.small⟩
  obtain ⟨L, eL⟩ : ∃ L, L = xs.length := ⟨_, rfl⟩
  have HE : Hid (L = xs.length) := eL
  rw [← eL] at HC c1
  clear h eL
  go_enter Tryz.func14, Tryz.ntmps14
  go_wp2_with fail
  refine HC.out.mono ?_
  rintro e w1 ⟨rfl, hB, hK⟩
  have HB : Hid (Blk w1 w.heap.size (wvs xs) 37 ∧ Keeps (fun _ => False) w w1) := ⟨hB, hK⟩
  clear hB hK HC
  go_wp2
  go_ret
  refine ⟨w1.heap.size, rfl, ⟨?_, HL.out.1⟩, HB.out.2.size, HB.out.2.alloc _⟩
  rw [HE.out]
  exact of_mm HB.out.1 HL.out.2

/-- A new core. -/
theorem new_core (w : World) (h2 : 2 ≤ w.heap.size) : Calls Tryz.prog 10 #[] w fun e w' => ∃ c tb cb FT FC, e = .returned (ptr c) ∧ CoreAt w' c tb cb (List.replicate 16 0) 0 [] (fun _ => []) FT FC ∧ (∀ k, (k = c ∨ FT k ∨ FC k) → w.heap.size ≤ k) ∧ Keeps (fun _ => False) w w' := by
  have H1 : Hid (Calls _ _ _ _ _) := Tl.newT_any w
  have H2 : Hid (2 ≤ w.heap.size) := h2
  clear h2
  go_enter Tryz.func10, Tryz.ntmps10
  go_wp2_with fail
  refine H1.out.mono ?_
  rintro e w1 ⟨tb, rfl, ⟨FT, hT, hTn⟩, hK1⟩
  have H3 : Hid (Calls _ _ _ _ _) := Ch.newC_any w1
  have H4 : Hid (Tl.Tl w1 tb [] FT ∧ (∀ b, FT b → w.heap.size ≤ b) ∧ Keeps (fun _ => False) w w1) := ⟨hT, hTn, hK1⟩
  clear hT hTn hK1 H1
  go_wp2_with fail
  refine H3.out.mono ?_
  rintro e w2 ⟨rfl, ⟨FC, hC, hCn⟩, hK2⟩
  obtain ⟨cb, ecb⟩ : ∃ cb, cb = w1.heap.size := ⟨_, rfl⟩
  rw [← ecb] at hC ⊢
  have H5 : Hid (Ch.Ca w2 cb (fun _ => []) FC ∧ (∀ b, FC b → w1.heap.size ≤ b) ∧ Keeps (fun _ => False) w1 w2) := ⟨hC, by exact hCn, hK2⟩
  clear hC hCn hK2 H3 ecb
  go_wp2
  go_ret
  obtain ⟨hT, hTn, hK1⟩ := H4.out
  obtain ⟨hC, hCn, hK2⟩ := H5.out
  have h2 := H2.out
  have s1 := hK1.size
  have s2 := hK2.size
  refine ⟨w2.heap.size, tb, cb, FT, FC, rfl, ⟨Blk.new w2 _ 91, by simp, (hT.kept hK2 fun _ _ h => h).kept ((Keeps.refl (fun _ => False) w2).alloc _) fun _ _ h => h, hC.kept ((Keeps.refl (fun _ => False) w2).alloc _) fun _ _ h => h, fun k hk => ?_, fun k hk => ?_, fun l hl => (by cases hl), by omega, fun k hk => ?_⟩, fun k hk => ?_, (hK1.trans hK2 fun _ _ h => h).alloc _⟩
  · have := hT.lt k hk
    exact ⟨by omega, fun e => by have := hCn k e; omega⟩
  · have := hC.lt k hk; omega
  · rcases hk with e | e | e
    · omega
    · have := hTn k e; omega
    · have := hCn k e; omega
  · rcases hk with e | e | e
    · omega
    · exact hTn k e
    · have := hCn k e; omega

/-- The context is told. -/
theorem context_any (c tb cb : Nat) (rg : List UInt32) (pc : Nat) (ls : List Tl.Lf) (st : Nat → List Int) (FT FC : Nat → Prop) (w : World) (h : CoreAt w c tb cb rg pc ls st FT FC) :
    Calls Tryz.prog 19 #[ptr c] w fun e w' => e = .returned (.agg (ctx rg pc).toArray) ∧ Keeps (fun _ => False) w w' := by
  obtain ⟨W, hW⟩ : ∃ W, W = w.alloc (.cells #[.int .u32 0, .int .u32 0, .int .u32 0, .int .u32 0, .int .u32 0, .int .u32 0, .int .u32 0, .int .u32 0, .int .u32 0, .int .u32 0, .int .u32 0, .int .u32 0, .int .u32 0, .int .u32 0, .int .u32 0, .int .u32 0, .int .u32 0] 40) := ⟨_, rfl⟩
  have hK : Keeps (fun _ => False) w W := by rw [hW]; exact (Keeps.refl _ w).alloc _
  have hB : Blk W w.heap.size [.int .u32 0, .int .u32 0, .int .u32 0, .int .u32 0, .int .u32 0, .int .u32 0, .int .u32 0, .int .u32 0, .int .u32 0, .int .u32 0, .int .u32 0, .int .u32 0, .int .u32 0, .int .u32 0, .int .u32 0, .int .u32 0, .int .u32 0] 40 := by rw [hW]; exact Blk.new w _ 40
  have hC := h.kept hK fun _ _ h => h
  have HRa : Hid (W.rangeAt c 0 (ctx rg pc) ∧ (Tryz.prog.info? 89).map (·.size) = some (ctx rg pc).length) := ⟨hC.range, info89 h.len pc⟩
  have HTh : Hid (W.there w.heap.size 0 (ctx rg pc).toArray.size ∧ (Tryz.prog.info? 40).map (·.size) = some (ctx rg pc).toArray.size ∧ (ctx rg pc).toArray.all (·.oneCell') = true) := by
    have hl17 : (ctx rg pc).length = 17 := ctx_len h.len _
    refine ⟨fun j hj => ⟨?_, hB.frozen _⟩, by rw [List.size_toArray, hl17]; kernel_rfl, all_oneCell_toArray (ctx_one _ _)⟩
    have hj' : j < 17 := by simpa [hl17] using hj
    rw [hB.cell (List.getElem?_eq_getElem (by simpa using hj'))]
    rfl
  have hB2 := blk_setCells (b := w.heap.size) (t := 40) (ctx rg pc) [.int .u32 0, .int .u32 0, .int .u32 0, .int .u32 0, .int .u32 0, .int .u32 0, .int .u32 0, .int .u32 0, .int .u32 0, .int .u32 0, .int .u32 0, .int .u32 0, .int .u32 0, .int .u32 0, .int .u32 0, .int .u32 0, .int .u32 0] [] [] W hB (by rw [ctx_len h.len]; rfl)
  have HE : Hid (Blk (W.setCells w.heap.size 0 (ctx rg pc).toArray.toList) w.heap.size (ctx rg pc) 40 ∧ Keeps (fun _ => False) w (W.setCells w.heap.size 0 (ctx rg pc).toArray.toList) ∧ (Tryz.prog.info? 40).map (·.size) = some (ctx rg pc).length) :=
    ⟨by simpa using hB2, (hK.mono fun _ _ h => h).trans (keeps_setCells w.heap.size _ 0 W) fun k hk e => by omega, by rw [ctx_len h.len]; kernel_rfl⟩
  have HW : Hid (W = w.alloc (.cells #[.int .u32 0, .int .u32 0, .int .u32 0, .int .u32 0, .int .u32 0, .int .u32 0, .int .u32 0, .int .u32 0, .int .u32 0, .int .u32 0, .int .u32 0, .int .u32 0, .int .u32 0, .int .u32 0, .int .u32 0, .int .u32 0, .int .u32 0] 40)) := hW
  clear h hK hB hC hB2 hW
  go_enter Tryz.func19, Tryz.ntmps19
  go_upto_region 3 with fail
  rw [← HW.out]
  go_wp2_with (refine wpList_load_mid rfl 89 (.tmp 8) rfl c 0 rfl (ctx rg pc) _ HRa.out.1 Tryz.underlying89 rfl HRa.out.2 ?_; refine Hid.out ?_)
  unfold Hid
  go_wp2_with (refine wpList_store_mid rfl 40 (.tmp 2) (.tmp 9) rfl w.heap.size 0 (ctx rg pc).toArray rfl rfl HTh.out.1 HTh.out.2.1 HTh.out.2.2 ?_; refine Hid.out ?_)
  unfold Hid
  go_wp2
  refine bodyPost_ret (results_cell_one (p := 2) (ty := 40) rfl _ _ ⟨w.heap.size, 0, none⟩ _ rfl (load_blk HE.out.1 40 _ Tryz.underlying40 rfl HE.out.2.2)) rfl ?_
  exact ⟨rfl, HE.out.2.1⟩

/-- Another context is put in its place. -/
theorem set_any (c tb cb : Nat) (rg rg' : List UInt32) (pc pc' : Nat) (ls : List Tl.Lf) (st : Nat → List Int) (FT FC : Nat → Prop) (w : World) (h : CoreAt w c tb cb rg pc ls st FT FC) (hl : rg'.length = 16) (hp : pc' < 4294967296) :
    Calls Tryz.prog 27 #[ptr c, .agg (ctx rg' pc').toArray] w fun e w' => e = .returned (.tuple #[]) ∧ CoreAt w' c tb cb rg' pc' ls st FT FC ∧ Keeps (· = c) w w' := by
  obtain ⟨W, hW⟩ : ∃ W, W = w.alloc (.cells (ctx rg' pc').toArray 40) := ⟨_, rfl⟩
  have hK : Keeps (fun _ => False) w W := by rw [hW]; exact (Keeps.refl _ w).alloc _
  have hB : Blk W w.heap.size (ctx rg' pc') 40 := by rw [hW]; exact Blk.new w _ 40
  have hC := h.kept hK fun _ _ h => h
  have HRa : Hid (W.rangeAt w.heap.size 0 (ctx rg' pc') ∧ (Tryz.prog.info? 40).map (·.size) = some (ctx rg' pc').length) := ⟨fun j v hv => by rw [Nat.zero_add]; exact hB.cell hv, by rw [ctx_len hl]; kernel_rfl⟩
  have HTh : Hid (W.there c 0 (ctx rg' pc').toArray.size ∧ (Tryz.prog.info? 89).map (·.size) = some (ctx rg' pc').toArray.size ∧ (ctx rg' pc').toArray.all (·.oneCell') = true) := by
    have hl17 : (ctx rg' pc').length = 17 := ctx_len hl _
    refine ⟨fun j hj => ⟨?_, hC.blk.frozen _⟩, by simpa using info89 hl pc', all_oneCell_toArray (ctx_one _ _)⟩
    have hj' : j < 17 := by simpa [hl17] using hj
    have h19 := (cs17 rg pc tb cb h.len).2.2.2
    rw [hC.blk.cell (List.getElem?_eq_getElem (by rw [h19]; omega))]
    rfl
  have hB2 := blk_setCells (b := c) (t := 91) (ctx rg' pc') (ctx rg pc) [] [ptr tb, ptr cb] W hC.blk (by rw [ctx_len h.len, ctx_len hl])
  have hKc := keeps_setCells c (ctx rg' pc') 0 W
  have HE : Hid (CoreAt (W.setCells c 0 (ctx rg' pc').toArray.toList) c tb cb rg' pc' ls st FT FC ∧ Keeps (· = c) w (W.setCells c 0 (ctx rg' pc').toArray.toList)) :=
    ⟨{ hC with blk := hB2, len := hl, tl := hC.tl.kept hKc fun k hk => (hC.ft k hk).1, ca := hC.ca.kept hKc fun k hk => hC.fc k hk, pcl := hp }, (hK.mono fun _ _ h => h.elim).trans hKc fun _ _ e => e⟩
  have HW : Hid (W = w.alloc (.cells (ctx rg' pc').toArray 40)) := hW
  clear h hK hB hC hB2 hW hKc
  go_enter Tryz.func27, Tryz.ntmps27
  go_upto_region 2 with fail
  rw [← HW.out]
  go_wp2_with (refine wpList_load_mid rfl 40 (.tmp 3) rfl w.heap.size 0 rfl (ctx rg' pc') _ HRa.out.1 Tryz.underlying40 rfl HRa.out.2 ?_; refine Hid.out ?_)
  unfold Hid
  go_wp2_with (refine wpList_store_mid rfl 89 (.tmp 9) (.tmp 7) rfl c 0 (ctx rg' pc').toArray rfl rfl HTh.out.1 HTh.out.2.1 HTh.out.2.2 ?_; refine Hid.out ?_)
  unfold Hid
  go_wp2
  go_end0
  exact ⟨rfl, HE.out⟩

end Go.Proofs.YtipejahmjdamjaaGreatDoor
namespace Go.Proofs.YtipejahmjdamjaaGreatDoor
open Go.RowKit Go.Shelf
set_option linter.unusedVariables false
set_option maxRecDepth 6000

/-- The memory of the chapter's example. -/
def smallL : List UInt32 := [2147483656, 0, 0, 0, 0, 0, 0, 0, 0, 0, 0, 0, 0, 0, 0, 0, 2147483671, 2147483673, 0, 0, 0, 0, 0, 0, 0, 0, 0, 0, 0, 0, 0, 0, 205520901, 1283457040, 1346371600, 2013265926, 0, 0, 0, 0, 0, 0, 0, 0, 0, 0, 0, 0, 77, 0, 0, 0, 0, 0, 0, 0, 0, 0, 0, 0, 0, 0, 0, 0]
def rg1 : List UInt32 := [0, 5, 0, 0, 0, 0, 0, 0, 0, 0, 0, 0, 0, 0, 0, 0]
def rg2 : List UInt32 := [0, 5, 77, 0, 0, 0, 0, 0, 0, 0, 0, 0, 0, 0, 0, 0]
def R1 (c b : Nat) : Nat × Mc := (0, ⟨⟨rg1, 1, c, b, 0, 900, 3, 1, 0, 0, 5, 14, 0, -1, 0, 205520901, false, 0, 0⟩, smallL, [⟨0, 2, 7⟩], Ch.step 8 fun _ => []⟩)
def R2 (c b : Nat) : Nat × Mc := (0, ⟨⟨rg2, 2, c, b, 0, 914, 19, 2, 0, 0, 16, 15, 0, -1, 1, 1283457040, true, 16, 77⟩, smallL, [⟨0, 2, 7⟩, ⟨1, 3, 1⟩], Ch.step 12 (Ch.step 8 (Ch.step 8 fun _ => []))⟩)

theorem sp_eq {t u : Sp} (h0 : t.rg = u.rg) (h1 : t.pc = u.pc) (h2 : t.c = u.c) (h3 : t.m = u.m) (h4 : t.root = u.root) (h5 : t.clock = u.clock) (h6 : t.op = u.op) (h7 : t.a = u.a) (h8 : t.b = u.b) (h9 : t.d = u.d) (h10 : t.imm = u.imm) (h11 : t.cost = u.cost) (h12 : t.trap = u.trap) (h13 : t.call = u.call) (h14 : t.apc = u.apc) (h15 : t.word = u.word) (h16 : t.rd = u.rd) (h17 : t.addr = u.addr) (h18 : t.val = u.val) : t = u := by
  cases t; cases u
  simp only at *
  subst_vars
  rfl
theorem mc_eq {M N : Mc} (h1 : M.t = N.t) (h2 : M.xs = N.xs) (h3 : M.ls = N.ls) (h4 : M.st = N.st) : M = N := by
  cases M; cases N
  simp only at *
  subst_vars
  rfl

theorem carry_eval (n : Nat) (t : Sp) (xs : List UInt32) (ls : List Tl.Lf) (st : Nat → List Int) (P x : Nat) (hP : rcP n xs t.root ls t.pc 4 = some P) (hx : (xs.getD P 0).toNat = x) (hd : Is.decOk x = true) (r : Mc)
    (hr : opM n ⟨((t.fetched (t.cost + rcW ls t.pc + Ch.cost (P / 4) st) x).dec x).goes (wd (t.pc + 1)), xs, rcL n xs t.root ls t.pc, Ch.step (P / 4) st⟩ = (0, r)) :
    carryM n ⟨t, xs, ls, st⟩ = (0, { r with t := r.t.pay (r.t.cost + Is.costOf (Is.rdOp x)) }) := by
  unfold carryM
  dsimp only
  rw [hP]
  dsimp only
  rw [hx, hd]
  simp only [if_true]
  rw [hr]
  simp

theorem opM_li (n : Nat) (t : Sp) (xs : List UInt32) (ls : List Tl.Lf) (st : Nat → List Int) (h : t.op = 3) : opM n ⟨t, xs, ls, st⟩ = (0, ⟨t.put (UInt32.ofNat (wd t.imm)), xs, ls, st⟩) := by
  unfold opM
  dsimp only
  rw [if_neg (by omega), if_pos h]

theorem small_l1 : rcL 4 smallL 0 [] 0 = [⟨0, 2, 7⟩] := by kernel_rfl
theorem small_l2 : rcL 4 smallL 0 [⟨0, 2, 7⟩] 1 = [⟨0, 2, 7⟩] := by kernel_rfl
theorem small_l3 : rcL 4 smallL 0 [⟨0, 2, 7⟩] 16 = [⟨0, 2, 7⟩, ⟨1, 3, 1⟩] := by kernel_rfl

theorem small_R1 (c b : Nat) : R1 c b = carryM 4 ⟨sp0 (List.replicate 16 0) 0 c b 0 900, smallL, [], fun _ => []⟩ := by
  rw [carry_eval 4 _ _ _ _ 32 205520901 (by kernel_rfl) (by kernel_rfl) (by kernel_rfl) ⟨⟨rg1, 1, c, b, 0, 900, 3, 1, 0, 0, 5, 13, 0, -1, 0, 205520901, false, 0, 0⟩, smallL, [⟨0, 2, 7⟩], Ch.step 8 fun _ => []⟩ ?_]
  · simp only [R1, Sp.pay, show Is.costOf (Is.rdOp 205520901) = 1 by kernel_rfl]
    rfl
  · rw [show opM 4 _ = _ from opM_li _ _ _ _ _ (by kernel_rfl)]
    refine congrArg (Prod.mk 0) (mc_eq (sp_eq (by kernel_rfl) (by kernel_rfl) (by kernel_rfl) (by kernel_rfl) (by kernel_rfl) (by kernel_rfl) (by kernel_rfl) (by kernel_rfl) (by kernel_rfl) (by kernel_rfl) (by kernel_rfl) (by kernel_rfl) (by kernel_rfl) (by kernel_rfl) (by kernel_rfl) (by kernel_rfl) (by kernel_rfl) (by kernel_rfl) (by kernel_rfl)) rfl (by simp only [sp0]; exact small_l1) rfl)

theorem opM_ld (n : Nat) (t : Sp) (xs : List UInt32) (ls : List Tl.Lf) (st : Nat → List Int) (P : Nat) (h : t.op = 19) (hP : rcP n xs t.root ls t.x 1 = some P) :
    opM n ⟨t, xs, ls, st⟩ = (0, ⟨t.loaded (t.cost + rcW ls t.x + Ch.cost (P / 4) st) (xs.getD P 0), xs, rcL n xs t.root ls t.x, Ch.step (P / 4) st⟩) := by
  unfold opM
  dsimp only
  rw [if_neg (by omega), if_neg (by omega), if_neg (by omega), if_neg (by omega), if_neg (by omega), if_pos h, hP]

theorem small_R2 (c b : Nat) : R2 c b = carryM 4 ⟨sp0 rg1 1 c b 0 914, smallL, [⟨0, 2, 7⟩], Ch.step 8 fun _ => []⟩ := by
  rw [carry_eval 4 _ _ _ _ 33 1283457040 (by kernel_rfl) (by kernel_rfl) (by kernel_rfl) ⟨⟨rg2, 2, c, b, 0, 914, 19, 2, 0, 0, 16, 14, 0, -1, 1, 1283457040, true, 16, 77⟩, smallL, [⟨0, 2, 7⟩, ⟨1, 3, 1⟩], Ch.step 12 (Ch.step 8 (Ch.step 8 fun _ => []))⟩ ?_]
  · simp only [R2, Sp.pay, show Is.costOf (Is.rdOp 1283457040) = 1 by kernel_rfl]
    rfl
  · rw [show opM 4 _ = _ from opM_ld _ _ _ _ _ 48 (by kernel_rfl) (by kernel_rfl)]
    refine congrArg (Prod.mk 0) (mc_eq (sp_eq (by kernel_rfl) (by kernel_rfl) (by kernel_rfl) (by kernel_rfl) (by kernel_rfl) (by kernel_rfl) (by kernel_rfl) (by kernel_rfl) (by kernel_rfl) (by kernel_rfl) (by kernel_rfl) (by kernel_rfl) (by kernel_rfl) (by kernel_rfl) (by kernel_rfl) (by kernel_rfl) (by kernel_rfl) (by kernel_rfl) (by kernel_rfl)) rfl ?_ rfl)
    simp only [sp0, small_l2, Sp.fetched, Sp.dec, Sp.goes]
    rw [show Sp.x _ = 16 by kernel_rfl]
    exact small_l3

end Go.Proofs.YtipejahmjdamjaaGreatDoor
