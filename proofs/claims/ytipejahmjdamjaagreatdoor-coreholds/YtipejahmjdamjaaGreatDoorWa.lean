import Derived.Test.YtipejahmjdamjaaGreatDoorDd
namespace Go.Proofs.YtipejahmjdamjaaGreatDoor
open Go.RowKit Go.Shelf
set_option linter.unusedVariables false
set_option maxRecDepth 6000

/-- A memory that was made of words. -/
theorem of_mm {w1 : World} {g : Nat} {xs : List UInt32} (hB : Blk w1 g (wvs xs) 37) (hl : xs.length ≤ 16384) :
    Mm (w1.alloc (.cells #[.slice (some ⟨g, 0, none⟩) xs.length xs.length] 82)) w1.heap.size g xs :=
  ⟨fun e => by have := hB.lt; omega, Blk.new w1 _ 82, hB.alloc _, hl⟩

theorem of_yes (a : Option Addr) (c : Nat) (xs : List UInt32) (n : Nat) (w : World) (hx : SegW w a xs) (hn : xs.length = n * 16) (h1 : 1 ≤ n) (h2 : n ≤ 1024) :
    Calls Tryz.prog 8 #[.slice a xs.length c] w fun e w' => ∃ b, e = .returned (.tuple #[ptr b, .int .i64 0]) ∧ Mn w' b w.heap.size n xs ∧ w.heap.size ≤ b ∧ Keeps (fun _ => False) w w' := by
  have HC : Hid (Calls _ _ _ _ _) := copied_any a c xs w hx (by omega)
  have HL : Hid (xs.length = n * 16 ∧ n ≤ 1024) := ⟨hn, h2⟩
  obtain ⟨L, eL⟩ : ∃ L, L = xs.length := ⟨_, rfl⟩
  have HE : Hid (L = xs.length) := eL
  rw [← eL] at HC hn ⊢
  have b1 : (L : Int) ≤ 16384 := by omega
  have g1 : decide (16384 < L) = false := decide_eq_false (by omega)
  have g2 : ((L : Int) == 0) = false := by simp; omega
  have g3 : ((L : Int) % 16 != 0) = false := by simp; omega
  have g4 : (L == 0) = false := by simp; omega
  have g5 : decide ((16384 : Int) < L) = false := decide_eq_false (by omega)
  clear hx hn h1 h2 eL
  go_enter Tryz.func8, Tryz.ntmps8
  go_wp2_with fail
  refine HC.out.mono ?_
  rintro e w1 ⟨rfl, hB, hK⟩
  have HB : Hid (Blk w1 w.heap.size (wvs xs) 37 ∧ Keeps (fun _ => False) w w1) := ⟨hB, hK⟩
  clear hB hK HC
  go_wp2
  go_ret2
  refine ⟨w1.heap.size, rfl, ⟨?_, HL.out.1⟩, HB.out.2.size, HB.out.2.alloc _⟩
  rw [HE.out]
  exact of_mm HB.out.1 (by have := HL.out; omega)

theorem of_no (a : Option Addr) (L c : Nat) (w : World) (hL : L ≤ 9223372036854775807) (hn : ¬ ∃ n, L = n * 16 ∧ 1 ≤ n ∧ n ≤ 1024) :
    Calls Tryz.prog 8 #[.slice a L c] w fun e w' => ∃ k : Nat, e = .returned (.tuple #[.pointer none, .int .i64 k]) ∧ 0 < k ∧ w' = w := by
  have b1 : (L : Int) ≤ 9223372036854775807 := by omega
  by_cases h1 : 16384 < L
  · have g1 : decide (16384 < L) = true := decide_eq_true (by omega)
    have g5 : decide ((16384 : Int) < L) = true := decide_eq_true (by omega)
    go_enter Tryz.func8, Tryz.ntmps8
    go_wp2
    go_ret2
    exact ⟨2, rfl, by omega, rfl⟩
  · have g1 : decide (16384 < L) = false := decide_eq_false (by omega)
    have g5 : decide ((16384 : Int) < L) = false := decide_eq_false (by omega)
    by_cases h2 : L = 0
    · have g2 : ((L : Int) == 0) = true := by simp; omega
      have g4 : (L == 0) = true := by simp; omega
      clear h1 h2 hn
      go_enter Tryz.func8, Tryz.ntmps8
      go_wp2
      go_ret2
      exact ⟨50, rfl, by omega, rfl⟩
    · have g2 : ((L : Int) == 0) = false := by simp; omega
      have g4 : (L == 0) = false := by simp; omega
      have g3 : ((L : Int) % 16 != 0) = true := by
        simp
        intro e
        exact hn ⟨L / 16, by omega, by omega, by omega⟩
      clear h1 h2 hn
      go_enter Tryz.func8, Tryz.ntmps8
      go_wp2
      go_ret2
      exact ⟨50, rfl, by omega, rfl⟩

theorem clone_any (b g n : Nat) (xs : List UInt32) (w : World) (h : Mn w b g n xs) :
    Calls Tryz.prog 14 #[ptr b] w fun e w' => ∃ b', e = .returned (ptr b') ∧ Mn w' b' w.heap.size n xs ∧ w.heap.size ≤ b' ∧ Keeps (fun _ => False) w w' := by
  have c1 : w.cell? ⟨b, 0, none⟩ = some (.slice (some ⟨g, 0, none⟩) xs.length xs.length) := h.mm.blk.cell rfl
  have HC : Hid (Calls _ _ _ _ _) := copied_any (some ⟨g, 0, none⟩) xs.length xs w (segW_of_blk h.mm.row) (by have := h.mm.small; omega)
  have HL : Hid (xs.length = n * 16 ∧ xs.length ≤ 16384) := ⟨h.len, h.mm.small⟩
  obtain ⟨L, eL⟩ : ∃ L, L = xs.length := ⟨_, rfl⟩
  have HE : Hid (L = xs.length) := eL
  rw [← eL] at HC c1
  clear h eL
  go_enter Tryz.func14, Tryz.ntmps14
  go_wp2_with fail
  refine HC.out.mono ?_
  rintro e w1 ⟨rfl, hB, hK⟩
  have HB : Hid (Blk w1 w.heap.size (wvs xs) 37 ∧ Keeps (fun _ => False) w w1) := ⟨hB, hK⟩
  clear hB hK HC
  go_wp2
  go_ret
  refine ⟨w1.heap.size, rfl, ⟨?_, HL.out.1⟩, HB.out.2.size, HB.out.2.alloc _⟩
  rw [HE.out]
  exact of_mm HB.out.1 HL.out.2

/-- A new core. -/
theorem new_core (w : World) (h2 : 2 ≤ w.heap.size) : Calls Tryz.prog 10 #[] w fun e w' => ∃ c tb cb FT FC, e = .returned (ptr c) ∧ CoreAt w' c tb cb (List.replicate 16 0) 0 [] (fun _ => []) FT FC ∧ (∀ k, (k = c ∨ FT k ∨ FC k) → w.heap.size ≤ k) ∧ Keeps (fun _ => False) w w' := by
  have H1 : Hid (Calls _ _ _ _ _) := Tl.newT_any w
  have H2 : Hid (2 ≤ w.heap.size) := h2
  clear h2
  go_enter Tryz.func10, Tryz.ntmps10
  go_wp2_with fail
  refine H1.out.mono ?_
  rintro e w1 ⟨tb, rfl, ⟨FT, hT, hTn⟩, hK1⟩
  have H3 : Hid (Calls _ _ _ _ _) := Ch.newC_any w1
  have H4 : Hid (Tl.Tl w1 tb [] FT ∧ (∀ b, FT b → w.heap.size ≤ b) ∧ Keeps (fun _ => False) w w1) := ⟨hT, hTn, hK1⟩
  clear hT hTn hK1 H1
  go_wp2_with fail
  refine H3.out.mono ?_
  rintro e w2 ⟨rfl, ⟨FC, hC, hCn⟩, hK2⟩
  obtain ⟨cb, ecb⟩ : ∃ cb, cb = w1.heap.size := ⟨_, rfl⟩
  rw [← ecb] at hC ⊢
  have H5 : Hid (Ch.Ca w2 cb (fun _ => []) FC ∧ (∀ b, FC b → w1.heap.size ≤ b) ∧ Keeps (fun _ => False) w1 w2) := ⟨hC, by exact hCn, hK2⟩
  clear hC hCn hK2 H3 ecb
  go_wp2
  go_ret
  obtain ⟨hT, hTn, hK1⟩ := H4.out
  obtain ⟨hC, hCn, hK2⟩ := H5.out
  have h2 := H2.out
  have s1 := hK1.size
  have s2 := hK2.size
  refine ⟨w2.heap.size, tb, cb, FT, FC, rfl, ⟨Blk.new w2 _ 91, by simp, (hT.kept hK2 fun _ _ h => h).kept ((Keeps.refl (fun _ => False) w2).alloc _) fun _ _ h => h, hC.kept ((Keeps.refl (fun _ => False) w2).alloc _) fun _ _ h => h, fun k hk => ?_, fun k hk => ?_, fun l hl => (by cases hl), by omega, fun k hk => ?_⟩, fun k hk => ?_, (hK1.trans hK2 fun _ _ h => h).alloc _⟩
  · have := hT.lt k hk
    exact ⟨by omega, fun e => by have := hCn k e; omega⟩
  · have := hC.lt k hk; omega
  · rcases hk with e | e | e
    · omega
    · have := hTn k e; omega
    · have := hCn k e; omega
  · rcases hk with e | e | e
    · omega
    · exact hTn k e
    · have := hCn k e; omega

/-- The context is told. -/
theorem context_any (c tb cb : Nat) (rg : List UInt32) (pc : Nat) (ls : List Tl.Lf) (st : Nat → List Int) (FT FC : Nat → Prop) (w : World) (h : CoreAt w c tb cb rg pc ls st FT FC) :
    Calls Tryz.prog 19 #[ptr c] w fun e w' => e = .returned (.agg (ctx rg pc).toArray) ∧ Keeps (fun _ => False) w w' := by
  obtain ⟨W, hW⟩ : ∃ W, W = w.alloc (.cells #[.int .u32 0, .int .u32 0, .int .u32 0, .int .u32 0, .int .u32 0, .int .u32 0, .int .u32 0, .int .u32 0, .int .u32 0, .int .u32 0, .int .u32 0, .int .u32 0, .int .u32 0, .int .u32 0, .int .u32 0, .int .u32 0, .int .u32 0] 40) := ⟨_, rfl⟩
  have hK : Keeps (fun _ => False) w W := by rw [hW]; exact (Keeps.refl _ w).alloc _
  have hB : Blk W w.heap.size [.int .u32 0, .int .u32 0, .int .u32 0, .int .u32 0, .int .u32 0, .int .u32 0, .int .u32 0, .int .u32 0, .int .u32 0, .int .u32 0, .int .u32 0, .int .u32 0, .int .u32 0, .int .u32 0, .int .u32 0, .int .u32 0, .int .u32 0] 40 := by rw [hW]; exact Blk.new w _ 40
  have hC := h.kept hK fun _ _ h => h
  have HRa : Hid (W.rangeAt c 0 (ctx rg pc) ∧ (Tryz.prog.info? 89).map (·.size) = some (ctx rg pc).length) := ⟨hC.range, info89 h.len pc⟩
  have HTh : Hid (W.there w.heap.size 0 (ctx rg pc).toArray.size ∧ (Tryz.prog.info? 40).map (·.size) = some (ctx rg pc).toArray.size ∧ (ctx rg pc).toArray.all (·.oneCell') = true) := by
    have hl17 : (ctx rg pc).length = 17 := ctx_len h.len _
    refine ⟨fun j hj => ⟨?_, hB.frozen _⟩, by rw [List.size_toArray, hl17]; kernel_rfl, all_oneCell_toArray (ctx_one _ _)⟩
    have hj' : j < 17 := by simpa [hl17] using hj
    rw [hB.cell (List.getElem?_eq_getElem (by simpa using hj'))]
    rfl
  have hB2 := blk_setCells (b := w.heap.size) (t := 40) (ctx rg pc) [.int .u32 0, .int .u32 0, .int .u32 0, .int .u32 0, .int .u32 0, .int .u32 0, .int .u32 0, .int .u32 0, .int .u32 0, .int .u32 0, .int .u32 0, .int .u32 0, .int .u32 0, .int .u32 0, .int .u32 0, .int .u32 0, .int .u32 0] [] [] W hB (by rw [ctx_len h.len]; rfl)
  have HE : Hid (Blk (W.setCells w.heap.size 0 (ctx rg pc).toArray.toList) w.heap.size (ctx rg pc) 40 ∧ Keeps (fun _ => False) w (W.setCells w.heap.size 0 (ctx rg pc).toArray.toList) ∧ (Tryz.prog.info? 40).map (·.size) = some (ctx rg pc).length) :=
    ⟨by simpa using hB2, (hK.mono fun _ _ h => h).trans (keeps_setCells w.heap.size _ 0 W) fun k hk e => by omega, by rw [ctx_len h.len]; kernel_rfl⟩
  have HW : Hid (W = w.alloc (.cells #[.int .u32 0, .int .u32 0, .int .u32 0, .int .u32 0, .int .u32 0, .int .u32 0, .int .u32 0, .int .u32 0, .int .u32 0, .int .u32 0, .int .u32 0, .int .u32 0, .int .u32 0, .int .u32 0, .int .u32 0, .int .u32 0, .int .u32 0] 40)) := hW
  clear h hK hB hC hB2 hW
  go_enter Tryz.func19, Tryz.ntmps19
  go_upto_region 3 with fail
  rw [← HW.out]
  go_wp2_with (refine wpList_load_mid rfl 89 (.tmp 8) rfl c 0 rfl (ctx rg pc) _ HRa.out.1 Tryz.underlying89 rfl HRa.out.2 ?_; refine Hid.out ?_)
  unfold Hid
  go_wp2_with (refine wpList_store_mid rfl 40 (.tmp 2) (.tmp 9) rfl w.heap.size 0 (ctx rg pc).toArray rfl rfl HTh.out.1 HTh.out.2.1 HTh.out.2.2 ?_; refine Hid.out ?_)
  unfold Hid
  go_wp2
  refine bodyPost_ret (results_cell_one (p := 2) (ty := 40) rfl _ _ ⟨w.heap.size, 0, none⟩ _ rfl (load_blk HE.out.1 40 _ Tryz.underlying40 rfl HE.out.2.2)) rfl ?_
  exact ⟨rfl, HE.out.2.1⟩

/-- Another context is put in its place. -/
theorem set_any (c tb cb : Nat) (rg rg' : List UInt32) (pc pc' : Nat) (ls : List Tl.Lf) (st : Nat → List Int) (FT FC : Nat → Prop) (w : World) (h : CoreAt w c tb cb rg pc ls st FT FC) (hl : rg'.length = 16) (hp : pc' < 4294967296) :
    Calls Tryz.prog 27 #[ptr c, .agg (ctx rg' pc').toArray] w fun e w' => e = .returned (.tuple #[]) ∧ CoreAt w' c tb cb rg' pc' ls st FT FC ∧ Keeps (· = c) w w' := by
  obtain ⟨W, hW⟩ : ∃ W, W = w.alloc (.cells (ctx rg' pc').toArray 40) := ⟨_, rfl⟩
  have hK : Keeps (fun _ => False) w W := by rw [hW]; exact (Keeps.refl _ w).alloc _
  have hB : Blk W w.heap.size (ctx rg' pc') 40 := by rw [hW]; exact Blk.new w _ 40
  have hC := h.kept hK fun _ _ h => h
  have HRa : Hid (W.rangeAt w.heap.size 0 (ctx rg' pc') ∧ (Tryz.prog.info? 40).map (·.size) = some (ctx rg' pc').length) := ⟨fun j v hv => by rw [Nat.zero_add]; exact hB.cell hv, by rw [ctx_len hl]; kernel_rfl⟩
  have HTh : Hid (W.there c 0 (ctx rg' pc').toArray.size ∧ (Tryz.prog.info? 89).map (·.size) = some (ctx rg' pc').toArray.size ∧ (ctx rg' pc').toArray.all (·.oneCell') = true) := by
    have hl17 : (ctx rg' pc').length = 17 := ctx_len hl _
    refine ⟨fun j hj => ⟨?_, hC.blk.frozen _⟩, by simpa using info89 hl pc', all_oneCell_toArray (ctx_one _ _)⟩
    have hj' : j < 17 := by simpa [hl17] using hj
    have h19 := (cs17 rg pc tb cb h.len).2.2.2
    rw [hC.blk.cell (List.getElem?_eq_getElem (by rw [h19]; omega))]
    rfl
  have hB2 := blk_setCells (b := c) (t := 91) (ctx rg' pc') (ctx rg pc) [] [ptr tb, ptr cb] W hC.blk (by rw [ctx_len h.len, ctx_len hl])
  have hKc := keeps_setCells c (ctx rg' pc') 0 W
  have HE : Hid (CoreAt (W.setCells c 0 (ctx rg' pc').toArray.toList) c tb cb rg' pc' ls st FT FC ∧ Keeps (· = c) w (W.setCells c 0 (ctx rg' pc').toArray.toList)) :=
    ⟨{ hC with blk := hB2, len := hl, tl := hC.tl.kept hKc fun k hk => (hC.ft k hk).1, ca := hC.ca.kept hKc fun k hk => hC.fc k hk, pcl := hp }, (hK.mono fun _ _ h => h.elim).trans hKc fun _ _ e => e⟩
  have HW : Hid (W = w.alloc (.cells (ctx rg' pc').toArray 40)) := hW
  clear h hK hB hC hB2 hW hKc
  go_enter Tryz.func27, Tryz.ntmps27
  go_upto_region 2 with fail
  rw [← HW.out]
  go_wp2_with (refine wpList_load_mid rfl 40 (.tmp 3) rfl w.heap.size 0 rfl (ctx rg' pc') _ HRa.out.1 Tryz.underlying40 rfl HRa.out.2 ?_; refine Hid.out ?_)
  unfold Hid
  go_wp2_with (refine wpList_store_mid rfl 89 (.tmp 9) (.tmp 7) rfl c 0 (ctx rg' pc').toArray rfl rfl HTh.out.1 HTh.out.2.1 HTh.out.2.2 ?_; refine Hid.out ?_)
  unfold Hid
  go_wp2
  go_end0
  exact ⟨rfl, HE.out⟩

end Go.Proofs.YtipejahmjdamjaaGreatDoor
namespace Go.Proofs.YtipejahmjdamjaaGreatDoor
open Go.RowKit Go.Shelf
set_option linter.unusedVariables false
set_option maxRecDepth 6000

/-- The memory of the chapter's example. -/
def smallL : List UInt32 := [2147483656, 0, 0, 0, 0, 0, 0, 0, 0, 0, 0, 0, 0, 0, 0, 0, 2147483671, 2147483673, 0, 0, 0, 0, 0, 0, 0, 0, 0, 0, 0, 0, 0, 0, 205520901, 1283457040, 1346371600, 2013265926, 0, 0, 0, 0, 0, 0, 0, 0, 0, 0, 0, 0, 77, 0, 0, 0, 0, 0, 0, 0, 0, 0, 0, 0, 0, 0, 0, 0]
def rg1 : List UInt32 := [0, 5, 0, 0, 0, 0, 0, 0, 0, 0, 0, 0, 0, 0, 0, 0]
def rg2 : List UInt32 := [0, 5, 77, 0, 0, 0, 0, 0, 0, 0, 0, 0, 0, 0, 0, 0]
def R1 (c b : Nat) : Nat × Mc := (0, ⟨⟨rg1, 1, c, b, 0, 900, 3, 1, 0, 0, 5, 14, 0, -1, 0, 205520901, false, 0, 0⟩, smallL, [⟨0, 2, 7⟩], Ch.step 8 fun _ => []⟩)
def R2 (c b : Nat) : Nat × Mc := (0, ⟨⟨rg2, 2, c, b, 0, 914, 19, 2, 0, 0, 16, 15, 0, -1, 1, 1283457040, true, 16, 77⟩, smallL, [⟨0, 2, 7⟩, ⟨1, 3, 1⟩], Ch.step 12 (Ch.step 8 (Ch.step 8 fun _ => []))⟩)

theorem sp_eq {t u : Sp} (h0 : t.rg = u.rg) (h1 : t.pc = u.pc) (h2 : t.c = u.c) (h3 : t.m = u.m) (h4 : t.root = u.root) (h5 : t.clock = u.clock) (h6 : t.op = u.op) (h7 : t.a = u.a) (h8 : t.b = u.b) (h9 : t.d = u.d) (h10 : t.imm = u.imm) (h11 : t.cost = u.cost) (h12 : t.trap = u.trap) (h13 : t.call = u.call) (h14 : t.apc = u.apc) (h15 : t.word = u.word) (h16 : t.rd = u.rd) (h17 : t.addr = u.addr) (h18 : t.val = u.val) : t = u := by
  cases t; cases u
  simp only at *
  subst_vars
  rfl
theorem mc_eq {M N : Mc} (h1 : M.t = N.t) (h2 : M.xs = N.xs) (h3 : M.ls = N.ls) (h4 : M.st = N.st) : M = N := by
  cases M; cases N
  simp only at *
  subst_vars
  rfl

theorem carry_eval (n : Nat) (t : Sp) (xs : List UInt32) (ls : List Tl.Lf) (st : Nat → List Int) (P x : Nat) (hP : rcP n xs t.root ls t.pc 4 = some P) (hx : (xs.getD P 0).toNat = x) (hd : Is.decOk x = true) (r : Mc)
    (hr : opM n ⟨((t.fetched (t.cost + rcW ls t.pc + Ch.cost (P / 4) st) x).dec x).goes (wd (t.pc + 1)), xs, rcL n xs t.root ls t.pc, Ch.step (P / 4) st⟩ = (0, r)) :
    carryM n ⟨t, xs, ls, st⟩ = (0, { r with t := r.t.pay (r.t.cost + Is.costOf (Is.rdOp x)) }) := by
  unfold carryM
  dsimp only
  rw [hP]
  dsimp only
  rw [hx, hd]
  simp only [if_true]
  rw [hr]
  simp

theorem opM_li (n : Nat) (t : Sp) (xs : List UInt32) (ls : List Tl.Lf) (st : Nat → List Int) (h : t.op = 3) : opM n ⟨t, xs, ls, st⟩ = (0, ⟨t.put (UInt32.ofNat (wd t.imm)), xs, ls, st⟩) := by
  unfold opM
  dsimp only
  rw [if_neg (by omega), if_pos h]

theorem small_l1 : rcL 4 smallL 0 [] 0 = [⟨0, 2, 7⟩] := by kernel_rfl
theorem small_l2 : rcL 4 smallL 0 [⟨0, 2, 7⟩] 1 = [⟨0, 2, 7⟩] := by kernel_rfl
theorem small_l3 : rcL 4 smallL 0 [⟨0, 2, 7⟩] 16 = [⟨0, 2, 7⟩, ⟨1, 3, 1⟩] := by kernel_rfl

theorem small_R1 (c b : Nat) : R1 c b = carryM 4 ⟨sp0 (List.replicate 16 0) 0 c b 0 900, smallL, [], fun _ => []⟩ := by
  rw [carry_eval 4 _ _ _ _ 32 205520901 (by kernel_rfl) (by kernel_rfl) (by kernel_rfl) ⟨⟨rg1, 1, c, b, 0, 900, 3, 1, 0, 0, 5, 13, 0, -1, 0, 205520901, false, 0, 0⟩, smallL, [⟨0, 2, 7⟩], Ch.step 8 fun _ => []⟩ ?_]
  · simp only [R1, Sp.pay, show Is.costOf (Is.rdOp 205520901) = 1 by kernel_rfl]
    rfl
  · rw [show opM 4 _ = _ from opM_li _ _ _ _ _ (by kernel_rfl)]
    refine congrArg (Prod.mk 0) (mc_eq (sp_eq (by kernel_rfl) (by kernel_rfl) (by kernel_rfl) (by kernel_rfl) (by kernel_rfl) (by kernel_rfl) (by kernel_rfl) (by kernel_rfl) (by kernel_rfl) (by kernel_rfl) (by kernel_rfl) (by kernel_rfl) (by kernel_rfl) (by kernel_rfl) (by kernel_rfl) (by kernel_rfl) (by kernel_rfl) (by kernel_rfl) (by kernel_rfl)) rfl (by simp only [sp0]; exact small_l1) rfl)

theorem opM_ld (n : Nat) (t : Sp) (xs : List UInt32) (ls : List Tl.Lf) (st : Nat → List Int) (P : Nat) (h : t.op = 19) (hP : rcP n xs t.root ls t.x 1 = some P) :
    opM n ⟨t, xs, ls, st⟩ = (0, ⟨t.loaded (t.cost + rcW ls t.x + Ch.cost (P / 4) st) (xs.getD P 0), xs, rcL n xs t.root ls t.x, Ch.step (P / 4) st⟩) := by
  unfold opM
  dsimp only
  rw [if_neg (by omega), if_neg (by omega), if_neg (by omega), if_neg (by omega), if_neg (by omega), if_pos h, hP]

theorem small_R2 (c b : Nat) : R2 c b = carryM 4 ⟨sp0 rg1 1 c b 0 914, smallL, [⟨0, 2, 7⟩], Ch.step 8 fun _ => []⟩ := by
  rw [carry_eval 4 _ _ _ _ 33 1283457040 (by kernel_rfl) (by kernel_rfl) (by kernel_rfl) ⟨⟨rg2, 2, c, b, 0, 914, 19, 2, 0, 0, 16, 14, 0, -1, 1, 1283457040, true, 16, 77⟩, smallL, [⟨0, 2, 7⟩, ⟨1, 3, 1⟩], Ch.step 12 (Ch.step 8 (Ch.step 8 fun _ => []))⟩ ?_]
  · simp only [R2, Sp.pay, show Is.costOf (Is.rdOp 1283457040) = 1 by kernel_rfl]
    rfl
  · rw [show opM 4 _ = _ from opM_ld _ _ _ _ _ 48 (by kernel_rfl) (by kernel_rfl)]
    refine congrArg (Prod.mk 0) (mc_eq (sp_eq (by kernel_rfl) (by kernel_rfl) (by kernel_rfl) (by kernel_rfl) (by kernel_rfl) (by kernel_rfl) (by kernel_rfl) (by kernel_rfl) (by kernel_rfl) (by kernel_rfl) (by kernel_rfl) (by kernel_rfl) (by kernel_rfl) (by kernel_rfl) (by kernel_rfl) (by kernel_rfl) (by kernel_rfl) (by kernel_rfl) (by kernel_rfl)) rfl ?_ rfl)
    simp only [sp0, small_l2, Sp.fetched, Sp.dec, Sp.goes]
    rw [show Sp.x _ = 16 by kernel_rfl]
    exact small_l3

end Go.Proofs.YtipejahmjdamjaaGreatDoor
namespace Go.Proofs.YtipejahmjdamjaaGreatDoor
open Go.RowKit Go.Shelf
set_option linter.unusedVariables false
set_option maxRecDepth 6000

theorem small_any (w : World) : Calls Tryz.prog 42 #[] w fun e w' => e = .returned (.slice (some ⟨w.heap.size, 0, none⟩) 64 64) ∧ Blk w' w.heap.size (wvs smallL) 37 ∧ Keeps (fun _ => False) w w' := by
  obtain ⟨W1, hW1⟩ : ∃ W1, W1 = w.alloc (.cells (wvs (List.replicate 64 0)).toArray 37) := ⟨_, rfl⟩
  have HM : Hid ((Instr.makeSlice 22 (.int .i64 64) (.int .i64 64)).run Tryz.prog w = .ok (.slice (some ⟨w.heap.size, 0, none⟩) 64 64) W1) := by rw [hW1]; exact run_make_words 64 (by omega)
  have hB : Blk W1 w.heap.size (wvs (List.replicate 64 0)) 37 := by rw [hW1]; exact Blk.new w _ 37
  have hK : Keeps (fun _ => False) w W1 := by rw [hW1]; exact (Keeps.refl _ w).alloc _
  obtain ⟨g, eg⟩ : ∃ g, g = w.heap.size := ⟨_, rfl⟩
  rw [← eg] at HM hB ⊢
  have hB2 := ((((((((hB.setCell 0 (.int .u32 2147483656)).setCell 16 (.int .u32 2147483671)).setCell 17 (.int .u32 2147483673)).setCell 32 (.int .u32 205520901)).setCell 33 (.int .u32 1283457040)).setCell 34 (.int .u32 1346371600)).setCell 35 (.int .u32 2013265926)).setCell 48 (.int .u32 77))
  have hK2 : Keeps (· = g) W1 ((((((((W1.setCell ⟨g, 0, none⟩ (.int .u32 2147483656)).setCell ⟨g, 16, none⟩ (.int .u32 2147483671)).setCell ⟨g, 17, none⟩ (.int .u32 2147483673)).setCell ⟨g, 32, none⟩ (.int .u32 205520901)).setCell ⟨g, 33, none⟩ (.int .u32 1283457040)).setCell ⟨g, 34, none⟩ (.int .u32 1346371600)).setCell ⟨g, 35, none⟩ (.int .u32 2013265926)).setCell ⟨g, 48, none⟩ (.int .u32 77)) := (((((((((Keeps.refl (· = g) W1).setCell _ _ fun _ => rfl).setCell _ _ fun _ => rfl).setCell _ _ fun _ => rfl).setCell _ _ fun _ => rfl).setCell _ _ fun _ => rfl).setCell _ _ fun _ => rfl).setCell _ _ fun _ => rfl).setCell _ _ fun _ => rfl)
  have HE : Hid (Blk ((((((((W1.setCell ⟨g, 0, none⟩ (.int .u32 2147483656)).setCell ⟨g, 16, none⟩ (.int .u32 2147483671)).setCell ⟨g, 17, none⟩ (.int .u32 2147483673)).setCell ⟨g, 32, none⟩ (.int .u32 205520901)).setCell ⟨g, 33, none⟩ (.int .u32 1283457040)).setCell ⟨g, 34, none⟩ (.int .u32 1346371600)).setCell ⟨g, 35, none⟩ (.int .u32 2013265926)).setCell ⟨g, 48, none⟩ (.int .u32 77)) g (wvs smallL) 37 ∧ Keeps (fun _ => False) w ((((((((W1.setCell ⟨g, 0, none⟩ (.int .u32 2147483656)).setCell ⟨g, 16, none⟩ (.int .u32 2147483671)).setCell ⟨g, 17, none⟩ (.int .u32 2147483673)).setCell ⟨g, 32, none⟩ (.int .u32 205520901)).setCell ⟨g, 33, none⟩ (.int .u32 1283457040)).setCell ⟨g, 34, none⟩ (.int .u32 1346371600)).setCell ⟨g, 35, none⟩ (.int .u32 2013265926)).setCell ⟨g, 48, none⟩ (.int .u32 77))) := ⟨hB2, hK.trans hK2 fun k hk e => by omega⟩
  have c0 : W1.cell? ⟨g, 0, none⟩ = some (.int .u32 0) := hB.cell rfl
  have f0 := hB.frozen 0
  have c1 : W1.cell? ⟨g, 16, none⟩ = some (.int .u32 0) := hB.cell rfl
  have f1 := hB.frozen 16
  have c2 : W1.cell? ⟨g, 17, none⟩ = some (.int .u32 0) := hB.cell rfl
  have f2 := hB.frozen 17
  have c3 : W1.cell? ⟨g, 32, none⟩ = some (.int .u32 0) := hB.cell rfl
  have f3 := hB.frozen 32
  have c4 : W1.cell? ⟨g, 33, none⟩ = some (.int .u32 0) := hB.cell rfl
  have f4 := hB.frozen 33
  have c5 : W1.cell? ⟨g, 34, none⟩ = some (.int .u32 0) := hB.cell rfl
  have f5 := hB.frozen 34
  have c6 : W1.cell? ⟨g, 35, none⟩ = some (.int .u32 0) := hB.cell rfl
  have f6 := hB.frozen 35
  have c7 : W1.cell? ⟨g, 48, none⟩ = some (.int .u32 0) := hB.cell rfl
  have f7 := hB.frozen 48
  clear hW1 hB hK eg hB2 hK2
  go_enter Tryz.func42, Tryz.ntmps42
  go_wp2_with (at_make; refine wpList_make_run rfl (.const (.int .i64 64)) (.const (.int .i64 64)) 22 rfl (.int .i64 64) (.int .i64 64) (.slice (some ⟨g, 0, none⟩) 64 64) W1 rfl rfl HM.out ?_; refine Hid.out ?_)
  unfold Hid
  go_wp2
  go_ret
  exact ⟨rfl, HE.out⟩

end Go.Proofs.YtipejahmjdamjaaGreatDoor
namespace Go.Proofs.YtipejahmjdamjaaGreatDoor
open Go.RowKit Go.Shelf
set_option linter.unusedVariables false
set_option maxRecDepth 6000

theorem step_r1 (c tb cb b g : Nat) (FT FC : Nat → Prop) (w : World) (h : CoreAt w c tb cb (List.replicate 16 0) 0 [] (fun _ => []) FT FC) (hM : Mn w b g 4 smallL) (hap : ∀ k, (k = c ∨ FT k ∨ FC k) → k ≠ b ∧ k ≠ g) (hT : Is.Tabs w) (hg : 2 ≤ g) :
    Calls Tryz.prog 26 #[ptr c, ptr b, .int .i64 0, .int .u32 900] w fun e w' => e = .returned (.tuple #[.agg #[.int .i64 14, .int .i64 0, .int .i64 (-1), .int .u32 0, .int .u32 205520901, .bool false, .int .u32 0, .int .u32 0], .int .i64 0]) ∧ Stepped w w' c tb cb b g 4 FT FC rg1 1 smallL [⟨0, 2, 7⟩] (Ch.step 8 fun _ => []) :=
  step_any c tb cb b g 4 0 900 _ 0 _ _ FT FC smallL w h hM hap hT hg (by omega) (by omega) (R1 c b) (small_R1 c b)

theorem step_r2 (c tb cb b g : Nat) (FT FC : Nat → Prop) (w : World) (h : CoreAt w c tb cb rg1 1 [⟨0, 2, 7⟩] (Ch.step 8 fun _ => []) FT FC) (hM : Mn w b g 4 smallL) (hap : ∀ k, (k = c ∨ FT k ∨ FC k) → k ≠ b ∧ k ≠ g) (hT : Is.Tabs w) (hg : 2 ≤ g) :
    Calls Tryz.prog 26 #[ptr c, ptr b, .int .i64 0, .int .u32 914] w fun e w' => e = .returned (.tuple #[.agg #[.int .i64 15, .int .i64 0, .int .i64 (-1), .int .u32 1, .int .u32 1283457040, .bool true, .int .u32 16, .int .u32 77], .int .i64 0]) ∧ Stepped w w' c tb cb b g 4 FT FC rg2 2 smallL [⟨0, 2, 7⟩, ⟨1, 3, 1⟩] (Ch.step 12 (Ch.step 8 (Ch.step 8 fun _ => []))) :=
  step_any c tb cb b g 4 0 914 _ 1 _ _ FT FC smallL w h hM hap hT hg (by omega) (by omega) (R2 c b) (small_R2 c b)

/-- All that a step leaves, for the next one. -/
theorem Stepped.tabs {w w' : World} {c tb cb b g n : Nat} {FT FC : Nat → Prop} {rg : List UInt32} {pc : Nat} {xs : List UInt32} {ls : List Tl.Lf} {st : Nat → List Int} (h : Stepped w w' c tb cb b g n FT FC rg pc xs ls st) (hT : Is.Tabs w) (hc : ∀ k, (k = c ∨ FT k ∨ FC k) → 2 ≤ k) (hg : 2 ≤ g) : Is.Tabs w' :=
  tabs_kept hT h.kp fun k hk => by
    rcases hk with e | e | e | e
    · exact hc k (.inl e)
    · omega
    · exact hc k (.inr (.inl e))
    · exact hc k (.inr (.inr e))

theorem field_c2 (w : World) : (Instr.field 40 (.agg #[.int .u32 0, .int .u32 5, .int .u32 77, .int .u32 0, .int .u32 0, .int .u32 0, .int .u32 0, .int .u32 0, .int .u32 0, .int .u32 0, .int .u32 0, .int .u32 0, .int .u32 0, .int .u32 0, .int .u32 0, .int .u32 0, .int .u32 2]) 0).run Tryz.prog w = .ok (.agg #[.int .u32 0, .int .u32 5, .int .u32 77, .int .u32 0, .int .u32 0, .int .u32 0, .int .u32 0, .int .u32 0, .int .u32 0, .int .u32 0, .int .u32 0, .int .u32 0, .int .u32 0, .int .u32 0, .int .u32 0, .int .u32 0]) w := by kernel_rfl
theorem index_c2 (w : World) : (Instr.index 38 (.agg #[.int .u32 0, .int .u32 5, .int .u32 77, .int .u32 0, .int .u32 0, .int .u32 0, .int .u32 0, .int .u32 0, .int .u32 0, .int .u32 0, .int .u32 0, .int .u32 0, .int .u32 0, .int .u32 0, .int .u32 0, .int .u32 0]) (.int .i64 2)).run Tryz.prog w = .ok (.int .u32 77) w := by kernel_rfl

set_option maxHeartbeats 8000000 in
theorem awake_any (w : World) (hT : Is.Tabs w) : Calls Tryz.prog 12 #[] w fun e w' => e = .returned (.bool true) ∧ Keeps (fun _ => False) w w' := by
  have H1 : Hid (Calls _ _ _ _ _) := small_any w
  have HT : Hid (Is.Tabs w) := hT
  clear hT
  go_enter Tryz.func12, Tryz.ntmps12
  go_wp2_with fail
  refine H1.out.mono ?_
  rintro e w1 ⟨rfl, hB, hK1⟩
  have H2 : Hid (Calls Tryz.prog 8 #[.slice (some ⟨w.heap.size, 0, none⟩) 64 64] w1 fun e w' => ∃ b, e = .returned (.tuple #[ptr b, .int .i64 0]) ∧ Mn w' b w1.heap.size 4 smallL ∧ w1.heap.size ≤ b ∧ Keeps (fun _ => False) w1 w') := of_yes (some ⟨w.heap.size, 0, none⟩) 64 smallL 4 w1 (segW_of_blk hB) rfl (by omega) (by omega)
  have HK1 : Hid (Keeps (fun _ => False) w w1) := hK1
  clear hB hK1 H1
  go_wp2_with fail
  refine H2.out.mono ?_
  rintro e w2 ⟨b, rfl, hM, hb, hK2⟩
  obtain ⟨g, eg⟩ : ∃ g, g = w1.heap.size := ⟨_, rfl⟩
  rw [← eg] at hM
  have hT2 : Is.Tabs w2 := tabs_kept (tabs_kept HT.out HK1.out fun _ h => h.elim) hK2 fun _ h => h.elim
  have H3 : Hid (Calls _ _ _ _ _) := new_core w2 (tabs_two hT2)
  have HM : Hid (Mn w2 b g 4 smallL ∧ g = w1.heap.size ∧ w1.heap.size ≤ b ∧ Keeps (fun _ => False) w1 w2 ∧ Is.Tabs w2) := ⟨hM, eg, hb, hK2, hT2⟩
  clear hM eg hb hK2 hT2 H2
  go_wp2_with fail
  refine H3.out.mono ?_
  rintro e w3 ⟨c, tb, cb, FT, FC, rfl, hC, hn, hK3⟩
  obtain ⟨m1, m2, m3, m4, m5⟩ := HM.out
  have s1 := HK1.out.size
  have s2 := m4.size
  have s3 := tabs_two HT.out
  have hgb : b < w2.heap.size ∧ g < w2.heap.size := ⟨m1.mm.blk.lt, m1.mm.row.lt⟩
  have hap : ∀ k, (k = c ∨ FT k ∨ FC k) → k ≠ b ∧ k ≠ g := fun k hk => by have := hn k hk; exact ⟨by omega, by omega⟩
  have hT3 : Is.Tabs w3 := tabs_kept m5 hK3 fun _ h => h.elim
  have hM3 := m1.grown hK3
  have H4 : Hid (Calls _ _ _ _ _) := step_r1 c tb cb b g FT FC w3 hC hM3 hap hT3 (by omega)
  have H5 : Hid (CoreAt w3 c tb cb (List.replicate 16 0) 0 [] (fun _ => []) FT FC ∧ Is.Tabs w3 ∧ (∀ k, (k = c ∨ FT k ∨ FC k) → w.heap.size ≤ k) ∧ w.heap.size ≤ g ∧ Keeps (fun _ => False) w w3 ∧ 2 ≤ w.heap.size) := ⟨hC, hT3, fun k hk => by have := hn k hk; omega, by omega, (HK1.out.trans m4 fun _ _ h => h).trans hK3 fun _ _ h => h, s3⟩
  clear m1 m2 m3 m4 m5 s1 s2 s3 hgb hap hT3 hM3 hC hn hK3 H3
  go_wp2_with fail
  refine H4.out.mono ?_
  rintro e w4 ⟨rfl, hS⟩
  obtain ⟨⟨FT2, FC2, hC4, f1, f2, hap⟩, hM4, hK4⟩ := hS
  have hT4 : Is.Tabs w4 := Stepped.tabs ⟨⟨FT2, FC2, hC4, f1, f2, hap⟩, hM4, hK4⟩ H5.out.2.1 H5.out.1.two (by have := H5.out; omega)
  have hk : Keeps (fun _ => False) w4 (w4.alloc (.cells #[.int .i64 14, .int .i64 0, .int .i64 (-1), .int .u32 0, .int .u32 205520901, .bool false, .int .u32 0, .int .u32 0] 58)) := (Keeps.refl _ w4).alloc _
  have H6 : Hid (Calls _ _ _ _ _) := step_r2 c tb cb b g FT2 FC2 (w4.alloc (.cells #[.int .i64 14, .int .i64 0, .int .i64 (-1), .int .u32 0, .int .u32 205520901, .bool false, .int .u32 0, .int .u32 0] 58)) (hC4.kept hk fun _ _ h => h) (hM4.grown hk) hap (tabs_kept hT4 hk fun _ h => h.elim) (by have := H5.out; omega)
  have H7 : Hid (Keeps (fun _ => False) w w4 ∧ (∀ k, (k = c ∨ k = g ∨ FT2 k ∨ FC2 k) → w.heap.size ≤ k) ∧ w4.heap.size < (w4.alloc (.cells #[.int .i64 14, .int .i64 0, .int .i64 (-1), .int .u32 0, .int .u32 205520901, .bool false, .int .u32 0, .int .u32 0] 58)).heap.size) := by
    obtain ⟨p1, p2, p3, p4, p5, p6⟩ := H5.out
    have z := p5.size
    refine ⟨p5.trans hK4 fun k hk e => ?_, fun k hk => ?_, by simp⟩
    · rcases e with e | e | e | e
      · have := p3 k (.inl e); omega
      · omega
      · have := p3 k (.inr (.inl e)); omega
      · have := p3 k (.inr (.inr e)); omega
    · rcases hk with e | e | e | e
      · exact p3 k (.inl e)
      · omega
      · rcases f1 k e with e | e
        · exact p3 k (.inr (.inl e))
        · omega
      · rcases f2 k e with e | e
        · exact p3 k (.inr (.inr e))
        · omega
  have HA : Hid (Blk (w4.alloc (.cells #[.int .i64 14, .int .i64 0, .int .i64 (-1), .int .u32 0, .int .u32 205520901, .bool false, .int .u32 0, .int .u32 0] 58)) w4.heap.size [.int .i64 14, .int .i64 0, .int .i64 (-1), .int .u32 0, .int .u32 205520901, .bool false, .int .u32 0, .int .u32 0] 58 ∧ ¬ (fun k => k = c ∨ k = g ∨ FT2 k ∨ FC2 k) w4.heap.size) := ⟨Blk.new w4 _ 58, fun e => by
    have e1 := hC4.blk.lt
    have e2 := hM4.mm.row.lt
    rcases e with e | e | e | e
    · omega
    · omega
    · have := hC4.tl.lt _ e; omega
    · have := hC4.ca.lt _ e; omega⟩
  clear hC4 f1 f2 hap hM4 hK4 hT4 hk H4
  go_wp2_with fail
  refine H6.out.mono ?_
  rintro e w5 ⟨rfl, hS⟩
  obtain ⟨⟨FT3, FC3, hC5, f1, f2, hap⟩, hM5, hK5⟩ := hS
  have hb5 := HA.out.1.kept hK5 HA.out.2
  have hb6 := hb5.alloc (.cells #[.int .i64 15, .int .i64 0, .int .i64 (-1), .int .u32 1, .int .u32 1283457040, .bool true, .int .u32 16, .int .u32 77] 58)
  have c0 : (w5.alloc (.cells #[.int .i64 15, .int .i64 0, .int .i64 (-1), .int .u32 1, .int .u32 1283457040, .bool true, .int .u32 16, .int .u32 77] 58)).cell? ⟨w4.heap.size, 0, none⟩ = some (.int .i64 14) := hb6.cell rfl
  have hk : Keeps (fun _ => False) w5 (w5.alloc (.cells #[.int .i64 15, .int .i64 0, .int .i64 (-1), .int .u32 1, .int .u32 1283457040, .bool true, .int .u32 16, .int .u32 77] 58)) := (Keeps.refl _ w5).alloc _
  have H8 : Hid (Calls Tryz.prog 19 #[ptr c] (w5.alloc (.cells #[.int .i64 15, .int .i64 0, .int .i64 (-1), .int .u32 1, .int .u32 1283457040, .bool true, .int .u32 16, .int .u32 77] 58)) fun e w' => e = .returned (.agg #[.int .u32 0, .int .u32 5, .int .u32 77, .int .u32 0, .int .u32 0, .int .u32 0, .int .u32 0, .int .u32 0, .int .u32 0, .int .u32 0, .int .u32 0, .int .u32 0, .int .u32 0, .int .u32 0, .int .u32 0, .int .u32 0, .int .u32 2]) ∧ Keeps (fun _ => False) (w5.alloc (.cells #[.int .i64 15, .int .i64 0, .int .i64 (-1), .int .u32 1, .int .u32 1283457040, .bool true, .int .u32 16, .int .u32 77] 58)) w') := context_any c tb cb rg2 2 _ _ FT3 FC3 _ (hC5.kept hk fun _ _ h => h)
  have H9 : Hid (Keeps (fun _ => False) w (w5.alloc (.cells #[.int .i64 15, .int .i64 0, .int .i64 (-1), .int .u32 1, .int .u32 1283457040, .bool true, .int .u32 16, .int .u32 77] 58))) := by
    obtain ⟨p1, p2, p3⟩ := H7.out
    have z := p1.size
    exact ((p1.alloc _).trans hK5 fun k hk e => by have := p2 k e; omega).alloc _
  clear hC5 f1 f2 hap hM5 hK5 hb5 hb6 hk H6
  go_wp2_with fail
  refine H8.out.mono ?_
  rintro e w6 ⟨rfl, hK6⟩
  have HE : Hid (Keeps (fun _ => False) w w6) := H9.out.trans hK6 fun _ _ h => h
  clear hK6 H8 H9 c0
  have hf := field_c2 w6
  have hi := index_c2 w6
  go_wp2
  go_ret
  exact ⟨rfl, HE.out⟩

end Go.Proofs.YtipejahmjdamjaaGreatDoor
namespace Go.Proofs.YtipejahmjdamjaaGreatDoor
open Go.RowKit Go.Shelf
set_option linter.unusedVariables false
set_option maxRecDepth 6000

theorem costAt_one : ∀ i : Nat, i < 31 → 1 ≤ i → 1 ≤ Is.costAt i := by decide
theorem costOf_one {k : Int} (h : 1 ≤ k ∧ k ≤ 30) : 1 ≤ Is.costOf k := by
  unfold Is.costOf
  rw [show Is.rowOf k = k.toNat by unfold Is.rowOf; rw [if_neg (by omega)]]
  exact costAt_one _ (by omega) (by omega)

/-- What an operation may change. -/
structure OpP (n : Nat) (M : Mc) (r : Nat × Mc) : Prop where
  rg : ∃ i v, r.2.t.rg = M.t.rg.set i v
  trap : r.1 ≠ 0 → r.2.t.rd = M.t.rd ∧ r.2.t.call = M.t.call ∧ r.2.xs = M.xs
  cost : r.2.t.cost = M.t.cost ∨ M.t.op = 19 ∨ M.t.op = 20
  xs : r.2.xs = M.xs ∨ (r.1 = 0 ∧ M.t.op = 20 ∧ ∃ P, rcP n M.xs M.t.root M.ls M.t.x 2 = some P ∧ r.2.xs = lay M.xs P [M.t.A])

theorem set_far (l : List UInt32) (v : UInt32) : l.set l.length v = l := List.set_eq_of_length_le (Nat.le_refl _)

theorem OpP.put (n : Nat) (t : Sp) (xs : List UInt32) (ls : List Tl.Lf) (st : Nat → List Int) (v : UInt32) : OpP n ⟨t, xs, ls, st⟩ (0, ⟨t.put v, xs, ls, st⟩) := ⟨⟨t.a, v, rfl⟩, fun h => absurd rfl h, .inl rfl, .inl rfl⟩
theorem OpP.none (n : Nat) (t t' : Sp) (xs : List UInt32) (ls ls' : List Tl.Lf) (st st' : Nat → List Int) (k : Nat) (h1 : t'.rg = t.rg) (h2 : k ≠ 0 → t'.rd = t.rd ∧ t'.call = t.call) (h3 : t'.cost = t.cost ∨ t.op = 19 ∨ t.op = 20) : OpP n ⟨t, xs, ls, st⟩ (k, ⟨t', xs, ls', st'⟩) :=
  ⟨⟨t.rg.length, 0, by rw [set_far]; exact h1⟩, fun h => ⟨(h2 h).1, (h2 h).2, rfl⟩, h3, .inl rfl⟩

theorem opM_P (n : Nat) (M : Mc) : OpP n M (opM n M) := by
  obtain ⟨t, xs, ls, st⟩ := M
  unfold opM
  dsimp only
  by_cases h : t.op = 2
  · rw [if_pos h]
    exact OpP.put n t xs ls st _
  rw [if_neg h]
  clear h
  by_cases h : t.op = 3
  · rw [if_pos h]
    exact OpP.put n t xs ls st _
  rw [if_neg h]
  clear h
  by_cases h : t.op = 4
  · rw [if_pos h]
    exact OpP.put n t xs ls st _
  rw [if_neg h]
  clear h
  by_cases h : 5 ≤ t.op ∧ t.op ≤ 17
  · rw [if_pos h]
    by_cases h' : Al.doE t.op t.D.toNat = 0
    · rw [if_pos h']; exact OpP.put n t xs ls st _
    · rw [if_neg h']; exact OpP.none n t _ xs ls ls st st _ rfl (fun _ => ⟨rfl, rfl⟩) (.inl rfl)
  rw [if_neg h]
  clear h
  by_cases h : t.op = 18
  · rw [if_pos h]
    exact OpP.put n t xs ls st _
  rw [if_neg h]
  clear h
  by_cases h : t.op = 19
  · rw [if_pos h]
    cases hP : rcP n xs t.root ls t.x 1 with
    | none => exact OpP.none n t _ xs ls _ st _ _ rfl (fun _ => ⟨rfl, rfl⟩) (.inr (.inl h))
    | some P => exact ⟨⟨t.a, _, rfl⟩, fun h => absurd rfl h, .inr (.inl h), .inl rfl⟩
  rw [if_neg h]
  clear h
  by_cases h : t.op = 20
  · rw [if_pos h]
    cases hP : rcP n xs t.root ls t.x 2 with
    | none => exact OpP.none n t _ xs ls _ st _ _ rfl (fun _ => ⟨rfl, rfl⟩) (.inr (.inr h))
    | some P => exact ⟨⟨t.rg.length, 0, by rw [set_far]; rfl⟩, fun h => absurd rfl h, .inr (.inr h), .inr ⟨rfl, h, P, hP, rfl⟩⟩
  rw [if_neg h]
  clear h
  by_cases h : 21 ≤ t.op ∧ t.op ≤ 25
  · rw [if_pos h]
    cases Al.takeV t.op t.A.toNat t.B.toNat with
    | false => exact OpP.none n t t xs ls ls st st _ rfl (fun _ => ⟨rfl, rfl⟩) (.inl rfl)
    | true => exact OpP.none n t (t.goes t.far) xs ls ls st st _ rfl (fun _ => ⟨rfl, rfl⟩) (.inl rfl)
  rw [if_neg h]
  clear h
  by_cases h : t.op = 26
  · rw [if_pos h]
    exact OpP.none n t _ xs ls ls st st _ rfl (fun _ => ⟨rfl, rfl⟩) (.inl rfl)
  rw [if_neg h]
  clear h
  by_cases h : t.op = 27
  · rw [if_pos h]
    exact ⟨⟨t.a, _, rfl⟩, fun h => absurd rfl h, .inl rfl, .inl rfl⟩
  rw [if_neg h]
  clear h
  by_cases h : t.op = 28
  · rw [if_pos h]
    exact OpP.none n t _ xs ls ls st st _ rfl (fun _ => ⟨rfl, rfl⟩) (.inl rfl)
  rw [if_neg h]
  clear h
  by_cases h : t.op = 29
  · rw [if_pos h]
    exact OpP.put n t xs ls st _
  rw [if_neg h]
  clear h
  by_cases h : t.op = 30
  · rw [if_pos h]
    by_cases h' : 0 ≤ t.imm ∧ t.imm < 8
    · rw [if_pos h']; exact OpP.none n t _ xs ls ls st st _ rfl (fun e => absurd rfl e) (.inl rfl)
    · rw [if_neg h']; exact OpP.none n t _ xs ls ls st st _ rfl (fun _ => ⟨rfl, rfl⟩) (.inl rfl)
  rw [if_neg h]
  clear h
  exact OpP.none n t _ xs ls ls st st _ rfl (fun _ => ⟨rfl, rfl⟩) (.inl rfl)

end Go.Proofs.YtipejahmjdamjaaGreatDoor
