import Derived.Test.YtipejahmjdamjaaGreatDoorWa
import Derived.DeepKeys
namespace Go.Proofs.YtipejahmjdamjaaGreatDoor
open Go.RowKit Go.Shelf
set_option linter.unusedVariables false
set_option maxRecDepth 6000

/-- Each leaf is what the tables tell. -/
def Fresh (n : Nat) (xs : List UInt32) (root : Nat) (ls : List Tl.Lf) : Prop := ∀ l ∈ ls, ∃ p : Nat, walkE n xs root p = 0 ∧ l = toT (walkL n xs root p)

theorem walkL_page {n : Nat} {xs : List UInt32} {root p : Nat} (h : walkE n xs root p = 0) : (walkL n xs root p).page = p := by unfold walkL; rw [if_pos h]; rfl

theorem trL_fresh {n : Nat} {xs : List UInt32} {root : Nat} {ls : List Tl.Lf} {p : Nat} {l : Tl.Lf} (hF : Fresh n xs root ls) (h : trL n xs root ls p = some l) : walkE n xs root p = 0 ∧ l = toT (walkL n xs root p) := by
  unfold trL at h
  cases hf : Tl.findT p ls with
  | some y =>
    rw [hf] at h
    obtain rfl := Option.some.inj h
    obtain ⟨q, hq, e⟩ := hF y (List.mem_of_find?_eq_some hf)
    have hp := List.find?_some hf
    have : y.p = p := by simpa using hp
    have hy : y.p = (q : Int) := by rw [e]; show ((walkL n xs root q).page : Int) = q; rw [walkL_page hq]
    obtain rfl : q = p := by omega
    exact ⟨hq, e⟩
  | none =>
    rw [hf] at h
    dsimp only at h
    split at h
    · rename_i hw; exact ⟨hw, (Option.some.inj h).symm⟩
    · cases h

theorem trS_fresh {n : Nat} {xs : List UInt32} {root : Nat} {ls : List Tl.Lf} {p : Nat} (hF : Fresh n xs root ls) : Fresh n xs root (trS n xs root ls p) := by
  unfold trS
  cases hf : Tl.findT p ls with
  | some y =>
    dsimp only
    intro l hl
    unfold Tl.touchT at hl
    rw [hf] at hl
    dsimp only at hl
    rcases List.mem_append.1 hl with e | e
    · exact hF l (List.mem_filter.1 e).1
    · rw [List.mem_singleton.1 e]; exact hF y (List.mem_of_find?_eq_some hf)
  | none =>
    dsimp only
    split
    · rename_i hw
      intro l hl
      have h0 : ∀ l ∈ Tl.wo (toT (walkL n xs root p)).p ls ++ [toT (walkL n xs root p)], ∃ p : Nat, walkE n xs root p = 0 ∧ l = toT (walkL n xs root p) := fun l hl => by
        rcases List.mem_append.1 hl with e | e
        · exact hF l (List.mem_filter.1 e).1
        · rw [List.mem_singleton.1 e]; exact ⟨p, hw, rfl⟩
      unfold Tl.putT at hl
      split at hl
      · exact h0 l (List.mem_of_mem_tail hl)
      · exact h0 l hl
    · exact hF

theorem rcL_fresh {n : Nat} {xs : List UInt32} {root : Nat} {ls : List Tl.Lf} {a : Nat} (hF : Fresh n xs root ls) : Fresh n xs root (rcL n xs root ls a) := by
  unfold rcL
  split
  · exact hF
  · exact trS_fresh hF

theorem okR_sub : ∀ r : Nat, r < 8 → okR (r : Int) 2 = true → subR 2 r = true := by decide

/-- A place that is reached with the right to write is the one that the tables give. -/
theorem rcP_addr {n : Nat} {xs : List UInt32} {root : Nat} {ls : List Tl.Lf} {a P : Nat} (hF : Fresh n xs root ls) (hr : root < n) (h : rcP n xs root ls a 2 = some P) : addrE n xs root a 2 = 0 ∧ addrV n xs root a 2 = P := by
  unfold rcP at h
  split at h
  · cases h
  · rename_i h4
    cases ht : trL n xs root ls (a / 16) with
    | none => rw [ht] at h; cases h
    | some l =>
      rw [ht] at h
      dsimp only at h
      split at h
      · rename_i hc
        obtain ⟨hw, e⟩ := trL_fresh hF ht
        obtain rfl := Option.some.inj h
        have hi : ((a / 16 : Nat) : Int) = (a : Int) / 16 := by omega
        rw [hi] at hw e
        have hE : addrE n xs root a 2 = 0 := by
          unfold addrE
          rw [if_neg (by omega), if_neg (by omega), if_neg (by omega), if_neg (by omega), if_pos]
          refine okR_sub _ (walkL_rights _ _ _ _) ?_
          have := hc.2
          rw [e] at this
          exact this
        refine ⟨hE, ?_⟩
        unfold addrV
        rw [if_pos hE, e]
        show _ = 16 * ((walkL n xs root ((a : Int) / 16)).frame : Int).toNat + a % 16
        omega
      · cases h

def toW (rg : List UInt32) (x : Nat) : Nat := wd ((rg.getD (x / 262144 % 16) 0).toNat + wd (Is.sgn18 ((x % 262144 : Nat) : Int)))

theorem st_fields {x : Nat} (h : (Is.rdOp x).toNat = 20) : (Is.rdA x).toNat = x / 4194304 % 16 ∧ (Is.rdB x).toNat = x / 262144 % 16 ∧ Is.rdI x = Is.sgn18 ((x % 262144 : Nat) : Int) ∧ x / 67108864 = 20 := by
  have h0 : Is.rdOp x = 20 := by unfold Is.rdOp at h ⊢; omega
  have hf : Is.formOf 20 = 6 := by decide
  unfold Is.rdA Is.rdB Is.rdI
  rw [h0, hf]
  refine ⟨?_, ?_, ?_, ?_⟩
  · rw [show Is.hasA 6 = true from rfl, if_pos rfl]; omega
  · rw [show Is.hasB 6 = true from rfl, if_pos rfl]; omega
  · rw [show Is.hasI 6 = true from rfl, if_pos rfl]; congr 1
  · unfold Is.rdOp at h0; omega

/-- What a step of a core that holds nothing may change. -/
structure StepP (n : Nat) (xs : List UInt32) (root : Nat) (rg : List UInt32) (R : Nat × Mc) : Prop where
  rgs : ∃ i v, R.2.t.rg = rg.set i v
  trap : R.1 ≠ 0 → R.2.t.rd = false ∧ R.2.t.call = -1 ∧ R.2.xs = xs
  lo : 2 ≤ R.2.t.cost + (if R.1 = 0 then 0 else 10)
  hi : R.2.t.cost + (if R.1 = 0 then 0 else 10) ≤ 37
  ws : R.2.xs = xs ∨ (R.1 = 0 ∧ R.2.t.word / 67108864 = 20 ∧ ∃ P, addrE n xs root (toW rg R.2.t.word) 2 = 0 ∧ addrV n xs root (toW rg R.2.t.word) 2 = P ∧ P < n * 16 ∧ R.2.xs = lay xs P [rg.getD (R.2.t.word / 4194304 % 16) 0])

theorem costOf_mem {k : Int} (h : k = 19 ∨ k = 20) : Is.costOf k = 1 := by rcases h with rfl | rfl <;> decide

theorem carry_P (n : Nat) (rg : List UInt32) (pc c b root clock : Nat) (xs : List UInt32) (st : Nat → List Int) (hr : root < n) : StepP n xs root rg (carryM n ⟨sp0 rg pc c b root clock, xs, [], st⟩) := by
  obtain ⟨t, et⟩ : ∃ t, t = sp0 rg pc c b root clock := ⟨_, rfl⟩
  have e1 : t.rg = rg ∧ t.cost = 0 ∧ t.rd = false ∧ t.call = -1 ∧ t.root = root := by rw [et]; exact ⟨rfl, rfl, rfl, rfl, rfl⟩
  rw [← et]
  obtain ⟨e1, e2, e3, e4, e5⟩ := e1
  have hW := rcW_bd [] t.pc
  have hF : Fresh n xs root [] := fun l hl => by cases hl
  unfold carryM
  dsimp only
  cases hn : rcP n xs t.root [] t.pc 4 with
  | none =>
    refine ⟨⟨rg.length, 0, by rw [set_far]; exact e1⟩, fun _ => ⟨e3, e4, rfl⟩, ?_, ?_, .inl rfl⟩
    · simp only [Sp.pay, Nat.one_ne_zero, if_false]; omega
    · simp only [Sp.pay, Nat.one_ne_zero, if_false]; omega
  | some P =>
    have hC := toC_bd (some P) st
    have hC1 : 1 ≤ Ch.cost (P / 4) st := by unfold Ch.cost; split <;> omega
    simp only [toC] at hC
    dsimp only
    cases hd : Is.decOk (xs.getD P 0).toNat with
    | false =>
      refine ⟨⟨rg.length, 0, by rw [set_far]; exact e1⟩, fun _ => ⟨e3, e4, rfl⟩, ?_, ?_, .inl rfl⟩
      · simp only [Bool.false_eq_true, if_false, Sp.fetched, show ((2 : Nat) = 0) = False by simp]; omega
      · simp only [Bool.false_eq_true, if_false, Sp.fetched, show ((2 : Nat) = 0) = False by simp]; omega
    | true =>
      simp only [if_true]
      obtain ⟨x, ex⟩ : ∃ x, x = (xs.getD P 0).toNat := ⟨_, rfl⟩
      rw [← ex] at hd ⊢
      obtain ⟨M2, eM⟩ : ∃ M2 : Mc, M2 = ⟨((t.fetched (t.cost + rcW [] t.pc + Ch.cost (P / 4) st) x).dec x).goes (wd (t.pc + 1)), xs, rcL n xs t.root [] t.pc, Ch.step (P / 4) st⟩ := ⟨_, rfl⟩
      have m1 : M2.t.rg = rg ∧ M2.t.rd = false ∧ M2.t.call = -1 ∧ M2.xs = xs ∧ M2.t.root = root ∧ M2.t.word = x ∧ M2.ls = rcL n xs root [] t.pc := by rw [eM]; exact ⟨e1, e3, e4, rfl, e5, rfl, by rw [← e5]⟩
      have m2 : M2.t.cost = t.cost + rcW [] t.pc + Ch.cost (P / 4) st := by rw [eM]; rfl
      have m3 : M2.t.op = (Is.rdOp x).toNat := by rw [eM]; rfl
      have m4 : M2.t.a = (Is.rdA x).toNat ∧ M2.t.b = (Is.rdB x).toNat ∧ M2.t.imm = Is.rdI x := by rw [eM]; exact ⟨rfl, rfl, rfl⟩
      rw [← eM]
      clear eM
      obtain ⟨f1, f2, f3, f4, f5, f6, f7⟩ := m1
      have hP := opM_P n M2
      have hS := (opM_same n M2).1
      obtain ⟨⟨o1, o2⟩, _, _, _⟩ := dec_bd hd
      have c1 := costOf_one ⟨o1, o2⟩
      have c2 := costOf_bd (Is.rdOp x)
      have hlo := hS.lo
      have hhi := hS.hi
      have hw := hS.word
      obtain ⟨i, v, hrg⟩ := hP.rg
      rw [f1] at hrg
      have hxs : (opM n M2).2.xs = xs ∨ ((opM n M2).1 = 0 ∧ (opM n M2).2.t.word / 67108864 = 20 ∧ ∃ P, addrE n xs root (toW rg (opM n M2).2.t.word) 2 = 0 ∧ addrV n xs root (toW rg (opM n M2).2.t.word) 2 = P ∧ P < n * 16 ∧ (opM n M2).2.xs = lay xs P [rg.getD ((opM n M2).2.t.word / 4194304 % 16) 0]) := by
        rcases hP.xs with e | ⟨e0, e1', Q, hQ, e⟩
        · exact .inl (by rw [e, f4])
        · refine .inr ⟨e0, ?_⟩
          rw [m3] at e1'
          obtain ⟨s1, s2, s3, s4⟩ := st_fields e1'
          rw [hw, f6]
          have hx : M2.t.x = toW rg x := by unfold Sp.x toW; rw [f1, m4.2.1, m4.2.2, s2, s3]
          rw [f4, f5, f7, hx] at hQ
          have hg : ∀ l ∈ rcL n xs root [] t.pc, Tl.mayB l = true := fun l hl => by
            obtain ⟨p, hp, rfl⟩ := rcL_fresh (a := t.pc) hF l hl
            exact toT_may n xs root p hp
          obtain ⟨q1, q2⟩ := rcP_addr (rcL_fresh hF) hr hQ
          refine ⟨s4, Q, q1, q2, rcP_lt hg hQ, ?_⟩
          rw [e, f4]
          unfold Sp.A
          rw [f1, m4.1, s1]
      by_cases h0 : (opM n M2).1 = 0
      · rw [if_pos h0]
        have hcost : (opM n M2).2.t.cost + Is.costOf (Is.rdOp x) ≤ 37 := by
          rcases hP.cost with e | e | e
          · omega
          · have := costOf_mem (k := Is.rdOp x) (by omega); omega
          · have := costOf_mem (k := Is.rdOp x) (by omega); omega
        refine ⟨⟨i, v, hrg⟩, fun e => absurd rfl e, ?_, ?_, ?_⟩
        · simp only [Sp.pay, if_true]; omega
        · simp only [Sp.pay, if_true]; omega
        · rcases hxs with e | ⟨_, e⟩
          · exact .inl e
          · exact .inr ⟨rfl, e⟩
      · rw [if_neg h0]
        refine ⟨⟨i, v, hrg⟩, fun e => ⟨by rw [(hP.trap e).1, f2], by rw [(hP.trap e).2.1, f3], by rw [(hP.trap e).2.2, f4]⟩, ?_, ?_, hxs⟩
        · rw [if_neg h0]; omega
        · rw [if_neg h0]; omega

end Go.Proofs.YtipejahmjdamjaaGreatDoor
namespace Go.Proofs.YtipejahmjdamjaaGreatDoor
open Go.RowKit Go.Shelf
set_option linter.unusedVariables false
set_option maxRecDepth 6000

/-- How often something held till then, and where it held last. -/
def dif (f : Nat → Bool) : Nat → Nat
  | 0 => 0
  | i + 1 => if f i then dif f i + 1 else dif f i
def lst (f : Nat → Bool) : Nat → Nat
  | 0 => 0
  | i + 1 => if f i then i else lst f i

theorem dif_one {f : Nat → Bool} {P : Nat} (h : ∀ j, f j = true → j = P) : ∀ n, (dif f n = 0) ∨ (dif f n = 1 ∧ lst f n = P ∧ P < n ∧ f P = true)
  | 0 => .inl rfl
  | n + 1 => by
    unfold dif lst
    cases hf : f n with
    | true =>
      obtain rfl := h n hf
      rcases dif_one h n with e | ⟨_, _, e, _⟩
      · exact .inr ⟨by simp [e], by simp, by omega, hf⟩
      · omega
    | false =>
      simp only [Bool.false_eq_true, if_false]
      rcases dif_one h n with e | ⟨e1, e2, e3, e4⟩
      · exact .inl e
      · exact .inr ⟨e1, e2, by omega, e4⟩

theorem dif_le {f : Nat → Bool} (n : Nat) : dif f n ≤ n := by
  induction n with
  | zero => exact Nat.le_refl _
  | succ n ih => unfold dif; split <;> omega
theorem lst_le {f : Nat → Bool} (n : Nat) : lst f n ≤ n := by
  induction n with
  | zero => exact Nat.le_refl _
  | succ n ih => unfold lst; split <;> omega

set_option maxHeartbeats 4000000 in
theorem step_err (c tb cb b g n : Nat) (root : Int) (clock : Nat) (rg : List UInt32) (pc : Nat) (ls : List Tl.Lf) (st : Nat → List Int) (FT FC : Nat → Prop) (xs : List UInt32) (w : World) (h : CoreAt w c tb cb rg pc ls st FT FC) (hM : Mn w b g n xs) (hr : ¬ (0 ≤ root ∧ root < n)) :
    Calls Tryz.prog 26 #[ptr c, ptr b, .int .i64 root, .int .u32 clock] w fun e w' => e = .returned (.tuple #[.agg #[.int .i64 0, .int .i64 0, .int .i64 0, .int .u32 0, .int .u32 0, .bool false, .int .u32 0, .int .u32 0], .int .i64 91]) ∧ Keeps (fun _ => False) w w' := by
  obtain ⟨W, hW⟩ : ∃ W, W = w.alloc (.cells #[.int .i64 0, .int .i64 0, .int .i64 0, .int .u32 0, .int .u32 0, .bool false, .int .u32 0, .int .u32 0] 58) := ⟨_, rfl⟩
  have hK : Keeps (fun _ => False) w W := by rw [hW]; exact (Keeps.refl _ w).alloc _
  have hBA : Blk W w.heap.size [.int .i64 0, .int .i64 0, .int .i64 0, .int .u32 0, .int .u32 0, .bool false, .int .u32 0, .int .u32 0] 58 := by rw [hW]; exact Blk.new w _ 58
  have hMW := hM.grown hK
  have HFr : Hid (Calls Tryz.prog 34 #[ptr b] W fun e w' => e = .returned (.int .i64 n) ∧ w' = W) := frames_any b g xs n W hMW.mm hMW.len
  have HW : Hid (W = w.alloc (.cells #[.int .i64 0, .int .i64 0, .int .i64 0, .int .u32 0, .int .u32 0, .bool false, .int .u32 0, .int .u32 0] 58)) := hW
  have HB : Hid (Keeps (fun _ => False) w W ∧ Blk W w.heap.size [.int .i64 0, .int .i64 0, .int .i64 0, .int .u32 0, .int .u32 0, .bool false, .int .u32 0, .int .u32 0] 58) := ⟨hK, hBA⟩
  have y0 := hBA.cell (i := 0) rfl
  have x0 := hBA.frozen 0
  have y1 := hBA.cell (i := 1) rfl
  have x1 := hBA.frozen 1
  have y2 := hBA.cell (i := 2) rfl
  have x2 := hBA.frozen 2
  have y3 := hBA.cell (i := 3) rfl
  have x3 := hBA.frozen 3
  have y4 := hBA.cell (i := 4) rfl
  have x4 := hBA.frozen 4
  have y5 := hBA.cell (i := 5) rfl
  have x5 := hBA.frozen 5
  have y6 := hBA.cell (i := 6) rfl
  have x6 := hBA.frozen 6
  have y7 := hBA.cell (i := 7) rfl
  have x7 := hBA.frozen 7
  clear h hM hK hBA hMW hW
  by_cases h0 : root < 0
  · have g1 : decide (root < 0) = true := decide_eq_true h0
    clear hr h0
    go_enter Tryz.func26, Tryz.ntmps26
    go_upto_region 3 with fail
    rw [← HW.out]
    go_wp2
    obtain ⟨hT1, hT2⟩ := act_told HB.out.2 (.int .i64 0) (.int .i64 0) (.int .i64 0) (.int .u32 0) (.int .u32 0) (.bool false) (.int .u32 0) (.int .u32 0)
    refine bodyPost_ret (results_cell_tmp (p := 8) (u := 9) (ty := 58) rfl _ _ ⟨w.heap.size, 0, none⟩ _ rfl (load_act hT1 rfl)) rfl ?_
    exact ⟨rfl, HB.out.1.trans hT2 fun k hk e => by omega⟩
  · have g1 : decide (root < 0) = false := decide_eq_false h0
    have g2 : decide ((n : Int) ≤ root) = true := decide_eq_true (by omega)
    clear hr h0
    go_enter Tryz.func26, Tryz.ntmps26
    go_upto_region 3 with fail
    rw [← HW.out]
    go_wp2_with fail
    refine HFr.out.mono ?_
    rintro e W' ⟨rfl, hw⟩
    obtain rfl := hw.symm
    clear hw
    go_wp2
    obtain ⟨hT1, hT2⟩ := act_told HB.out.2 (.int .i64 0) (.int .i64 0) (.int .i64 0) (.int .u32 0) (.int .u32 0) (.bool false) (.int .u32 0) (.int .u32 0)
    refine bodyPost_ret (results_cell_tmp (p := 8) (u := 9) (ty := 58) rfl _ _ ⟨w.heap.size, 0, none⟩ _ rfl (load_act hT1 rfl)) rfl ?_
    exact ⟨rfl, HB.out.1.trans hT2 fun k hk e => by omega⟩

theorem sameWords_any (g h : Nat) (xs : List UInt32) (c d : Nat) (w : World) (h1 : Blk w g (wvs xs) 37) (h2 : Blk w h (wvs xs) 37) (hl : xs.length ≤ 16384) :
    Calls Tryz.prog 32 #[.slice (some ⟨g, 0, none⟩) xs.length c, .slice (some ⟨h, 0, none⟩) xs.length d] w fun e w' => e = .returned (.bool true) ∧ Keeps (fun _ => False) w w' := by
  obtain ⟨n, hn⟩ : ∃ n, n = xs.length := ⟨_, rfl⟩
  have HN : Hid (n = xs.length) := hn
  rw [← hn] at hl ⊢
  have H1 : Hid (Blk _ _ _ _) := h1
  have H2 : Hid (Blk _ _ _ _) := h2
  have hn1 : (n : Int) ≤ 16384 := by omega
  clear hn h1 h2 hl
  go_enter Tryz.func32, Tryz.ntmps32
  go_wp2
  go_loopw [5] (fun i wr => ∃ j : Nat, j ≤ n ∧ i = .int .i64 j ∧ Keeps (fun _ => False) w wr)
    (fun i _ => n - (Ch.intOf i).toNat)
  case atStart => exact ⟨0, by omega, rfl, Keeps.refl _ _⟩
  case round =>
    obtain ⟨j, hj, rfl, hKr⟩ := hrel
    have HK : Hid (Keeps (fun _ => False) w wr) := hKr
    clear hKr
    by_cases hlt : j < n
    · have hjx : j < xs.length := by have := HN.out; omega
      have c1 := (H1.out.kept HK.out (fun e => e)).cell (wvs_get xs j hjx)
      have c2 := (H2.out.kept HK.out (fun e => e)).cell (wvs_get xs j hjx)
      obtain ⟨v, hv⟩ : ∃ v : Nat, v = (xs[j]).toNat := ⟨_, rfl⟩
      rw [← hv] at c1 c2
      clear hv
      go_wp2
      go_quiet (fail)
      go_wp2
      go_roundw
      case rel => exact ⟨j + 1, by omega, by go_num, HK.out.drewN _⟩
      case measure => simp [Ch.intOf]; omega
    · obtain rfl : j = n := by omega
      go_wp2
      go_ret
      exact ⟨rfl, HK.out⟩

end Go.Proofs.YtipejahmjdamjaaGreatDoor
namespace Go.Proofs.YtipejahmjdamjaaGreatDoor
open Go.RowKit Go.Shelf
set_option linter.unusedVariables false
set_option maxRecDepth 6000

theorem wf_u32 (n : Nat) (h : n < 4294967296) : (Lit.int .u32 (n : Int)).wf = true := by
  have h1 : IntKind.u32.min = 0 := rfl
  have h2 : IntKind.u32.max = 4294967295 := rfl
  simp only [Lit.wf, h1, h2, Bool.and_eq_true, decide_eq_true_eq]
  omega

theorem lit_one (d n : Nat) (h : n < 4294967296) : (Tryz.prog.keyLits (d + 1) 37 [.int .u32 (n : Int)]).isSome = true := by
  unfold Program.keyLits
  rw [show Tryz.prog.underlying 37 = some (.int .u32) from Tryz.underlying37]
  simp [wf_u32 n h]

theorem mapM_isSome {α β : Type} {f : α → Option β} : ∀ {l : List α}, (∀ a ∈ l, (f a).isSome = true) → (l.mapM f).isSome = true
  | [], _ => by simp
  | a :: l, h => by
    obtain ⟨b, hb⟩ := Option.isSome_iff_exists.1 (h a (by simp))
    obtain ⟨bs, hbs⟩ := Option.isSome_iff_exists.1 (mapM_isSome (l := l) fun x hx => h x (by simp [hx]))
    simp [hb, hbs]

theorem lits_arr (d : Nat) (rg : List UInt32) (h : rg.length = 16) : (Tryz.prog.keyLits (d + 2) 38 (wvs rg)).isSome = true := by
  unfold Program.keyLits
  rw [Tryz.underlying38]
  have hc : Tryz.prog.cellsOf 38 = 16 := by kernel_rfl
  have hc1 : Tryz.prog.cellsOf 37 = 1 := by kernel_rfl
  dsimp only
  rw [if_pos (by rw [hc, wvs_length, h]), Option.isSome_map]
  refine mapM_isSome fun i hi => ?_
  have hi' : i < rg.length := by rw [h]; simpa using hi
  rw [hc1, Nat.mul_one, show ((wvs rg).drop i).take 1 = [.int .u32 (rg[i].toNat : Int)] from ?_]
  · exact lit_one d _ (rg_lt _)
  · rw [List.take_one, List.head?_drop, wvs_get rg i hi']; rfl

theorem key_ctx (rg : List UInt32) (pc : Nat) (h : rg.length = 16) (hp : pc < 4294967296) : ∃ l, keyOf Tryz.prog 40 (.agg (ctx rg pc).toArray) = some l := by
  refine Option.isSome_iff_exists.1 ?_
  unfold keyOf
  rw [Tryz.underlying40]
  have hc : Tryz.prog.cellsOf 40 = 17 := by kernel_rfl
  dsimp only
  rw [if_pos]
  · rw [Option.isSome_map]
    unfold Program.keyLits
    rw [Tryz.underlying40]
    dsimp only
    rw [if_pos ⟨by show (ctx rg pc).length = _; rw [hc, ctx_len h], by kernel_rfl⟩, Option.isSome_map]
    refine mapM_isSome fun f hf => ?_
    have hc38 : Tryz.prog.cellsOf 38 = 16 := by kernel_rfl
    have hc37 : Tryz.prog.cellsOf 37 = 1 := by kernel_rfl
    have hsz : Tryz.prog.types.size = 265 + 2 := by kernel_rfl
    have hcs : (Value.agg (ctx rg pc).toArray).cells.toList = ctx rg pc := rfl
    rw [hcs, hsz]
    simp only [List.mem_cons, List.not_mem_nil, or_false] at hf
    rcases hf with rfl | rfl
    · dsimp only
      rw [hc38, List.drop_zero, show (ctx rg pc).take 16 = wvs rg by unfold ctx; rw [List.take_append_of_le_length (by rw [wvs_length, h]; omega), List.take_of_length_le (by rw [wvs_length, h]; omega)]]
      exact lits_arr 265 rg h
    · dsimp only
      rw [hc37, show ((ctx rg pc).drop 16).take 1 = [.int .u32 (pc : Int)] by unfold ctx; rw [List.drop_append_of_le_length (by rw [wvs_length, h]; omega), List.drop_of_length_le (by rw [wvs_length, h]; omega)]; rfl]
      exact lit_one 266 pc hp
  · rw [show Tryz.prog.keyType 40 = true by kernel_rfl, Bool.true_and]
    unfold Value.formed
    rw [Tryz.underlying40]
    show ((ctx rg pc).toArray.size == Tryz.prog.cellsOf 40) = true
    rw [hc, List.size_toArray, ctx_len h]; rfl

theorem eq_ctx (rg : List UInt32) (pc : Nat) (h : rg.length = 16) (hp : pc < 4294967296) (w : World) : (Op.equal 40 (.agg (ctx rg pc).toArray) (.agg (ctx rg pc).toArray)).run Tryz.prog w = .ok true w := by
  obtain ⟨l, hl⟩ := key_ctx rg pc h hp
  obtain ⟨r, h1, h2⟩ := run_equal_deep (P := Tryz.prog) w (m := 5) (by omega) (k := 40) (by kernel_rfl) (by kernel_rfl) hl hl
  rw [h1, h2.2 rfl]

theorem neq_ctx (rg : List UInt32) (pc : Nat) (h : rg.length = 16) (hp : pc < 4294967296) (w : World) : (binOp .neq 40 (.agg (ctx rg pc).toArray) (.agg (ctx rg pc).toArray)).run Tryz.prog w = .ok (.bool false) w := by
  simp only [binOp]
  simp [eq_ctx rg pc h hp]
theorem eql_ctx (rg : List UInt32) (pc : Nat) (h : rg.length = 16) (hp : pc < 4294967296) (w : World) : (binOp .eql 40 (.agg (ctx rg pc).toArray) (.agg (ctx rg pc).toArray)).run Tryz.prog w = .ok (.bool true) w := by
  simp only [binOp]
  simp [eq_ctx rg pc h hp]

end Go.Proofs.YtipejahmjdamjaaGreatDoor
namespace Go.Proofs.YtipejahmjdamjaaGreatDoor
open Go.RowKit Go.Shelf
set_option linter.unusedVariables false
set_option maxRecDepth 6000

/-- What lies there while the answers are held against each other. -/
structure Bn (w wr : World) (X Y A b g b2 g2 n : Nat) (rg rgz : List UInt32) (pc pcz : Nat) (act : List Value) (xs xs7 : List UInt32) : Prop where
  x : Blk wr X (ctx rg pc) 40
  y : Blk wr Y (ctx rgz pcz) 40
  a : Blk wr A act 58
  m : Mn wr b g n xs7
  q : Mn wr b2 g2 n xs
  t : Is.Tabs wr
  k : Keeps (fun _ => False) w wr
theorem Bn.grown {w wr wr' : World} {X Y A b g b2 g2 n : Nat} {rg rgz : List UInt32} {pc pcz : Nat} {act : List Value} {xs xs7 : List UInt32} (h : Bn w wr X Y A b g b2 g2 n rg rgz pc pcz act xs xs7) (hK : Keeps (fun _ => False) wr wr') :
    Bn w wr' X Y A b g b2 g2 n rg rgz pc pcz act xs xs7 :=
  ⟨h.x.kept hK fun h => h, h.y.kept hK fun h => h, h.a.kept hK fun h => h, h.m.grown hK, h.q.grown hK, tabs_kept h.t hK fun _ h => h.elim, h.k.trans hK fun _ _ h => h⟩

theorem ctx_reg {rg : List UInt32} (pc j : Nat) (h : rg.length = 16) (hj : j < 16) : (ctx rg pc)[j]? = some (.int .u32 ((rg.getD j 0).toNat : Int)) := by
  unfold ctx
  rw [List.getElem?_append_left (by rw [wvs_length, h]; exact hj), wvs_get rg j (by omega), List.getD_eq_getElem?_getD, List.getElem?_eq_getElem (by omega)]
  rfl
theorem ctx_pc {rg : List UInt32} (pc : Nat) (h : rg.length = 16) : (ctx rg pc)[16]? = some (.int .u32 (pc : Int)) := by
  unfold ctx
  rw [List.getElem?_append_right (by rw [wvs_length, h]; omega), wvs_length, h]
  rfl

theorem wpList_load_on {P : Program} {ops : Array Oper} {rest : List Oper} {op : Oper} {a : Act} {w : World} {Q : Exit → Act → World → Prop} (hw : Region.wanted op (yielded ops a.tmps) = true) (ty : TypeId) (x : Operand) (ho : op.op = .load ty x)
    (b o : Nat) (hx : a.eval x = .pointer (some ⟨b, o, none⟩)) (cs : List Value) (d : TypeDesc) (hc : w.rangeAt b o cs)
    (hu : P.underlying ty = some d) (hd : d.isRow = true) (hi : (P.info? ty).map (·.size) = some cs.length)
    (h : wpList P ops Q rest (a.put op.dst (.agg cs.toArray)) w) : wpList P ops Q (op :: rest) a w :=
  wpList_step fun K hK => by
    rw [if_pos hw]
    exact wp_load_mid ty x ho b o hx cs d hc hu hd hi (hK _ _ h)

theorem wpList_neq_on {P : Program} {ops : Array Oper} {rest : List Oper} {o : Oper} {a : Act} {w : World} {Q : Exit → Act → World → Prop} (hw : Region.wanted o (yielded ops a.tmps) = true) (ty : TypeId) (x y : Operand) (t2 : TypeId) (ho : o.op = .binOp .neq ty x y t2)
    (vx vy : Array Value) (v : Value) (hx : a.eval x = .agg vx) (hy : a.eval y = .agg vy) (hm : P.eqGuardType P.depth ty = false) (hr : (binOp .neq ty (.agg vx) (.agg vy)).run P w = .ok v w)
    (h : wpList P ops Q rest (a.put o.dst v) w) : wpList P ops Q (o :: rest) a w :=
  wpList_step fun K hK => by
    rw [if_pos hw]
    unfold Oper.wp execOp
    simp only [ho, hx, hy, Sem.run_bind, run_eqGuard_agg _ _ _ _ _ _ _ hm, hr, Result.andThen_ok, Sem.run_pure]
    exact hK _ _ h

theorem lay_set (xs : List UInt32) (P : Nat) (v : UInt32) (h : P < xs.length) : lay xs P [v] = xs.set P v := by
  rw [List.set_eq_take_append_cons_drop, if_pos h]
  simp [lay]
theorem lay_other (xs : List UInt32) (P k : Nat) (v : UInt32) (hP : P < xs.length) (h : k ≠ P) : (lay xs P [v]).getD k 0 = xs.getD k 0 := by
  rw [lay_set xs P v hP]
  simp [List.getD, List.getElem?_set_ne (Ne.symm h)]
theorem lay_at (xs : List UInt32) (P : Nat) (v : UInt32) (h : P < xs.length) : (lay xs P [v]).getD P 0 = v := by
  rw [lay_set xs P v h]
  simp [List.getD, h]

theorem carry_word_lt (n : Nat) (rg : List UInt32) (pc c b root clock : Nat) (xs : List UInt32) (ls : List Tl.Lf) (st : Nat → List Int) (R : Nat × Mc) (hR : R = carryM n ⟨sp0 rg pc c b root clock, xs, ls, st⟩) : R.2.t.word < 4294967296 := by
  obtain ⟨t, et⟩ : ∃ t, t = sp0 rg pc c b root clock := ⟨_, rfl⟩
  have hc : t.word = 0 := by rw [et]; rfl
  rw [hR, ← et]
  unfold carryM
  dsimp only
  cases hn : rcP n xs t.root ls t.pc 4 with
  | none => show t.word < _; omega
  | some P =>
    dsimp only
    cases hd : Is.decOk (xs.getD P 0).toNat with
    | false => exact rg_lt (xs.getD P 0)
    | true =>
      simp only [if_true]
      obtain ⟨M2, eM⟩ : ∃ M2 : Mc, M2 = ⟨((t.fetched (t.cost + rcW ls t.pc + Ch.cost (P / 4) st) (xs.getD P 0).toNat).dec (xs.getD P 0).toNat).goes (wd (t.pc + 1)), xs, rcL n xs t.root ls t.pc, Ch.step (P / 4) st⟩ := ⟨_, rfl⟩
      have hp2 : M2.t.word < 4294967296 := by rw [eM]; exact rg_lt (xs.getD P 0)
      rw [← eM]
      have hS := (opM_same n M2).1.word
      by_cases h0 : (opM n M2).1 = 0
      · rw [if_pos h0]; show (opM n M2).2.t.word < _; omega
      · rw [if_neg h0]; omega

end Go.Proofs.YtipejahmjdamjaaGreatDoor
