import Derived.Test.YtgookbkaacidpaaGreatCn
namespace Go.Proofs.YtgookbkaacidpaaGreat
open Go.RowKit
set_option linter.unusedVariables false
set_option linter.unusedSimpArgs false
set_option maxRecDepth 6000

theorem Tryz.mixd : Tryz.prog.follows Departure.mixedOrders = true := by kernel_rfl
theorem Hid.mkq {p : Prop} (h : p) : Hid p := h
theorem enter_fn {P : Program} {F : FuncId} {fn : Func} (hf : P.funcs[F]? = some fn) (hn : (fn.name == "runtime.NumGoroutine") = false) (hb : fn.body.isNone = false) (args : Array Value) (w : World) :
    (callFunc F args).run P w = .ok (.enter F args) w := by
  have hn' : ¬ fn.name = "runtime.NumGoroutine" := by simpa using hn
  have hb' : ¬ fn.body = none := fun e => by rw [e] at hb; cases hb
  simp [callFunc, go_sem, hf, hn', hb']

/-- What is wrong, and where. -/
structure Flt where
  n : Int
  a : Int
  b : Int
deriving DecidableEq
abbrev Flt.v (x : Flt) : Value := .agg #[.int .i64 x.n, .int .i64 x.a, .int .i64 x.b]
def Flt.no : Flt := ⟨0, 0, 0⟩
def unl (h : Bool) (f : Flt) : Flt := if h then Flt.no else f
def inR (n a b : Int) : Bool := decide (a ≤ n) && decide (n ≤ b)
/-- The first thing that is wrong. -/
def firstF : List Flt → Flt
  | [] => Flt.no
  | f :: fs => if f.n = 0 then firstF fs else f

theorem within_any (n a b : Int) (w : World) : Calls Tryz.prog 16 #[.int .i64 n, .int .i64 a, .int .i64 b] w fun e w' => e = .returned (.bool (inR n a b)) ∧ w' = w := by
  unfold inR
  go_enter Tryz.func16, Tryz.ntmps16
  by_cases h : a ≤ n
  · have q : decide (a ≤ n) = true := by simpa using h
    go_wp2
    go_ret
    simp [h]
  · have q : decide (a ≤ n) = false := by simpa using h
    go_wp2
    go_ret
    simp [h]
theorem unless_any (h : Bool) (n a b : Int) (w : World) : Calls Tryz.prog 15 #[.bool h, .int .i64 n, .agg #[.int .i64 a, .int .i64 b]] w fun e w' => e = .returned (unl h ⟨n, a, b⟩).v ∧ Keeps (fun _ => False) w w' := by
  cases h
  · go_enter Tryz.func15, Tryz.ntmps15
    go_wp2
    (try simp only [Exit.inBlock, Exit.then])
    have hB := Blk.new (w.alloc (.cells #[.int .i64 a, .int .i64 b] 29)) #[.int .i64 n, .int .i64 a, .int .i64 b] 53
    simp only [World.size_alloc] at hB
    refine bodyPost_ret (results_cell_row rfl _ _ (w.heap.size + 1) 53 _ (0, 0) _ rfl hB Tryz.underlying53 rfl (by kernel_rfl)) rfl ?_
    exact ⟨rfl, ((Keeps.refl _ _).alloc _).alloc _⟩
  · go_enter Tryz.func15, Tryz.ntmps15
    go_wp2
    (try simp only [Exit.inBlock, Exit.then])
    have hB := Blk.new (w.alloc (.cells #[.int .i64 a, .int .i64 b] 29)) #[.int .i64 0, .int .i64 0, .int .i64 0] 53
    simp only [World.size_alloc] at hB
    refine bodyPost_ret (results_cell_row rfl _ _ (w.heap.size + 1) 53 _ (0, 0) _ rfl hB Tryz.underlying53 rfl (by kernel_rfl)) rfl ?_
    exact ⟨rfl, ((Keeps.refl _ _).alloc _).alloc _⟩

/-- What a question finds in the memory: the configuration, and blocks with what was captured. -/
structure Env (x : Cfg) (N : Nat) (L : List (Nat × List Value × TypeId)) (w : World) : Prop where
  cin : x.In w N
  nn : N ≤ w.heap.size
  bl : ∀ b ∈ L, Blk w b.1 b.2.1 b.2.2
theorem Env.kept {x : Cfg} {N : Nat} {L : List (Nat × List Value × TypeId)} {w w' : World} (h : Env x N L w) (hK : Keeps (fun _ => False) w w') : Env x N L w' :=
  ⟨h.cin.keeps h.nn hK, Nat.le_trans h.nn hK.size, fun b hb => (h.bl b hb).kept hK fun h => h⟩
theorem Env.kept' {x : Cfg} {N R : Nat} {L : List (Nat × List Value × TypeId)} {w w1 w2 : World} (h : Env x N L w) (h1 : Env x N L w1) (hR : w.heap.size ≤ R) (hK : Keeps (fun k => k = R) w1 w2) : Env x N L w2 :=
  ⟨h1.cin.below (hK.below h1.nn fun k e => by have := h.nn; omega), Nat.le_trans h1.nn hK.size, fun b hb => (h1.bl b hb).kept hK fun e => by have := (h.bl b hb).lt; omega⟩

/-- A question's answer. -/
def Ask (f : Nat) (bs : Array Value) (E : World → Prop) (g : Flt) : Prop :=
  ∀ w, E w → Calls Tryz.prog f bs w fun e w' => e = .returned g.v ∧ Keeps (fun _ => False) w w'
theorem Tryz.size53 : (Tryz.prog.info? 53).map (·.size) = some 3 := by kernel_rfl
theorem all53 (n a b : Int) : (#[Value.int .i64 n, .int .i64 a, .int .i64 b] : Array Value).all (fun v => v.oneCell') = true := by kernel_rfl
theorem flt_agg (g : Flt) : Value.agg #[.int .i64 g.n, .int .i64 g.a, .int .i64 g.b] = g.v := rfl
theorem set3 {w : World} {C : Nat} {a0 a1 a2 : Value} {t : TypeId} (hB : Blk w C [a0, a1, a2] t) (v0 v1 v2 : Value) :
    Blk (((w.setCell ⟨C, 0, none⟩ v0).setCell ⟨C, 1, none⟩ v1).setCell ⟨C, 2, none⟩ v2) C [v0, v1, v2] t ∧
    Keeps (fun k => k = C) w (((w.setCell ⟨C, 0, none⟩ v0).setCell ⟨C, 1, none⟩ v1).setCell ⟨C, 2, none⟩ v2) :=
  ⟨((hB.setCell 0 v0).setCell 1 v1).setCell 2 v2, (((Keeps.refl (fun k => k = C) w).setCell ⟨C, 0, none⟩ v0 fun _ => rfl).setCell ⟨C, 1, none⟩ v1 fun _ => rfl).setCell ⟨C, 2, none⟩ v2 fun _ => rfl⟩
end Go.Proofs.YtgookbkaacidpaaGreat
namespace Go.Proofs.YtgookbkaacidpaaGreat
open Go.RowKit
set_option linter.unusedVariables false
set_option linter.unusedSimpArgs false
set_option maxRecDepth 6000

/-- A question: its function, what it captured, its answer. -/
abbrev Qn := Nat × Array Value × Flt
abbrev QV (q : Qn) : Value := .func (.func q.1) #[] q.2.1
/-- Questions that may be asked in turn while E holds. -/
structure Qs (qs : List Qn) (E : World → Prop) : Prop where
  kept : ∀ w w', E w → Keeps (fun _ => False) w w' → E w'
  ent : ∀ q ∈ qs, ∀ args w, (callFunc q.1 args).run Tryz.prog w = .ok (.enter q.1 args) w
  ask : ∀ (j : Nat) (q : Qn), qs[j]? = some q → (∀ i, i < j → ∀ r : Qn, qs[i]? = some r → r.2.2.n = 0) → Ask q.1 q.2.1 E q.2.2
  len : qs.length ≤ 100
theorem firstF_take {fs : List Flt} {j : Nat} {f : Flt} (h : fs[j]? = some f) (h0 : ∀ i, i < j → ∀ r : Flt, fs[i]? = some r → r.n = 0) (hf : f.n ≠ 0) : firstF fs = f := by
  induction fs generalizing j with
  | nil => simp at h
  | cons g fs ih =>
    cases j with
    | zero => simp at h; subst h; simp [firstF, hf]
    | succ j =>
      have := h0 0 (by omega) g rfl
      simp only [firstF, this, if_true]
      exact ih (by simpa using h) fun i hi r hr => h0 (i + 1) (by omega) r (by simpa using hr)
theorem firstF_no {fs : List Flt} (h0 : ∀ (i : Nat) (r : Flt), fs[i]? = some r → r.n = 0) : firstF fs = Flt.no := by
  induction fs with
  | nil => rfl
  | cons g fs ih =>
    have := h0 0 g rfl
    simp only [firstF, this, if_true]
    exact ih fun i r hr => h0 (i + 1) r (by simpa using hr)
theorem firstF_eq0 {fs : List Flt} : (firstF fs).n = 0 ↔ ∀ f ∈ fs, f.n = 0 := by
  induction fs with
  | nil => simp [firstF, Flt.no]
  | cons g fs ih =>
    by_cases h : g.n = 0
    · simp [firstF, h, ih]
    · simp [firstF, h]

/-- While the questions are asked: the row of questions in g, the answer's block in R. -/
structure FfI (w : World) (E : World → Prop) (g R : Nat) (cs : List Value) (t : TypeId) (w' : World) : Prop where
  env : E w'
  row : Blk w' g cs t
  ans : Blk w' R [.int .i64 0, .int .i64 0, .int .i64 0] 53
  keeps : Keeps (fun _ => False) w w'
  lo : w.heap.size ≤ R
theorem FfI.kept {w : World} {E : World → Prop} {g R : Nat} {cs : List Value} {t : TypeId} {w' w'' : World} (h : FfI w E g R cs t w') (hE : ∀ w w', E w → Keeps (fun _ => False) w w' → E w') (hK : Keeps (fun _ => False) w' w'') : FfI w E g R cs t w'' :=
  ⟨hE _ _ h.env hK, h.row.kept hK fun h => h, h.ans.kept hK fun h => h, h.keeps.trans hK fun _ _ h => h, h.lo⟩

set_option maxHeartbeats 4000000 in
theorem firstFault_any (qs : List Qn) (E : World → Prop) (g : Nat) (t : TypeId) (hQ : Qs qs E) (w : World) (hE : E w) (hB : Blk w g (qs.map QV) t) :
    Calls Tryz.prog 11 #[.slice (some ⟨g, 0, none⟩) qs.length qs.length] w fun e w' => e = .returned (firstF (qs.map (·.2.2))).v ∧ Keeps (fun _ => False) w w' := by
  obtain ⟨W, hW⟩ : ∃ W, W = w.alloc (.cells #[.int .i64 0, .int .i64 0, .int .i64 0] 53) := ⟨_, rfl⟩
  obtain ⟨R, hR⟩ : ∃ R, R = w.heap.size := ⟨_, rfl⟩
  have HQ : Hid (Qs qs E) := hQ
  have HO : Hid (FfI w E g R (qs.map QV) t W) := by
    rw [hW, hR]
    exact ⟨hQ.kept _ _ hE ((Keeps.refl _ _).alloc _), hB.alloc _, Blk.new _ _ _, (Keeps.refl _ _).alloc _, Nat.le_refl _⟩
  obtain ⟨L, hL⟩ : ∃ L, qs.length = L := ⟨_, rfl⟩
  have hl := hQ.len
  have HL : Hid (qs.length = L) := hL
  rw [hL] at hl ⊢
  clear hQ hE hB hL
  go_enter Tryz.func11, Tryz.ntmps11
  go_upto_region 1 with fail
  rw [← hW, ← hR]
  clear hW hR
  go_wp2
  go_loopw [8] (fun i wr => ∃ j : Nat, j ≤ L ∧ i = .int .i64 j ∧ (∀ i, i < j → ∀ r : Qn, qs[i]? = some r → r.2.2.n = 0) ∧ FfI w E g R (qs.map QV) t wr) (fun i _ => L - (intOf i).toNat)
  case atStart => exact ⟨0, by omega, rfl, fun i hi => by omega, HO.out⟩
  case round =>
    obtain ⟨k, hk, rfl, hno, hO⟩ := hrel
    by_cases hlt : k < L
    · obtain ⟨q, hq⟩ : ∃ q, qs[k]? = some q := ⟨_, List.getElem?_eq_getElem (by have := HL.out; omega)⟩
      have hent := HQ.out.ent q (List.mem_of_getElem? hq)
      have HC : Hid (Ask q.1 q.2.1 E q.2.2) := HQ.out.ask k q hq hno
      have c0 : wr.cell? ⟨g, k, none⟩ = some (.func (.func q.1) #[] q.2.1) := hO.row.cell (i := k) (by simp [hq])
      obtain ⟨f, bs, v⟩ := q
      have HK : Hid (FfI w E g R (qs.map QV) t wr ∧ (∀ i, i < k → ∀ r : Qn, qs[i]? = some r → r.2.2.n = 0) ∧ qs[k]? = some (f, bs, v)) := ⟨hO, hno, hq⟩
      dsimp only at hent c0 HC
      clear hno hO hq
      go_wp2_with fail
      refine (HC.out _ HK.out.1.env).mono ?_
      rintro e w1 ⟨rfl, hK⟩
      have HO1 : Hid (FfI w E g R (qs.map QV) t w1) := HK.out.1.kept HQ.out.kept hK
      clear hK c0
      obtain ⟨vn, va, vb⟩ := v
      obtain ⟨W2, hW2⟩ : ∃ W2, W2 = w1.alloc (.cells #[.int .i64 vn, .int .i64 va, .int .i64 vb] 53) := ⟨_, rfl⟩
      obtain ⟨D, hD⟩ : ∃ D, D = w1.heap.size := ⟨_, rfl⟩
      have HO2 : Hid (FfI w E g R (qs.map QV) t W2) := by rw [hW2]; exact HO1.out.kept HQ.out.kept ((Keeps.refl _ _).alloc _)
      have hB2 : Blk W2 D [.int .i64 vn, .int .i64 va, .int .i64 vb] 53 := by rw [hW2, hD]; exact Blk.new _ _ _
      have m0 := HO2.out.ans.cell (i := 0) rfl
      have m1 := HO2.out.ans.cell (i := 1) rfl
      have m2 := HO2.out.ans.cell (i := 2) rfl
      have n0 := HO2.out.ans.frozen 0
      have n1 := HO2.out.ans.frozen 1
      have n2 := HO2.out.ans.frozen 2
      have d0 := hB2.cell (i := 0) rfl
      have d1 := hB2.cell (i := 1) rfl
      have d2 := hB2.cell (i := 2) rfl
      clear hB2
      go_upto_region 5 with fail
      rw [← hW2, ← hD]
      clear hW2 hD
      by_cases hv : vn = 0
      · subst hv
        go_wp2
        go_roundw
        case rel =>
          refine ⟨k + 1, by omega, by go_num, fun i hi r hr => ?_, HO2.out⟩
          by_cases e : i = k
          · subst e; rw [HK.out.2.2] at hr; cases hr; rfl
          · exact HK.out.2.1 i (by omega) r hr
        case measure => simp [intOf]; omega
      · have qv : (vn == 0) = false := by simpa using hv
        go_wp2
        obtain ⟨hB, hK3⟩ := set3 HO2.out.ans (.int .i64 vn) (.int .i64 va) (.int .i64 vb)
        obtain ⟨Wb, hWb⟩ : ∃ Wb, Wb = (((W2.setCell ⟨R, 0, none⟩ (.int .i64 vn)).setCell ⟨R, 1, none⟩ (.int .i64 va)).setCell ⟨R, 2, none⟩ (.int .i64 vb)) := ⟨_, rfl⟩
        rw [← hWb] at hB hK3 ⊢
        (try simp only [Exit.inBlock, Exit.then])
        refine bodyPost_ret (results_cell_row rfl _ _ R 53 _ (0, 0) _ rfl hB Tryz.underlying53 rfl (by kernel_rfl)) rfl ?_
        have hlo := HO2.out.lo
        refine ⟨?_, HO2.out.keeps.trans hK3 fun k hk e => by omega⟩
        have := firstF_take (fs := qs.map (·.2.2)) (j := k) (f := ⟨vn, va, vb⟩) (by simp [HK.out.2.2]) (fun i hi r hr => by
          rw [List.getElem?_map] at hr
          obtain ⟨q, hq, rfl⟩ := Option.map_eq_some_iff.1 hr
          exact HK.out.2.1 i hi q hq) hv
        rw [this]
    · have hkL : k = L := by omega
      subst hkL
      have m0 := hO.ans.cell (i := 0) rfl
      have m1 := hO.ans.cell (i := 1) rfl
      have m2 := hO.ans.cell (i := 2) rfl
      have n0 := hO.ans.frozen 0
      have n1 := hO.ans.frozen 1
      have n2 := hO.ans.frozen 2
      have HK : Hid (FfI w E g R (qs.map QV) t wr ∧ (∀ i, i < k → ∀ r : Qn, qs[i]? = some r → r.2.2.n = 0)) := ⟨hO, hno⟩
      clear hO hno
      go_wp2
      obtain ⟨hB, hK3⟩ := set3 HK.out.1.ans (.int .i64 0) (.int .i64 0) (.int .i64 0)
      obtain ⟨Wb, hWb⟩ : ∃ Wb, Wb = (((wr.setCell ⟨R, 0, none⟩ (.int .i64 0)).setCell ⟨R, 1, none⟩ (.int .i64 0)).setCell ⟨R, 2, none⟩ (.int .i64 0)) := ⟨_, rfl⟩
      rw [← hWb] at hB hK3 ⊢
      (try simp only [Exit.inBlock, Exit.then])
      refine bodyPost_ret (results_cell_row rfl _ _ R 53 _ (0, 0) _ rfl hB Tryz.underlying53 rfl (by kernel_rfl)) rfl ?_
      have hlo := HK.out.1.lo
      refine ⟨?_, HK.out.1.keeps.trans hK3 fun k hk e => by omega⟩
      rw [firstF_no fun i r hr => by
        rw [List.getElem?_map] at hr
        obtain ⟨q, hq, rfl⟩ := Option.map_eq_some_iff.1 hr
        have := (List.getElem?_eq_some_iff.1 hq).1
        exact HK.out.2 i (by rw [HL.out] at this; omega) q hq]
      rfl
end Go.Proofs.YtgookbkaacidpaaGreat
namespace Go.Proofs.YtgookbkaacidpaaGreat
open Go.RowKit
set_option linter.unusedVariables false
set_option linter.unusedSimpArgs false
set_option maxRecDepth 6000

def MkP (v : Flt) (w : World) (e : Ending) (w' : World) : Prop :=
  Keeps (fun _ => False) w w' ∧ ∃ (g : Nat) (t : TypeId) (qs : List Qn) (E : World → Prop), e = .returned (.slice (some ⟨g, 0, none⟩) qs.length qs.length) ∧ Blk w' g (qs.map QV) t ∧ E w' ∧ Qs qs E ∧ firstF (qs.map (·.2.2)) = v
/-- A function that makes questions; the first answer of them that is a fault. -/
def Makes (f : Nat) (args : Array Value) (E : World → Prop) (v : Flt) : Prop := ∀ w, E w → Calls Tryz.prog f args w (MkP v w)

structure ObI (w : World) (E : World → Prop) (R : Nat) (w' : World) : Prop where
  env : E w'
  ans : Blk w' R [.int .i64 0, .int .i64 0, .int .i64 0] 53
  keeps : Keeps (fun _ => False) w w'
  lo : w.heap.size ≤ R
theorem ObI.kept {w : World} {E : World → Prop} {R : Nat} {w' w'' : World} (h : ObI w E R w') (hE : ∀ w w', E w → Keeps (fun _ => False) w w' → E w') (hK : Keeps (fun _ => False) w' w'') : ObI w E R w'' :=
  ⟨hE _ _ h.env hK, h.ans.kept hK fun h => h, h.keeps.trans hK fun _ _ h => h, h.lo⟩

set_option maxHeartbeats 4000000 in
theorem oneByOne_any (n f : Nat) (bs : Array Value) (E : World → Prop) (an : Nat → Flt) (hn : n ≤ 1000000000) (hent : ∀ args w, (callFunc f args).run Tryz.prog w = .ok (.enter f args) w)
    (hEk : ∀ w w', E w → Keeps (fun _ => False) w w' → E w') (hM : ∀ i, i < n → (∀ j, j < i → (an j).n = 0) → Makes f (#[.int .i64 (i : Int)] ++ bs) E (an i)) (w : World) (hE : E w) :
    Calls Tryz.prog 22 #[.int .i64 (n : Int), .func (.func f) #[] bs] w fun e w' => e = .returned (firstF ((List.range n).map an)).v ∧ Keeps (fun _ => False) w w' := by
  obtain ⟨W, hW⟩ : ∃ W, W = w.alloc (.cells #[.int .i64 0, .int .i64 0, .int .i64 0] 53) := ⟨_, rfl⟩
  obtain ⟨R, hR⟩ : ∃ R, R = w.heap.size := ⟨_, rfl⟩
  have HE : Hid (∀ w w', E w → Keeps (fun _ => False) w w' → E w') := hEk
  have HM : Hid (∀ i, i < n → (∀ j, j < i → (an j).n = 0) → Makes f (#[.int .i64 (i : Int)] ++ bs) E (an i)) := hM
  have HO : Hid (ObI w E R W) := by
    rw [hW, hR]
    exact ⟨hEk _ _ hE ((Keeps.refl _ _).alloc _), Blk.new _ _ _, (Keeps.refl _ _).alloc _, Nat.le_refl _⟩
  clear hE hEk hM
  go_enter Tryz.func22, Tryz.ntmps22
  go_upto_region 1 with fail
  rw [← hW, ← hR]
  clear hW hR
  go_wp2
  go_loopw [8] (fun i wr => ∃ j : Nat, j ≤ n ∧ i = .int .i64 j ∧ (∀ i, i < j → (an i).n = 0) ∧ ObI w E R wr) (fun i _ => n - (intOf i).toNat)
  case atStart => exact ⟨0, by omega, rfl, fun i hi => by omega, HO.out⟩
  case round =>
    obtain ⟨k, hk, rfl, hno, hO⟩ := hrel
    by_cases hlt : k < n
    · have HC : Hid (Makes f (#[.int .i64 (k : Int)] ++ bs) E (an k)) := HM.out k hlt hno
      have HK : Hid (ObI w E R wr ∧ (∀ i, i < k → (an i).n = 0)) := ⟨hO, hno⟩
      clear hno hO
      go_wp2_with fail
      refine (HC.out _ HK.out.1.env).mono ?_
      rintro e w0 ⟨hK0, g, t, qs, E', rfl, hB, hE', hQ, hf⟩
      have HC1 : Hid (Calls Tryz.prog 11 #[.slice (some ⟨g, 0, none⟩) qs.length qs.length] w0 fun e w' => e = .returned (an k).v ∧ Keeps (fun _ => False) w0 w') := by rw [← hf]; exact firstFault_any qs E' g t hQ w0 hE' hB
      have HO0 : Hid (ObI w E R w0) := HK.out.1.kept HE.out hK0
      clear hB hE' hQ hf hK0
      go_wp2_with fail
      refine HC1.out.mono ?_
      rintro e w1 ⟨rfl, hK⟩
      have HO1 : Hid (ObI w E R w1) := HO0.out.kept HE.out hK
      clear hK HC1
      obtain ⟨v, hv⟩ : ∃ v, an k = v := ⟨_, rfl⟩
      have HV : Hid (an k = v) := hv
      rw [hv]
      clear hv
      obtain ⟨vn, va, vb⟩ := v
      obtain ⟨W2, hW2⟩ : ∃ W2, W2 = w1.alloc (.cells #[.int .i64 vn, .int .i64 va, .int .i64 vb] 53) := ⟨_, rfl⟩
      obtain ⟨D, hD⟩ : ∃ D, D = w1.heap.size := ⟨_, rfl⟩
      have HO2 : Hid (ObI w E R W2) := by rw [hW2]; exact HO1.out.kept HE.out ((Keeps.refl _ _).alloc _)
      have hB2 : Blk W2 D [.int .i64 vn, .int .i64 va, .int .i64 vb] 53 := by rw [hW2, hD]; exact Blk.new _ _ _
      have m0 := HO2.out.ans.cell (i := 0) rfl
      have m1 := HO2.out.ans.cell (i := 1) rfl
      have m2 := HO2.out.ans.cell (i := 2) rfl
      have n0 := HO2.out.ans.frozen 0
      have n1 := HO2.out.ans.frozen 1
      have n2 := HO2.out.ans.frozen 2
      have d0 := hB2.cell (i := 0) rfl
      have d1 := hB2.cell (i := 1) rfl
      have d2 := hB2.cell (i := 2) rfl
      clear hB2
      go_upto_region 5 with fail
      rw [← hW2, ← hD]
      clear hW2 hD
      by_cases hv : vn = 0
      · subst hv
        go_wp2
        go_roundw
        case rel =>
          refine ⟨k + 1, by omega, by go_num, fun i hi => ?_, HO2.out⟩
          by_cases e : i = k
          · subst e; rw [HV.out]
          · exact HK.out.2 i (by omega)
        case measure => simp [intOf]; omega
      · have qv : (vn == 0) = false := by simpa using hv
        go_wp2
        obtain ⟨hB, hK3⟩ := set3 HO2.out.ans (.int .i64 vn) (.int .i64 va) (.int .i64 vb)
        obtain ⟨Wb, hWb⟩ : ∃ Wb, Wb = (((W2.setCell ⟨R, 0, none⟩ (.int .i64 vn)).setCell ⟨R, 1, none⟩ (.int .i64 va)).setCell ⟨R, 2, none⟩ (.int .i64 vb)) := ⟨_, rfl⟩
        rw [← hWb] at hB hK3 ⊢
        (try simp only [Exit.inBlock, Exit.then])
        refine bodyPost_ret (results_cell_row rfl _ _ R 53 _ (0, 0) _ rfl hB Tryz.underlying53 rfl (by kernel_rfl)) rfl ?_
        have hlo := HO2.out.lo
        refine ⟨?_, HO2.out.keeps.trans hK3 fun k hk e => by omega⟩
        have := firstF_take (fs := (List.range n).map an) (j := k) (f := ⟨vn, va, vb⟩) (by rw [List.getElem?_map, List.getElem?_range hlt, Option.map_some, HV.out]) (fun i hi r hr => by
          rw [List.getElem?_map, List.getElem?_range (by omega)] at hr
          cases hr
          exact HK.out.2 i hi) hv
        rw [this]
    · have hkL : k = n := by omega
      subst hkL
      have m0 := hO.ans.cell (i := 0) rfl
      have m1 := hO.ans.cell (i := 1) rfl
      have m2 := hO.ans.cell (i := 2) rfl
      have n0 := hO.ans.frozen 0
      have n1 := hO.ans.frozen 1
      have n2 := hO.ans.frozen 2
      have HK : Hid (ObI w E R wr ∧ (∀ i, i < k → (an i).n = 0)) := ⟨hO, hno⟩
      clear hO hno
      go_wp2
      obtain ⟨hB, hK3⟩ := set3 HK.out.1.ans (.int .i64 0) (.int .i64 0) (.int .i64 0)
      obtain ⟨Wb, hWb⟩ : ∃ Wb, Wb = (((wr.setCell ⟨R, 0, none⟩ (.int .i64 0)).setCell ⟨R, 1, none⟩ (.int .i64 0)).setCell ⟨R, 2, none⟩ (.int .i64 0)) := ⟨_, rfl⟩
      rw [← hWb] at hB hK3 ⊢
      (try simp only [Exit.inBlock, Exit.then])
      refine bodyPost_ret (results_cell_row rfl _ _ R 53 _ (0, 0) _ rfl hB Tryz.underlying53 rfl (by kernel_rfl)) rfl ?_
      have hlo := HK.out.1.lo
      refine ⟨?_, HK.out.1.keeps.trans hK3 fun k hk e => by omega⟩
      rw [firstF_no fun i r hr => by
        rw [List.getElem?_map] at hr
        obtain ⟨q, hq, rfl⟩ := Option.map_eq_some_iff.1 hr
        have := (List.getElem?_eq_some_iff.1 hq).1
        rw [List.length_range] at this
        rw [List.getElem?_range this] at hq
        cases hq
        exact HK.out.2 i this]
      rfl
end Go.Proofs.YtgookbkaacidpaaGreat
namespace Go.Proofs.YtgookbkaacidpaaGreat
open Go.RowKit
set_option linter.unusedVariables false
set_option linter.unusedSimpArgs false
set_option maxRecDepth 6000

/-- A row of pages or frames. -/
structure Rn where
  f : Int
  s : Int
deriving DecidableEq
abbrev Rn.v (r : Rn) : Value := .agg #[.int .i64 r.f, .int .i64 r.s]
def Rgn.pg (r : Rgn) : Rn := ⟨r.page, r.pages⟩
def Rgn.fr (r : Rgn) : Rn := ⟨r.frame, r.pages⟩
def Rn.meets (r o : Rn) : Bool := decide (r.f < o.f + o.s) && decide (o.f < r.f + r.s)
/-- Numbers whose sum does not come round. -/
def Rn.Ok (r : Rn) : Prop := I64 (r.f + r.s)

theorem pagesOf_any (r : Rgn) (w : World) : Calls Tryz.prog 81 #[r.v] w fun e w' => e = .returned r.pg.v ∧ Keeps (fun _ => False) w w' := by
  obtain ⟨p, q, f, g⟩ := r
  go_enter Tryz.func81, Tryz.ntmps81
  go_wp2
  (try simp only [Exit.inBlock, Exit.then])
  have hB := Blk.new (w.alloc (.cells #[.int .i64 p, .int .i64 q, .int .i64 f, .int .i64 g] 39)) #[.int .i64 p, .int .i64 q] 85
  simp only [World.size_alloc] at hB
  refine bodyPost_ret (results_cell_row rfl _ _ (w.heap.size + 1) 85 _ (0, 0) _ rfl hB Tryz.underlying85 rfl (by kernel_rfl)) rfl ?_
  exact ⟨rfl, ((Keeps.refl _ _).alloc _).alloc _⟩
theorem framesOf_any (r : Rgn) (w : World) : Calls Tryz.prog 65 #[r.v] w fun e w' => e = .returned r.fr.v ∧ Keeps (fun _ => False) w w' := by
  obtain ⟨p, q, f, g⟩ := r
  go_enter Tryz.func65, Tryz.ntmps65
  go_wp2
  (try simp only [Exit.inBlock, Exit.then])
  have hB := Blk.new (w.alloc (.cells #[.int .i64 p, .int .i64 q, .int .i64 f, .int .i64 g] 39)) #[.int .i64 f, .int .i64 q] 85
  simp only [World.size_alloc] at hB
  refine bodyPost_ret (results_cell_row rfl _ _ (w.heap.size + 1) 85 _ (0, 0) _ rfl hB Tryz.underlying85 rfl (by kernel_rfl)) rfl ?_
  exact ⟨rfl, ((Keeps.refl _ _).alloc _).alloc _⟩
theorem meets_any (r o : Rn) (hr : r.Ok) (ho : o.Ok) (w : World) : Calls Tryz.prog 87 #[r.v, o.v] w fun e w' => e = .returned (.bool (r.meets o)) ∧ Keeps (fun _ => False) w w' := by
  obtain ⟨a, s⟩ := r
  obtain ⟨b, t⟩ := o
  unfold Rn.Ok I64 at hr ho
  dsimp only at hr ho
  unfold Rn.meets
  have q1 : IntKind.i64.wrap (b + t) = b + t := by rw [IntKind.wrap_i64]; omega
  have q2 : IntKind.i64.wrap (a + s) = a + s := by rw [IntKind.wrap_i64]; omega
  go_enter Tryz.func87, Tryz.ntmps87
  by_cases h : a < b + t
  · have q : decide (a < b + t) = true := by simpa using h
    go_wp2
    go_ret
    simp only [q, Bool.true_and]
    exact ⟨rfl, ((Keeps.refl _ _).alloc _).alloc _⟩
  · have q : decide (a < b + t) = false := by simpa using h
    go_wp2
    go_ret
    simp only [q, Bool.false_and]
    exact ⟨rfl, ((Keeps.refl _ _).alloc _).alloc _⟩
def letB (b : Nat) : Bool := decide (97 ≤ b) && decide (b ≤ 122)
theorem isLetter_any (b : Nat) (w : World) : Calls Tryz.prog 75 #[.int .u8 (b : Int)] w fun e w' => e = .returned (.bool (letB b)) ∧ w' = w := by
  unfold letB
  go_enter Tryz.func75, Tryz.ntmps75
  by_cases h : 97 ≤ b
  · have q : decide ((97 : Int) ≤ (b : Int)) = true := by simp; omega
    go_wp2
    go_ret
    have e1 : decide ((b : Int) ≤ 122) = decide (b ≤ 122) := by rw [decide_eq_decide]; omega
    simp [h, e1]
  · have q : decide ((97 : Int) ≤ (b : Int)) = false := by simp; omega
    go_wp2
    go_ret
    simp [h]
def Chn.most (h : Chn) : Int := if h.kind = 2 then 1 else 4
theorem mostDests_any (h : Chn) (w : World) : Calls Tryz.prog 57 #[h.v] w fun e w' => e = .returned (.int .i64 h.most) ∧ Keeps (fun _ => False) w w' := by
  obtain ⟨k, n, d⟩ := h
  unfold Chn.most
  go_enter Tryz.func57, Tryz.ntmps57
  by_cases h : k = 2
  · subst h
    go_wp2
    go_ret
    exact ⟨rfl, (Keeps.refl _ _).alloc _⟩
  · have q : (k == 2) = false := by simpa using h
    go_wp2
    go_ret
    simp only [h, if_false]
    exact ⟨rfl, (Keeps.refl _ _).alloc _⟩
def Chn.okB (h : Chn) : Bool := inR h.words 1 16 && (if h.kind = 1 then decide (h.depth = 0) else if h.kind = 2 then inR h.depth 1 8 else false)
set_option maxHeartbeats 1000000 in
theorem isChannel_any (h : Chn) (w : World) : Calls Tryz.prog 53 #[h.v] w fun e w' => e = .returned (.bool h.okB) ∧ Keeps (fun _ => False) w w' := by
  obtain ⟨k, n, d⟩ := h
  unfold Chn.okB
  have HC : Hid (∀ n a b w, Calls Tryz.prog 16 #[.int .i64 n, .int .i64 a, .int .i64 b] w fun e w' => e = .returned (.bool (inR n a b)) ∧ w' = w) := within_any
  dsimp only
  obtain ⟨b1, hb1⟩ : ∃ b, inR n 1 16 = b := ⟨_, rfl⟩
  obtain ⟨b2, hb2⟩ : ∃ b, inR d 1 8 = b := ⟨_, rfl⟩
  have HB : Hid (inR n 1 16 = b1 ∧ inR d 1 8 = b2) := ⟨hb1, hb2⟩
  rw [hb1, hb2]
  clear hb1 hb2
  go_enter Tryz.func53, Tryz.ntmps53
  go_wp2_with fail
  refine (HC.out _ _ _ _).mono ?_
  rintro e w1 ⟨rfl, rfl⟩
  rw [HB.out.1]
  cases b1 with
  | false =>
    go_wp2
    all_goals
      go_ret
      exact ⟨rfl, (Keeps.refl _ _).alloc _⟩
  | true =>
    by_cases h1 : k = 1
    · subst h1
      go_wp2
      go_ret
      refine ⟨?_, (Keeps.refl _ _).alloc _⟩
      have : (d == 0) = decide (d = 0) := by by_cases h : d = 0 <;> simp [h]
      simp [this]
    · have q1 : (k == 1) = false := by simpa using h1
      by_cases h2 : k = 2
      · subst h2
        go_wp2_with fail
        refine (HC.out _ _ _ _).mono ?_
        rintro e w1 ⟨rfl, rfl⟩
        rw [HB.out.2]
        go_wp2
        go_ret
        refine ⟨?_, (Keeps.refl _ _).alloc _⟩
        simp
      · have q2 : (k == 2) = false := by simpa using h2
        go_wp2
        go_ret
        refine ⟨?_, (Keeps.refl _ _).alloc _⟩
        simp [h1, h2]
def Rgn.okB (r : Rgn) (fr : Int) : Bool := inR r.page 0 255 && (inR r.pages 1 (256 - r.page) && (decide (0 ≤ r.frame) && (decide (r.pages ≤ fr - r.frame) && inR r.rights 1 7)))
set_option maxHeartbeats 4000000 in
theorem isRegion_any (r : Rgn) (fr : Int) (hr : r.Fine) (h1 : 1 ≤ fr) (h2 : fr ≤ 1024) (w : World) : Calls Tryz.prog 79 #[r.v, .int .i64 fr] w fun e w' => e = .returned (.bool (r.okB fr)) ∧ Keeps (fun _ => False) w w' := by
  obtain ⟨p, n, f, g⟩ := r
  unfold Rgn.Fine I64 at hr
  unfold Rgn.okB
  dsimp only at hr ⊢
  have HC : Hid (∀ n a b w, Calls Tryz.prog 16 #[.int .i64 n, .int .i64 a, .int .i64 b] w fun e w' => e = .returned (.bool (inR n a b)) ∧ w' = w) := within_any
  obtain ⟨b1, hb1⟩ : ∃ b, inR p 0 255 = b := ⟨_, rfl⟩
  have HB1 : Hid (inR p 0 255 = b1) := hb1
  obtain ⟨b2, hb2⟩ : ∃ b, inR n 1 (256 - p) = b := ⟨_, rfl⟩
  have HB2 : Hid (inR n 1 (256 - p) = b2) := hb2
  rw [hb1, hb2]
  clear hb2
  go_enter Tryz.func79, Tryz.ntmps79
  go_wp2_with fail
  refine (HC.out _ _ _ _).mono ?_
  rintro e w1 ⟨rfl, rfl⟩
  rw [HB1.out]
  cases b1 with
  | false =>
    clear hb1
    go_wp2
    go_ret
    exact ⟨rfl, (Keeps.refl _ _).alloc _⟩
  | true =>
    have hp : 0 ≤ p ∧ p ≤ 255 := by unfold inR at hb1; simpa using hb1
    have q1 : IntKind.i64.wrap (256 - p) = 256 - p := by rw [IntKind.wrap_i64]; omega
    clear hb1
    go_wp2_with fail
    refine (HC.out _ _ _ _).mono ?_
    rintro e w1 ⟨rfl, rfl⟩
    rw [HB2.out]
    cases b2 with
    | false =>
      go_wp2
      go_ret
      exact ⟨rfl, (Keeps.refl _ _).alloc _⟩
    | true =>
      by_cases hf : 0 ≤ f
      · have qf : decide (0 ≤ f) = true := by simpa using hf
        have q2 : IntKind.i64.wrap (fr - f) = fr - f := by rw [IntKind.wrap_i64]; omega
        by_cases hn : n ≤ fr - f
        · have qn : decide (n ≤ fr - f) = true := by simpa using hn
          go_wp2_with fail
          refine (HC.out _ _ _ _).mono ?_
          rintro e w1 ⟨rfl, rfl⟩
          go_wp2
          go_ret
          refine ⟨?_, (Keeps.refl _ _).alloc _⟩
          simp [qf, qn]
        · have qn : decide (n ≤ fr - f) = false := by simpa using hn
          go_wp2
          go_ret
          refine ⟨?_, (Keeps.refl _ _).alloc _⟩
          simp [qf, qn]
      · have qf : decide (0 ≤ f) = false := by simpa using hf
        go_wp2
        go_ret
        refine ⟨?_, (Keeps.refl _ _).alloc _⟩
        simp [qf]
end Go.Proofs.YtgookbkaacidpaaGreat
