import Derived.Test.YtlnmlbkeemahcaaGreatCn
namespace Go.Proofs.YtlnmlbkeemahcaaGreat
open Go.RowKit
set_option linter.unusedVariables false
set_option linter.unusedSimpArgs false
set_option maxRecDepth 6000
theorem Tryz.mixd : Tryz.prog.follows Departure.mixedOrders = true := by kernel_rfl
theorem Hid.mkq {p : Prop} (h : p) : Hid p := h
theorem enter_fn {P : Program} {F : FuncId} {fn : Func} (hf : P.funcs[F]? = some fn) (hn : (fn.name == "runtime.NumGoroutine") = false) (hb : fn.body.isNone = false) (args : Array Value) (w : World) :
  (callFunc F args).run P w = .ok (.enter F args) w := by
 have hn' : ¬ fn.name = "runtime.NumGoroutine" := by simpa using hn
 have hb' : ¬ fn.body = none := fun e => by rw [e] at hb; cases hb
 simp [callFunc, go_sem, hf, hn', hb']
structure Flt where
 n : Int
 a : Int
 b : Int
deriving DecidableEq
abbrev Flt.v (x : Flt) : Value := .agg #[.int .i64 x.n, .int .i64 x.a, .int .i64 x.b]
def Flt.no : Flt := ⟨0, 0, 0⟩
def unl (h : Bool) (f : Flt) : Flt := if h then Flt.no else f
def inR (n a b : Int) : Bool := decide (a ≤ n) && decide (n ≤ b)
def firstF : List Flt → Flt
 | [] => Flt.no
 | f :: fs => if f.n = 0 then firstF fs else f
theorem within_any (n a b : Int) (w : World) : Calls Tryz.prog 36 #[.int .i64 n, .int .i64 a, .int .i64 b] w fun e w' => e = .returned (.bool (inR n a b)) ∧ w' = w := by
 unfold inR
 go_enter Tryz.func36, Tryz.ntmps36
 by_cases h : a ≤ n
 ·
  have q : decide (a ≤ n) = true := by simpa using h
  go_wp2
  go_ret
  simp [h]
 ·
  have q : decide (a ≤ n) = false := by simpa using h
  go_wp2
  go_ret
  simp [h]
theorem unless_any (h : Bool) (n a b : Int) (w : World) : Calls Tryz.prog 35 #[.bool h, .int .i64 n, .agg #[.int .i64 a, .int .i64 b]] w fun e w' => e = .returned (unl h ⟨n, a, b⟩).v ∧ KF w w' := by
 cases h
 ·
  go_enter Tryz.func35, Tryz.ntmps35
  go_wp2
  (try simp only [Exit.inBlock, Exit.then])
  have hB := Blk.new (w.alloc (.cells #[.int .i64 a, .int .i64 b] 34)) #[.int .i64 n, .int .i64 a, .int .i64 b] 65
  simp only [World.size_alloc] at hB
  refine bodyPost_ret (results_cell_row rfl _ _ (w.heap.size + 1) 65 _ (0, 0) _ rfl hB Tryz.underlying65 rfl (by kernel_rfl)) rfl ?_
  exact ⟨rfl, ((Keeps.refl _ _).alloc _).alloc _⟩
 ·
  go_enter Tryz.func35, Tryz.ntmps35
  go_wp2
  (try simp only [Exit.inBlock, Exit.then])
  have hB := Blk.new (w.alloc (.cells #[.int .i64 a, .int .i64 b] 34)) #[.int .i64 0, .int .i64 0, .int .i64 0] 65
  simp only [World.size_alloc] at hB
  refine bodyPost_ret (results_cell_row rfl _ _ (w.heap.size + 1) 65 _ (0, 0) _ rfl hB Tryz.underlying65 rfl (by kernel_rfl)) rfl ?_
  exact ⟨rfl, ((Keeps.refl _ _).alloc _).alloc _⟩
structure Env (x : Cfg) (N : Nat) (L : List (Nat × List Value × TypeId)) (w : World) : Prop where
 cin : x.In w N
 nn : N ≤ w.heap.size
 bl : ∀ b ∈ L, Blk w b.1 b.2.1 b.2.2
theorem Env.kept {x : Cfg} {N : Nat} {L : List (Nat × List Value × TypeId)} {w w' : World} (h : Env x N L w) (hK : KF w w') : Env x N L w' :=
 ⟨h.cin.keeps h.nn hK, Nat.le_trans h.nn hK.size, fun b hb => (h.bl b hb).kept hK fun h => h⟩
theorem Env.kept' {x : Cfg} {N R : Nat} {L : List (Nat × List Value × TypeId)} {w w1 w2 : World} (h : Env x N L w) (h1 : Env x N L w1) (hR : w.heap.size ≤ R) (hK : Keeps (fun k => k = R) w1 w2) : Env x N L w2 :=
 ⟨h1.cin.below (hK.below h1.nn fun k e => by have := h.nn; omega), Nat.le_trans h1.nn hK.size, fun b hb => (h1.bl b hb).kept hK fun e => by have := (h.bl b hb).lt; omega⟩
def Ask (f : Nat) (bs : Array Value) (E : World → Prop) (g : Flt) : Prop :=
 ∀ w, E w → Calls Tryz.prog f bs w fun e w' => e = .returned g.v ∧ KF w w'
theorem Tryz.size65 : (Tryz.prog.info? 65).map (·.size) = some 3 := by kernel_rfl
theorem all53 (n a b : Int) : (#[Value.int .i64 n, .int .i64 a, .int .i64 b] : Array Value).all (fun v => v.oneCell') = true := by kernel_rfl
theorem set3 {w : World} {C : Nat} {a0 a1 a2 : Value} {t : TypeId} (hB : Blk w C [a0, a1, a2] t) (v0 v1 v2 : Value) :
  Blk (((w.setCell ⟨C, 0, none⟩ v0).setCell ⟨C, 1, none⟩ v1).setCell ⟨C, 2, none⟩ v2) C [v0, v1, v2] t ∧
  Keeps (fun k => k = C) w (((w.setCell ⟨C, 0, none⟩ v0).setCell ⟨C, 1, none⟩ v1).setCell ⟨C, 2, none⟩ v2) :=
 ⟨((hB.setCell 0 v0).setCell 1 v1).setCell 2 v2, (((Keeps.refl (fun k => k = C) w).setCell ⟨C, 0, none⟩ v0 fun _ => rfl).setCell ⟨C, 1, none⟩ v1 fun _ => rfl).setCell ⟨C, 2, none⟩ v2 fun _ => rfl⟩
abbrev Qn := Nat × Array Value × Flt
abbrev QV (q : Qn) : Value := .func (.func q.1) #[] q.2.1
structure Qs (qs : List Qn) (E : World → Prop) : Prop where
 kept : ∀ w w', E w → KF w w' → E w'
 ent : ∀ q ∈ qs, ∀ args w, (callFunc q.1 args).run Tryz.prog w = .ok (.enter q.1 args) w
 ask : ∀ (j : Nat) (q : Qn), qs[j]? = some q → (∀ i, i < j → ∀ r : Qn, qs[i]? = some r → r.2.2.n = 0) → Ask q.1 q.2.1 E q.2.2
 len : qs.length ≤ 100
theorem firstF_take {fs : List Flt} {j : Nat} {f : Flt} (h : fs[j]? = some f) (h0 : ∀ i, i < j → ∀ r : Flt, fs[i]? = some r → r.n = 0) (hf : f.n ≠ 0) : firstF fs = f := by
 induction fs generalizing j with
 | nil => simp at h
 | cons g fs ih =>
  cases j with
  | zero => simp at h; subst h; simp [firstF, hf]
  | succ j =>
   have := h0 0 (by omega) g rfl
   simp only [firstF, this, if_true]
   exact ih (by simpa using h) fun i hi r hr => h0 (i + 1) (by omega) r (by simpa using hr)
theorem firstF_no {fs : List Flt} (h0 : ∀ (i : Nat) (r : Flt), fs[i]? = some r → r.n = 0) : firstF fs = Flt.no := by
 induction fs with
 | nil => rfl
 | cons g fs ih =>
  have := h0 0 g rfl
  simp only [firstF, this, if_true]
  exact ih fun i r hr => h0 (i + 1) r (by simpa using hr)
theorem firstF_eq0 {fs : List Flt} : (firstF fs).n = 0 ↔ ∀ f ∈ fs, f.n = 0 := by
 induction fs with
 | nil => simp [firstF, Flt.no]
 | cons g fs ih =>
  by_cases h : g.n = 0
  ·
   simp [firstF, h, ih]
  ·
   simp [firstF, h]
structure FfI (w : World) (E : World → Prop) (g R : Nat) (cs : List Value) (t : TypeId) (w' : World) : Prop where
 env : E w'
 row : Blk w' g cs t
 ans : Blk w' R [.int .i64 0, .int .i64 0, .int .i64 0] 65
 keeps : KF w w'
 lo : w.heap.size ≤ R
theorem FfI.kept {w : World} {E : World → Prop} {g R : Nat} {cs : List Value} {t : TypeId} {w' w'' : World} (h : FfI w E g R cs t w') (hE : ∀ w w', E w → KF w w' → E w') (hK : KF w' w'') : FfI w E g R cs t w'' :=
 ⟨hE _ _ h.env hK, h.row.kept hK fun h => h, h.ans.kept hK fun h => h, h.keeps.trans hK fun _ _ h => h, h.lo⟩
set_option maxHeartbeats 4000000 in
theorem firstFault_any (qs : List Qn) (E : World → Prop) (g : Nat) (t : TypeId) (hQ : Qs qs E) (w : World) (hE : E w) (hB : Blk w g (qs.map QV) t) :
  Calls Tryz.prog 22 #[.slice (some ⟨g, 0, none⟩) qs.length qs.length] w fun e w' => e = .returned (firstF (qs.map (·.2.2))).v ∧ KF w w' := by
 obtain ⟨W, hW⟩ : ∃ W, W = w.alloc (.cells #[.int .i64 0, .int .i64 0, .int .i64 0] 65) := ⟨_, rfl⟩
 obtain ⟨R, hR⟩ : ∃ R, R = w.heap.size := ⟨_, rfl⟩
 have HQ : Hid (Qs qs E) := hQ
 have HO : Hid (FfI w E g R (qs.map QV) t W) := by
  rw [hW, hR]
  exact ⟨hQ.kept _ _ hE ((Keeps.refl _ _).alloc _), hB.alloc _, Blk.new _ _ _, (Keeps.refl _ _).alloc _, Nat.le_refl _⟩
 obtain ⟨L, hL⟩ : ∃ L, qs.length = L := ⟨_, rfl⟩
 have hl := hQ.len
 have HL : Hid (qs.length = L) := hL
 rw [hL] at hl ⊢
 clear hQ hE hB hL
 go_enter Tryz.func22, Tryz.ntmps22
 go_upto_region 1 with fail
 rw [← hW, ← hR]
 clear hW hR
 go_wp2
 go_loopw [8] (fun i wr => ∃ j : Nat, j ≤ L ∧ i = .int .i64 j ∧ (∀ i, i < j → ∀ r : Qn, qs[i]? = some r → r.2.2.n = 0) ∧ FfI w E g R (qs.map QV) t wr) (fun i _ => L - (intOf i).toNat)
 case atStart => exact ⟨0, by omega, rfl, fun i hi => by omega, HO.out⟩
 case round =>
  obtain ⟨k, hk, rfl, hno, hO⟩ := hrel
  by_cases hlt : k < L
  ·
   obtain ⟨q, hq⟩ : ∃ q, qs[k]? = some q := ⟨_, List.getElem?_eq_getElem (by have := HL.out; omega)⟩
   have hent := HQ.out.ent q (List.mem_of_getElem? hq)
   have HC : Hid (Ask q.1 q.2.1 E q.2.2) := HQ.out.ask k q hq hno
   have c0 : wr.cell? ⟨g, k, none⟩ = some (.func (.func q.1) #[] q.2.1) := hO.row.cell (i := k) (by simp [hq])
   obtain ⟨f, bs, v⟩ := q
   have HK : Hid (FfI w E g R (qs.map QV) t wr ∧ (∀ i, i < k → ∀ r : Qn, qs[i]? = some r → r.2.2.n = 0) ∧ qs[k]? = some (f, bs, v)) := ⟨hO, hno, hq⟩
   dsimp only at hent c0 HC
   clear hno hO hq
   go_wp2_with fail
   refine (HC.out _ HK.out.1.env).mono ?_
   rintro e w1 ⟨rfl, hK⟩
   have HO1 : Hid (FfI w E g R (qs.map QV) t w1) := HK.out.1.kept HQ.out.kept hK
   clear hK c0
   obtain ⟨vn, va, vb⟩ := v
   obtain ⟨W2, hW2⟩ : ∃ W2, W2 = w1.alloc (.cells #[.int .i64 vn, .int .i64 va, .int .i64 vb] 65) := ⟨_, rfl⟩
   obtain ⟨D, hD⟩ : ∃ D, D = w1.heap.size := ⟨_, rfl⟩
   have HO2 : Hid (FfI w E g R (qs.map QV) t W2) := by rw [hW2]; exact HO1.out.kept HQ.out.kept ((Keeps.refl _ _).alloc _)
   have hB2 : Blk W2 D [.int .i64 vn, .int .i64 va, .int .i64 vb] 65 := by rw [hW2, hD]; exact Blk.new _ _ _
   have m0 := HO2.out.ans.cell (i := 0) rfl
   have m1 := HO2.out.ans.cell (i := 1) rfl
   have m2 := HO2.out.ans.cell (i := 2) rfl
   have n0 := HO2.out.ans.frozen 0
   have n1 := HO2.out.ans.frozen 1
   have n2 := HO2.out.ans.frozen 2
   have d0 := hB2.cell (i := 0) rfl
   have d1 := hB2.cell (i := 1) rfl
   have d2 := hB2.cell (i := 2) rfl
   clear hB2
   go_upto_region 5 with fail
   rw [← hW2, ← hD]
   clear hW2 hD
   by_cases hv : vn = 0
   ·
    subst hv
    go_wp2
    go_roundw
    case rel =>
     refine ⟨k + 1, by omega, by go_num, fun i hi r hr => ?_, HO2.out⟩
     by_cases e : i = k
     ·
      subst e; rw [HK.out.2.2] at hr; cases hr; rfl
     ·
      exact HK.out.2.1 i (by omega) r hr
    case measure => simp [intOf]; omega
   ·
    have qv : (vn == 0) = false := by simpa using hv
    go_wp2
    obtain ⟨hB, hK3⟩ := set3 HO2.out.ans (.int .i64 vn) (.int .i64 va) (.int .i64 vb)
    obtain ⟨Wb, hWb⟩ : ∃ Wb, Wb = (((W2.setCell ⟨R, 0, none⟩ (.int .i64 vn)).setCell ⟨R, 1, none⟩ (.int .i64 va)).setCell ⟨R, 2, none⟩ (.int .i64 vb)) := ⟨_, rfl⟩
    rw [← hWb] at hB hK3 ⊢
    (try simp only [Exit.inBlock, Exit.then])
    refine bodyPost_ret (results_cell_row rfl _ _ R 65 _ (0, 0) _ rfl hB Tryz.underlying65 rfl (by kernel_rfl)) rfl ?_
    have hlo := HO2.out.lo
    refine ⟨?_, HO2.out.keeps.trans hK3 fun k hk e => by omega⟩
    have := firstF_take (fs := qs.map (·.2.2)) (j := k) (f := ⟨vn, va, vb⟩) (by simp [HK.out.2.2]) (fun i hi r hr => by
     rw [List.getElem?_map] at hr
     obtain ⟨q, hq, rfl⟩ := Option.map_eq_some_iff.1 hr
     exact HK.out.2.1 i hi q hq) hv
    rw [this]
  ·
   have hkL : k = L := by omega
   subst hkL
   have m0 := hO.ans.cell (i := 0) rfl
   have m1 := hO.ans.cell (i := 1) rfl
   have m2 := hO.ans.cell (i := 2) rfl
   have n0 := hO.ans.frozen 0
   have n1 := hO.ans.frozen 1
   have n2 := hO.ans.frozen 2
   have HK : Hid (FfI w E g R (qs.map QV) t wr ∧ (∀ i, i < k → ∀ r : Qn, qs[i]? = some r → r.2.2.n = 0)) := ⟨hO, hno⟩
   clear hO hno
   go_wp2
   obtain ⟨hB, hK3⟩ := set3 HK.out.1.ans (.int .i64 0) (.int .i64 0) (.int .i64 0)
   obtain ⟨Wb, hWb⟩ : ∃ Wb, Wb = (((wr.setCell ⟨R, 0, none⟩ (.int .i64 0)).setCell ⟨R, 1, none⟩ (.int .i64 0)).setCell ⟨R, 2, none⟩ (.int .i64 0)) := ⟨_, rfl⟩
   rw [← hWb] at hB hK3 ⊢
   (try simp only [Exit.inBlock, Exit.then])
   refine bodyPost_ret (results_cell_row rfl _ _ R 65 _ (0, 0) _ rfl hB Tryz.underlying65 rfl (by kernel_rfl)) rfl ?_
   have hlo := HK.out.1.lo
   refine ⟨?_, HK.out.1.keeps.trans hK3 fun k hk e => by omega⟩
   rw [firstF_no fun i r hr => by
    rw [List.getElem?_map] at hr
    obtain ⟨q, hq, rfl⟩ := Option.map_eq_some_iff.1 hr
    have := (List.getElem?_eq_some_iff.1 hq).1
    exact HK.out.2 i (by rw [HL.out] at this; omega) q hq]
   rfl
def MkP (v : Flt) (w : World) (e : Ending) (w' : World) : Prop :=
 KF w w' ∧ ∃ (g : Nat) (t : TypeId) (qs : List Qn) (E : World → Prop), e = .returned (.slice (some ⟨g, 0, none⟩) qs.length qs.length) ∧ Blk w' g (qs.map QV) t ∧ E w' ∧ Qs qs E ∧ firstF (qs.map (·.2.2)) = v
def Makes (f : Nat) (args : Array Value) (E : World → Prop) (v : Flt) : Prop := ∀ w, E w → Calls Tryz.prog f args w (MkP v w)
structure ObI (w : World) (E : World → Prop) (R : Nat) (w' : World) : Prop where
 env : E w'
 ans : Blk w' R [.int .i64 0, .int .i64 0, .int .i64 0] 65
 keeps : KF w w'
 lo : w.heap.size ≤ R
theorem ObI.kept {w : World} {E : World → Prop} {R : Nat} {w' w'' : World} (h : ObI w E R w') (hE : ∀ w w', E w → KF w w' → E w') (hK : KF w' w'') : ObI w E R w'' :=
 ⟨hE _ _ h.env hK, h.ans.kept hK fun h => h, h.keeps.trans hK fun _ _ h => h, h.lo⟩
set_option maxHeartbeats 4000000 in
theorem oneByOne_any (n f : Nat) (bs : Array Value) (E : World → Prop) (an : Nat → Flt) (hn : n ≤ 1000000000) (hent : ∀ args w, (callFunc f args).run Tryz.prog w = .ok (.enter f args) w)
  (hEk : ∀ w w', E w → KF w w' → E w') (hM : ∀ i, i < n → (∀ j, j < i → (an j).n = 0) → Makes f (#[.int .i64 (i : Int)] ++ bs) E (an i)) (w : World) (hE : E w) :
  Calls Tryz.prog 42 #[.int .i64 (n : Int), .func (.func f) #[] bs] w fun e w' => e = .returned (firstF ((List.range n).map an)).v ∧ KF w w' := by
 obtain ⟨W, hW⟩ : ∃ W, W = w.alloc (.cells #[.int .i64 0, .int .i64 0, .int .i64 0] 65) := ⟨_, rfl⟩
 obtain ⟨R, hR⟩ : ∃ R, R = w.heap.size := ⟨_, rfl⟩
 have HE : Hid (∀ w w', E w → KF w w' → E w') := hEk
 have HM : Hid (∀ i, i < n → (∀ j, j < i → (an j).n = 0) → Makes f (#[.int .i64 (i : Int)] ++ bs) E (an i)) := hM
 have HO : Hid (ObI w E R W) := by
  rw [hW, hR]
  exact ⟨hEk _ _ hE ((Keeps.refl _ _).alloc _), Blk.new _ _ _, (Keeps.refl _ _).alloc _, Nat.le_refl _⟩
 clear hE hEk hM
 go_enter Tryz.func42, Tryz.ntmps42
 go_upto_region 1 with fail
 rw [← hW, ← hR]
 clear hW hR
 go_wp2
 go_loopw [8] (fun i wr => ∃ j : Nat, j ≤ n ∧ i = .int .i64 j ∧ (∀ i, i < j → (an i).n = 0) ∧ ObI w E R wr) (fun i _ => n - (intOf i).toNat)
 case atStart => exact ⟨0, by omega, rfl, fun i hi => by omega, HO.out⟩
 case round =>
  obtain ⟨k, hk, rfl, hno, hO⟩ := hrel
  by_cases hlt : k < n
  ·
   have HC : Hid (Makes f (#[.int .i64 (k : Int)] ++ bs) E (an k)) := HM.out k hlt hno
   have HK : Hid (ObI w E R wr ∧ (∀ i, i < k → (an i).n = 0)) := ⟨hO, hno⟩
   clear hno hO
   go_wp2_with fail
   refine (HC.out _ HK.out.1.env).mono ?_
   rintro e w0 ⟨hK0, g, t, qs, E', rfl, hB, hE', hQ, hf⟩
   have HC1 : Hid (Calls Tryz.prog 22 #[.slice (some ⟨g, 0, none⟩) qs.length qs.length] w0 fun e w' => e = .returned (an k).v ∧ KF w0 w') := by rw [← hf]; exact firstFault_any qs E' g t hQ w0 hE' hB
   have HO0 : Hid (ObI w E R w0) := HK.out.1.kept HE.out hK0
   clear hB hE' hQ hf hK0
   go_wp2_with fail
   refine HC1.out.mono ?_
   rintro e w1 ⟨rfl, hK⟩
   have HO1 : Hid (ObI w E R w1) := HO0.out.kept HE.out hK
   clear hK HC1
   obtain ⟨v, hv⟩ : ∃ v, an k = v := ⟨_, rfl⟩
   have HV : Hid (an k = v) := hv
   rw [hv]
   clear hv
   obtain ⟨vn, va, vb⟩ := v
   obtain ⟨W2, hW2⟩ : ∃ W2, W2 = w1.alloc (.cells #[.int .i64 vn, .int .i64 va, .int .i64 vb] 65) := ⟨_, rfl⟩
   obtain ⟨D, hD⟩ : ∃ D, D = w1.heap.size := ⟨_, rfl⟩
   have HO2 : Hid (ObI w E R W2) := by rw [hW2]; exact HO1.out.kept HE.out ((Keeps.refl _ _).alloc _)
   have hB2 : Blk W2 D [.int .i64 vn, .int .i64 va, .int .i64 vb] 65 := by rw [hW2, hD]; exact Blk.new _ _ _
   have m0 := HO2.out.ans.cell (i := 0) rfl
   have m1 := HO2.out.ans.cell (i := 1) rfl
   have m2 := HO2.out.ans.cell (i := 2) rfl
   have n0 := HO2.out.ans.frozen 0
   have n1 := HO2.out.ans.frozen 1
   have n2 := HO2.out.ans.frozen 2
   have d0 := hB2.cell (i := 0) rfl
   have d1 := hB2.cell (i := 1) rfl
   have d2 := hB2.cell (i := 2) rfl
   clear hB2
   go_upto_region 5 with fail
   rw [← hW2, ← hD]
   clear hW2 hD
   by_cases hv : vn = 0
   ·
    subst hv
    go_wp2
    go_roundw
    case rel =>
     refine ⟨k + 1, by omega, by go_num, fun i hi => ?_, HO2.out⟩
     by_cases e : i = k
     ·
      subst e; rw [HV.out]
     ·
      exact HK.out.2 i (by omega)
    case measure => simp [intOf]; omega
   ·
    have qv : (vn == 0) = false := by simpa using hv
    go_wp2
    obtain ⟨hB, hK3⟩ := set3 HO2.out.ans (.int .i64 vn) (.int .i64 va) (.int .i64 vb)
    obtain ⟨Wb, hWb⟩ : ∃ Wb, Wb = (((W2.setCell ⟨R, 0, none⟩ (.int .i64 vn)).setCell ⟨R, 1, none⟩ (.int .i64 va)).setCell ⟨R, 2, none⟩ (.int .i64 vb)) := ⟨_, rfl⟩
    rw [← hWb] at hB hK3 ⊢
    (try simp only [Exit.inBlock, Exit.then])
    refine bodyPost_ret (results_cell_row rfl _ _ R 65 _ (0, 0) _ rfl hB Tryz.underlying65 rfl (by kernel_rfl)) rfl ?_
    have hlo := HO2.out.lo
    refine ⟨?_, HO2.out.keeps.trans hK3 fun k hk e => by omega⟩
    have := firstF_take (fs := (List.range n).map an) (j := k) (f := ⟨vn, va, vb⟩) (by rw [List.getElem?_map, List.getElem?_range hlt, Option.map_some, HV.out]) (fun i hi r hr => by
     rw [List.getElem?_map, List.getElem?_range (by omega)] at hr
     cases hr
     exact HK.out.2 i hi) hv
    rw [this]
  ·
   have hkL : k = n := by omega
   subst hkL
   have m0 := hO.ans.cell (i := 0) rfl
   have m1 := hO.ans.cell (i := 1) rfl
   have m2 := hO.ans.cell (i := 2) rfl
   have n0 := hO.ans.frozen 0
   have n1 := hO.ans.frozen 1
   have n2 := hO.ans.frozen 2
   have HK : Hid (ObI w E R wr ∧ (∀ i, i < k → (an i).n = 0)) := ⟨hO, hno⟩
   clear hO hno
   go_wp2
   obtain ⟨hB, hK3⟩ := set3 HK.out.1.ans (.int .i64 0) (.int .i64 0) (.int .i64 0)
   obtain ⟨Wb, hWb⟩ : ∃ Wb, Wb = (((wr.setCell ⟨R, 0, none⟩ (.int .i64 0)).setCell ⟨R, 1, none⟩ (.int .i64 0)).setCell ⟨R, 2, none⟩ (.int .i64 0)) := ⟨_, rfl⟩
   rw [← hWb] at hB hK3 ⊢
   (try simp only [Exit.inBlock, Exit.then])
   refine bodyPost_ret (results_cell_row rfl _ _ R 65 _ (0, 0) _ rfl hB Tryz.underlying65 rfl (by kernel_rfl)) rfl ?_
   have hlo := HK.out.1.lo
   refine ⟨?_, HK.out.1.keeps.trans hK3 fun k hk e => by omega⟩
   rw [firstF_no fun i r hr => by
    rw [List.getElem?_map] at hr
    obtain ⟨q, hq, rfl⟩ := Option.map_eq_some_iff.1 hr
    have := (List.getElem?_eq_some_iff.1 hq).1
    rw [List.length_range] at this
    rw [List.getElem?_range this] at hq
    cases hq
    exact HK.out.2 i this]
   rfl
end Go.Proofs.YtlnmlbkeemahcaaGreat
