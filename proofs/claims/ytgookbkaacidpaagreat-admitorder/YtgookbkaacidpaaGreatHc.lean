import Derived.Test.YtgookbkaacidpaaGreatHb
namespace Go.Proofs.YtgookbkaacidpaaGreat
open Go.RowKit
set_option linter.unusedVariables false
set_option linter.unusedSimpArgs false
set_option maxRecDepth 6000

/-- A fault of this package, or none. -/
def Rg (f : Flt) : Prop := f = Flt.no ∨ (400 ≤ f.n ∧ f.n ≤ 423 ∧ -1 ≤ f.a ∧ -1 ≤ f.b)
theorem Rg.unl {b : Bool} {f : Flt} (h : 400 ≤ f.n ∧ f.n ≤ 423 ∧ -1 ≤ f.a ∧ -1 ≤ f.b) : Rg (unl b f) := by
  cases b
  · exact .inr h
  · exact .inl rfl
theorem Rg.first {fs : List Flt} (h : ∀ f ∈ fs, Rg f) : Rg (firstF fs) := by
  induction fs with
  | nil => exact .inl rfl
  | cons f fs ih =>
    unfold firstF
    split
    · exact ih fun g hg => h g (List.mem_cons_of_mem _ hg)
    · exact h f (List.mem_cons_self ..)
theorem Rg.range {n : Nat} {f : Nat → Flt} (h : ∀ i, Rg (f i)) : Rg (firstF ((List.range n).map f)) := Rg.first fun g hg => by
  obtain ⟨i, _, rfl⟩ := List.mem_map.1 hg
  exact h i
theorem rgnF_rg (x : Cfg) (p : Nat) (P : Par) (i : Nat) (r : Rgn) : ∀ f ∈ rgnF x p P i r, Rg f := by
  intro f hf
  simp only [rgnF, List.mem_cons, List.not_mem_nil, or_false] at hf
  rcases hf with rfl | rfl | rfl | rfl <;> exact Rg.unl (by dsimp only; omega)
theorem parF_rg (x : Cfg) (p : Nat) (P : Par) : ∀ f ∈ parF x p P, Rg f := by
  intro f hf
  simp only [parF, List.mem_cons, List.not_mem_nil, or_false] at hf
  rcases hf with rfl | rfl | rfl | rfl | rfl | rfl | rfl | rfl
  · exact Rg.unl (by dsimp only; omega)
  · exact Rg.unl (by dsimp only; omega)
  · exact Rg.unl (by dsimp only; omega)
  · exact Rg.unl (by dsimp only; omega)
  · refine Rg.range fun i => ?_
    unfold rgnF'
    cases P.rs[i]? with
    | none => exact .inl rfl
    | some r => exact Rg.first (rgnF_rg x p P i r)
  · exact Rg.unl (by dsimp only; omega)
  · exact Rg.unl (by dsimp only; omega)
  · refine Rg.range fun i => ?_
    unfold prtF'
    cases P.ps[i]? with
    | none => exact .inl rfl
    | some t =>
      refine Rg.first fun f hf => ?_
      simp only [prtF, List.mem_cons, List.not_mem_nil, or_false] at hf
      rcases hf with rfl
      exact Rg.unl (by dsimp only; omega)
theorem chk_rg (x : Cfg) : Rg (chk x) := by
  refine Rg.first fun f hf => ?_
  simp only [cfgF, List.mem_cons, List.not_mem_nil, or_false] at hf
  rcases hf with rfl | rfl | rfl | rfl | rfl | rfl | rfl | rfl | rfl
  · exact Rg.unl (by dsimp only; omega)
  · exact Rg.unl (by dsimp only; omega)
  · exact Rg.unl (by dsimp only; omega)
  · exact Rg.unl (by dsimp only; omega)
  · exact Rg.unl (by dsimp only; omega)
  · refine Rg.range fun i => ?_
    unfold parF'
    cases x.ps[i]? with
    | none => exact .inl rfl
    | some P => exact Rg.first (parF_rg x i P)
  · refine Rg.range fun i => ?_
    unfold chnF'
    cases x.hs[i]? with
    | none => exact .inl rfl
    | some h =>
      refine Rg.first fun f hf => ?_
      simp only [chnF, List.mem_cons, List.not_mem_nil, or_false] at hf
      rcases hf with rfl | rfl | rfl <;> exact Rg.unl (by dsimp only; omega)
  · refine Rg.range fun i => ?_
    unfold corF'
    cases x.cs[i]? with
    | none => exact .inl rfl
    | some X =>
      refine Rg.first fun f hf => ?_
      simp only [corF, List.mem_cons, List.not_mem_nil, or_false] at hf
      rcases hf with rfl | rfl | rfl
      · exact Rg.unl (by dsimp only; omega)
      · refine Rg.range fun k => ?_
        unfold winF'
        cases X.ws[k]? with
        | none => exact .inl rfl
        | some y =>
          refine Rg.first fun f hf => ?_
          simp only [winF, List.mem_cons, List.not_mem_nil, or_false] at hf
          rcases hf with rfl | rfl | rfl <;> exact Rg.unl (by dsimp only; omega)
      · exact Rg.unl (by dsimp only; omega)
  · exact Rg.unl (by dsimp only; omega)
theorem Cfg.Eqv.rel {x y : Cfg} (h : x.Eqv y) : x.Rel y := by
  refine ⟨h.frames, h.major, h.kernel, h.room, ?_, fun j X Y hX hY => ?_, h.len, fun j P Q hP hQ => ?_, h.hs⟩
  · have := congrArg List.length h.cs; simpa using this
  · have : (y.cs.map (·.ws))[j]? = (x.cs.map (·.ws))[j]? := by rw [h.cs]
    rw [List.getElem?_map, List.getElem?_map, hX, hY] at this
    have e : Y.ws = X.ws := by simpa using this
    rw [e]
  · obtain ⟨a1, a2, a3, a4, a5, a6, a7, a8⟩ := h.ps j Q P hQ hP
    exact ⟨a1, a2, a3, a4, a5, a6, by rw [a7], a8⟩

/-- A row of yes and no as a function. -/
abbrev bools (T : Nat → Bool) (n : Nat) : List Value := (List.range n).map fun i => .bool (T i)
theorem bools_set (T : Nat → Bool) (n j : Nat) (v : Bool) : (bools T n).set j (.bool v) = bools (upd T j v) n := by
  unfold bools
  rw [range_set]
  congr 1
  funext i
  unfold upd
  split <;> rfl
theorem bools_get (T : Nat → Bool) {n j : Nat} (h : j < n) : (bools T n)[j]? = some (.bool (T j)) := by
  unfold bools
  rw [List.getElem?_map, List.getElem?_range h]
  rfl
theorem bools_zero (n : Nat) : List.replicate n (Value.bool false) = bools (fun _ => false) n := by
  apply List.ext_getElem?
  intro i
  by_cases hi : i < n
  · simp [hi]
  · simp [hi]
theorem Tryz.zero33 : ((Tryz.prog.info? 33).bind (·.zero)).map (·.cells.toList) = some (List.replicate 1024 (.bool false)) := by kernel_rfl
theorem wpList_alloc_bools {P : Program} {w : World} {ops : Array Oper} {rest : List Oper} {o : Oper} {a : Act} {Q : Exit → Act → World → Prop} (hgd : o.guard = none) (ty : TypeId) (ho : o.op = .alloc ty) (n : Nat) (dst : Option Tmp) (hdst : o.dst = dst)
    (hi : ((P.info? ty).bind (·.zero)).map (·.cells.toList) = some (List.replicate n (.bool false))) (A : Nat) (W' : World) (hA : A = w.heap.size) (hW : W' = w.alloc (.cells (bools (fun _ => false) n).toArray ty))
    (h : wpList P ops Q rest (a.put dst (.pointer (some ⟨A, 0, none⟩))) W') : wpList P ops Q (o :: rest) a w := by
  subst hdst
  refine wpList_plain hgd fun _ hK => ?_
  cases hq : P.info? ty with
  | none => simp [hq] at hi
  | some i =>
    cases hz : i.zero with
    | none => simp [hq, hz] at hi
    | some z =>
      have hn : z.cells.toList = List.replicate n (.bool false) := by simpa [hq, hz] using hi
      have hn2 : z.cells = (bools (fun _ => false) n).toArray := by rw [← bools_zero, ← hn]
      have hr : (Instr.alloc ty true (.tuple #[])).run P w = .ok (.pointer (some ⟨w.heap.size, 0, none⟩)) (w.alloc (.cells z.cells ty)) := by
        simp [Instr.alloc, zeroValue, typeInfo, hq, hz, newVar, newRow]
      unfold Oper.wp execOp
      simp only [ho, Sem.run_bind, hr, Result.andThen_ok, Sem.run_pure]
      rw [hn2, ← hA, ← hW]
      exact hK _ _ h
/-- A frame that somebody was given so far: the kernel, a partition ahead, a region ahead. -/
def Oc (x : Cfg) (p : Nat) (rs : List Rgn) (i : Nat) : Prop :=
  (x.kernel ≤ i ∧ (i : Int) < x.kernel + x.room) ∨ (∃ Q ∈ x.ps.take p, ∃ s ∈ Q.rs, s.frame ≤ i ∧ (i : Int) < s.frame + s.pages) ∨ (∃ s ∈ rs, s.frame ≤ i ∧ (i : Int) < s.frame + s.pages)
theorem Oc.next {x : Cfg} {p : Nat} {P : Par} (hP : x.ps[p]? = some P) {i : Nat} (h : Oc x p P.rs i) : Oc x (p + 1) [] i := by
  rcases h with h | ⟨Q, hQ, h⟩ | ⟨s, hs, h⟩
  · exact .inl h
  · obtain ⟨j, hj, hq⟩ := mem_take_get.1 hQ
    exact .inr (.inl ⟨Q, mem_take_get.2 ⟨j, by omega, hq⟩, h⟩)
  · exact .inr (.inl ⟨P, mem_take_get.2 ⟨p, by omega, hP⟩, s, hs, h⟩)
theorem Oc.more {x : Cfg} {p k : Nat} {P : Par} {r : Rgn} (hr : P.rs[k]? = some r) {i : Nat} (h : Oc x p (P.rs.take k) i ∨ (r.frame ≤ i ∧ (i : Int) < r.frame + r.pages)) : Oc x p (P.rs.take (k + 1)) i := by
  rcases h with (h | h | ⟨s, hs, h⟩) | h
  · exact .inl h
  · exact .inr (.inl h)
  · obtain ⟨j, hj, hq⟩ := mem_take_get.1 hs
    exact .inr (.inr ⟨s, mem_take_get.2 ⟨j, by omega, hq⟩, h⟩)
  · exact .inr (.inr ⟨r, mem_take_get.2 ⟨k, by omega, hr⟩, h⟩)
theorem meets_no {a b : Rn} (h : a.meets b = false) {i : Int} (h1 : a.f ≤ i ∧ i < a.f + a.s) (h2 : b.f ≤ i ∧ i < b.f + b.s) : False := by
  unfold Rn.meets at h
  rw [Bool.and_eq_false_iff, decide_eq_false_iff_not, decide_eq_false_iff_not] at h
  omega
theorem Oc.free {x : Cfg} (g : Gd x) {p k : Nat} {P : Par} {r : Rgn} (hP : x.ps[p]? = some P) (hr : P.rs[k]? = some r) (hh : x.hitB = false) {i : Nat} (hi : r.frame ≤ i ∧ (i : Int) < r.frame + r.pages) : ¬ Oc x p (P.rs.take k) i := by
  have gp := g.gp p P hP
  rintro (h | ⟨Q, hQ, s, hs, h⟩ | ⟨s, hs, h⟩)
  · unfold Cfg.hitB at hh
    rw [List.any_eq_false] at hh
    have h1 := hh P (List.mem_of_getElem? hP)
    rw [Bool.not_eq_true, List.any_eq_false] at h1
    have h2 := h1 r (List.mem_of_getElem? hr)
    rw [Bool.not_eq_true] at h2
    exact meets_no h2 (i := i) hi h
  · exact meets_no (gp.ahead Q hQ s hs r (List.mem_of_getElem? hr)) (i := i) h hi
  · exact meets_no (pairwise_take.1 gp.frames k r hr s hs) (i := i) h hi
structure HoI (w : World) (x : Cfg) (C A N : Nat) (T : Nat → Bool) (w' : World) : Prop where
  one : One w x C N w'
  row : Blk w' A (bools T 1024) 33
  lo : w.heap.size ≤ A
  cm : C < A
theorem HoI.kept {w : World} {x : Cfg} {C A N : Nat} {T : Nat → Bool} {w' w'' : World} (h : HoI w x C A N T w') (k : Keeps (fun _ => False) w' w'') : HoI w x C A N T w'' := ⟨h.one.kept k, h.row.kept k fun h => h, h.lo, h.cm⟩
theorem HoI.put {w : World} {x : Cfg} {C A N : Nat} {T : Nat → Bool} {w' : World} (h : HoI w x C A N T w') (n : Nat) : HoI w x C A N (upd T n true) (w'.setCell ⟨A, n, none⟩ (.bool true)) := by
  have k1 : Keeps (fun k => k = A) w' (w'.setCell ⟨A, n, none⟩ (.bool true)) := (Keeps.refl _ _).setCell ⟨A, n, none⟩ _ fun _ => rfl
  have hlo := h.lo
  have hcm := h.cm
  have hn := h.one.n
  refine ⟨h.one.kept' k1 (by omega) (fun k hk => by omega) (fun k hk => by omega), ?_, hlo, hcm⟩
  have := h.row.setCell n (.bool true)
  rw [bools_set] at this
  exact this
theorem Cfg.need_pos {x : Cfg} (hm : x.mayB = true) (hp : 1 ≤ x.ps.length) : 1 ≤ x.endW - x.kernel := by
  have h2 := rtAt_bd x (rtB x (16 * x.kernel)) x.ps.length
  have h3 := chAt_bd hm (chB x (16 * x.kernel)) x.hs.length
  have h4 : 0 ≤ fillN (chE x (16 * x.kernel)) := by unfold fillN; split <;> omega
  unfold Cfg.endW
  have h5 : rtB x (16 * x.kernel) = chAt x (chB x (16 * x.kernel)) x.hs.length + fillN (chE x (16 * x.kernel)) := rfl
  have h6 : chB x (16 * x.kernel) = 16 * x.kernel + 2 + 24 * (x.ps.length : Int) := rfl
  omega

set_option maxHeartbeats 8000000 in
theorem admitHolds_any (x : Cfg) (w : World) (N : Nat) (hi : x.In w N) (hN : N ≤ w.heap.size) (hs : Sml x) :
    Calls Tryz.prog 3 #[x.v] w fun e w' => e = .returned (.bool true) ∧ Keeps (fun _ => False) w w' := by
  have HS : Hid (Sml x) := hs
  have HO1 := One.mk' hi hN
  obtain ⟨W, hW⟩ : ∃ W, W = x.laid w := ⟨_, rfl⟩
  obtain ⟨C, hC⟩ : ∃ C, C = w.heap.size := ⟨_, rfl⟩
  rw [← hW, ← hC] at HO1
  have HO : Hid (One w x C N W) := HO1
  have HC : Hid (Calls Tryz.prog 7 #[x.v] W (CopP x W)) := Copied_any x W N HO1.cin HO1.nn hs
  obtain ⟨q0, q1, q2, q3, q4, q5, q6⟩ := HO1.cells
  unfold Cfg.laid at hW
  clear hi hN HO1 hs
  go_enter Tryz.func3, Tryz.ntmps3
  go_upto_region 1 with fail
  rw [← hW, ← hC]
  clear hW hC
  go_wp2_with fail
  refine HC.out.mono ?_
  rintro e w1 ⟨x', rfl, hE, hi1, hlo1, hK1⟩
  have HCK : Hid (Calls Tryz.prog 6 #[x'.v] w1 (ChkP x' w1)) := Check_any x' w1 _ hi1 (Nat.le_refl _)
  have HO2 : Hid (One w x C N w1) := HO.out.kept hK1
  have HEQ : Hid (x.Eqv x') := hE
  clear hE hi1 hlo1 hK1 HC q0 q1 q2 q3 q4 q5 q6
  go_wp2_with fail
  refine HCK.out.mono ?_
  rintro e w2 ⟨rfl, hK2⟩
  have HO3 : Hid (One w x C N w2) := HO2.out.kept hK2
  have hrg := chk_rg x'
  obtain ⟨F, hF⟩ : ∃ F, chk x' = F := ⟨_, rfl⟩
  have HF : Hid (chk x' = F) := hF
  rw [hF] at hrg ⊢
  clear hK2 HCK hF
  obtain ⟨fn, fa, fb⟩ := F
  dsimp only at hrg ⊢
  obtain ⟨W3, hW3⟩ : ∃ W3, W3 = w2.alloc (.cells #[.int .i64 fa, .int .i64 fb] 29) := ⟨_, rfl⟩
  obtain ⟨D, hD⟩ : ∃ D, D = w2.heap.size := ⟨_, rfl⟩
  have HO4 : Hid (One w x C N W3) := by rw [hW3]; exact HO3.out.kept ((Keeps.refl _ _).alloc _)
  have hB3 : Blk W3 D [.int .i64 fa, .int .i64 fb] 29 := by rw [hW3, hD]; exact Blk.new _ _ _
  have d0 := hB3.cell (i := 0) rfl
  have d1 := hB3.cell (i := 1) rfl
  clear hB3
  go_upto_region 2 with fail
  rw [← hW3, ← hD]
  clear hW3 hD
  rcases hrg with hrg | hrg
  · cases hrg
    have g : Gd x := HEQ.out.rel.symm.gd (chk_n.1 (by rw [HF.out]))
    have HG : Hid (Gd x) := g
    obtain ⟨k0, k1, k2, k3, k4, k5, k6⟩ := HO4.out.cells
    have gf := g.frames
    have gk := g.ker
    unfold Cfg.kerB at gk
    simp only [Bool.and_eq_true, inR_iff] at gk
    obtain ⟨gk1, gk2, gk3, gk4⟩ := gk
    have HGK : Hid (x.hitB = false ∧ x.fitB = true) := ⟨by simpa using gk3, gk4⟩
    clear g gk3 gk4
    have qa : IntKind.i64.wrap (x.kernel + x.room) = x.kernel + x.room := by rw [IntKind.wrap_i64]; omega
    have t1 : decide (x.frames < 1) = false := by rw [decide_eq_false_iff_not]; omega
    have t2 : decide (1024 < x.frames) = false := by rw [decide_eq_false_iff_not]; omega
    have t3 : decide (x.kernel < 0) = false := by rw [decide_eq_false_iff_not]; omega
    have t4 : decide (x.room < 1) = false := by rw [decide_eq_false_iff_not]; omega
    have t5 : decide (x.frames < x.kernel + x.room) = false := by rw [decide_eq_false_iff_not]; omega
    obtain ⟨A, hA⟩ : ∃ A, A = W3.heap.size := ⟨_, rfl⟩
    obtain ⟨W4, hW4⟩ : ∃ W4, W4 = W3.alloc (.cells (bools (fun _ => false) 1024).toArray 33) := ⟨_, rfl⟩
    have HI0 : Hid (HoI w x C A N (fun _ => false) W4) := by
      have := HO4.out.cfg.lt
      have := HO4.out.keeps.size
      exact ⟨by rw [hW4]; exact HO4.out.kept ((Keeps.refl _ _).alloc _), by rw [hW4, hA]; exact Blk.new _ _ _, by omega, by omega⟩
    have HAW : Hid (A = W3.heap.size ∧ W4 = W3.alloc (.cells (bools (fun _ => false) 1024).toArray 33)) := ⟨hA, hW4⟩
    clear hA hW4
    go_wp2_with (refine wpList_alloc_bools rfl 33 rfl 1024 (some 5) rfl Tryz.zero33 A W4 HAW.out.1 HAW.out.2 ?_; refine Hid.out ?_)
    refine Hid.mkq ?_
    clear HAW k0 k1 k2 k3 k4 k5 k6 t1 t2 t3 t4 t5 d0 d1
    have k2 := HI0.out.one.cfg.cell (i := 2) rfl
    obtain ⟨kn, hkn⟩ : ∃ kn : Nat, x.kernel = kn := ⟨x.kernel.toNat, by omega⟩
    have HKN : Hid (x.kernel = kn) := hkn
    rw [hkn] at k2 qa gk1 gk2
    obtain ⟨rm, hrm⟩ : ∃ rm : Nat, x.room = rm := ⟨x.room.toNat, by omega⟩
    have HRM : Hid (x.room = rm) := hrm
    rw [hrm] at qa gk2
    clear hkn hrm
    go_wp2
    go_loopw [6] (fun i wr => ∃ (n : Nat) (T : Nat → Bool), kn ≤ n ∧ n ≤ kn + rm ∧ i = .int .i64 n ∧ HoI w x C A N T wr ∧ (∀ i, T i = true → kn ≤ i ∧ i < n)) (fun i _ => kn + rm - (intOf i).toNat)
    case atStart => exact ⟨kn, _, by omega, by omega, rfl, HI0.out, fun i h => by simp at h⟩
    case round =>
      obtain ⟨n, T, hn1, hn2, rfl, hI, hT⟩ := hrel
      clear k2
      have k2 := hI.one.cfg.cell (i := 2) rfl
      have k3 := hI.one.cfg.cell (i := 3) rfl
      rw [HKN.out] at k2
      rw [HRM.out] at k3
      by_cases hlt : n < kn + rm
      · have tn : decide ((n : Int) < (kn : Int) + rm) = true := by rw [decide_eq_true_eq]; omega
        have a0 := hI.row.cell (bools_get T (show n < 1024 by omega))
        have a1 := hI.row.frozen n
        have HP : Hid (HoI w x C A N (upd T n true) (wr.setCell ⟨A, n, none⟩ (.bool true)) ∧ (∀ i, upd T n true i = true → kn ≤ i ∧ i < n + 1)) := ⟨hI.put n, fun i h => by
          unfold upd at h
          split at h
          · omega
          · have := hT i h; omega⟩
        obtain ⟨tv, htv⟩ : ∃ tv, T n = tv := ⟨_, rfl⟩
        rw [htv] at a0
        clear hI hT htv
        go_wp2
        go_roundw
        case rel => exact ⟨n + 1, _, by omega, by omega, by go_num, HP.out.1, HP.out.2⟩
        case measure => simp [intOf]; omega
      · have tn : decide ((n : Int) < (kn : Int) + rm) = false := by rw [decide_eq_false_iff_not]; omega
        have HI1 : Hid (HoI w x C A N T wr ∧ ∀ i, T i = true → Oc x 0 [] i) := ⟨hI, fun i h => .inl (by have := hT i h; rw [HKN.out, HRM.out]; omega)⟩
        obtain ⟨PL, hPL⟩ : ∃ PL, x.ps.length = PL := ⟨_, rfl⟩
        have HPL : Hid (x.ps.length = PL) := hPL
        have hPb : 1 ≤ PL ∧ PL ≤ 8 := by have := HG.out.ps; omega
        have hpc : (PL : Int) ≤ x.pc ∧ (x.pc : Int) ≤ 9223372036854775807 := by have := hI.one.cin.plen; rw [hPL] at this; unfold maxLen at this; omega
        clear hI hT hPL
        go_wp2
        go_loopw [7] (fun i wr => ∃ (p : Nat) (T : Nat → Bool), p ≤ PL ∧ i = .int .i64 p ∧ HoI w x C A N T wr ∧ (∀ i, T i = true → Oc x p [] i)) (fun i _ => PL - (intOf i).toNat)
        case atStart => exact ⟨0, T, by omega, rfl, HI1.out.1, HI1.out.2⟩
        case round =>
          obtain ⟨p, T, hp, rfl, hI, hT⟩ := hrel
          clear k2 k3
          by_cases hlp : p < PL
          · obtain ⟨P, hP⟩ : ∃ P, x.ps[p]? = some P := ⟨_, List.getElem?_eq_getElem (by have := HPL.out; omega)⟩
            have HP : Hid (x.ps[p]? = some P) := hP
            have gp := HG.out.gp p P hP
            have HGP : Hid (GP x p P) := gp
            obtain ⟨RL, hRL⟩ : ∃ RL, P.rs.length = RL := ⟨_, rfl⟩
            have HRL : Hid (P.rs.length = RL) := hRL
            have hRb : RL ≤ 8 := by have := gp.rlen; omega
            have k5 : wr.cell? ⟨C, 5, none⟩ = some (.slice x.pa PL x.pc) := by have := hI.one.cfg.cell (i := 5) rfl; rw [HPL.out] at this; exact this
            have HI2 : Hid (HoI w x C A N T wr ∧ ∀ i, T i = true → Oc x p (P.rs.take 0) i) := ⟨hI, hT⟩
            have hrc : (RL : Int) ≤ P.rc ∧ (P.rc : Int) ≤ 9223372036854775807 := by have := (hI.one.cin.pin P (List.mem_of_getElem? hP)).rlen; rw [hRL] at this; unfold maxLen at this; omega
            clear hI hT gp hP hRL
            go_wp2
            go_loopw [8] (fun i wr => ∃ (k : Nat) (T : Nat → Bool), k ≤ RL ∧ i = .int .i64 k ∧ HoI w x C A N T wr ∧ (∀ i, T i = true → Oc x p (P.rs.take k) i)) (fun i _ => RL - (intOf i).toNat)
            case atStart => exact ⟨0, T, by omega, rfl, HI2.out.1, HI2.out.2⟩
            case round =>
              obtain ⟨k, T, hk, rfl, hI, hT⟩ := hrel
              clear k5
              obtain ⟨g0, o0, e0, hc⟩ := hI.one.cin.par HP.out
              have p6 := hc 6 _ rfl
              rw [HRL.out] at p6
              have k5 : wr.cell? ⟨C, 5, none⟩ = some (.slice (some ⟨g0, o0, none⟩) PL x.pc) := by have := hI.one.cfg.cell (i := 5) rfl; rw [HPL.out, e0] at this; exact this
              clear e0 hc
              by_cases hlk : k < RL
              · obtain ⟨r, hr⟩ : ∃ r, P.rs[k]? = some r := ⟨_, List.getElem?_eq_getElem (by have := HRL.out; omega)⟩
                have HR : Hid (P.rs[k]? = some r) := hr
                have hPi := hI.one.cin.pin P (List.mem_of_getElem? HP.out)
                obtain ⟨g1, o1, e1, hg1⟩ := hPi.rseg.at hr
                rw [e1] at p6
                have y0 := hg1 0 _ rfl
                rw [Nat.add_zero] at y0
                have y1 := hg1 1 _ rfl
                have y2 := hg1 2 _ rfl
                have y3 := hg1 3 _ rfl
                have ho := Rgn.okB_iff.1 (HGP.out.rok r (List.mem_of_getElem? hr))
                obtain ⟨pg, pn, pf, pr⟩ := r
                dsimp only at ho y0 y1 y2 y3
                obtain ⟨f0, hf0⟩ : ∃ f0 : Nat, pf = f0 := ⟨pf.toNat, by omega⟩
                obtain ⟨n0, hn0⟩ : ∃ n0 : Nat, pn = n0 := ⟨pn.toNat, by omega⟩
                subst hf0
                subst hn0
                have hfn : f0 + n0 ≤ 1024 ∧ 1 ≤ n0 ∧ ((f0 : Int) + n0 ≤ x.frames) := by omega
                have s1 : decide ((n0 : Int) < 1) = false := by rw [decide_eq_false_iff_not]; omega
                have s2 : decide ((f0 : Int) < 0) = false := by rw [decide_eq_false_iff_not]; omega
                have s3 : decide (x.frames < (f0 : Int) + n0) = false := by rw [decide_eq_false_iff_not]; omega
                have qs : IntKind.i64.wrap ((f0 : Int) + n0) = (f0 : Int) + n0 := by rw [IntKind.wrap_i64]; omega
                obtain ⟨W5, hW5⟩ : ∃ W5, W5 = wr.alloc (.cells #[.int .i64 pg, .int .i64 (n0 : Int), .int .i64 (f0 : Int), .int .i64 pr] 39) := ⟨_, rfl⟩
                obtain ⟨B, hB⟩ : ∃ B, B = wr.heap.size := ⟨_, rfl⟩
                have hbw : Blk W5 B [.int .i64 pg, .int .i64 (n0 : Int), .int .i64 (f0 : Int), .int .i64 pr] 39 := by rw [hW5, hB]; exact Blk.new _ _ _
                have hI5 : HoI w x C A N T W5 := by rw [hW5]; exact hI.kept ((Keeps.refl _ _).alloc _)
                have hAB : A < B := by rw [hB]; exact hI.row.lt
                have HI3 : Hid (HoI w x C A N T W5 ∧ (∀ i, T i = true → Oc x p (P.rs.take k) i) ∧ Blk W5 B [.int .i64 pg, .int .i64 (n0 : Int), .int .i64 (f0 : Int), .int .i64 pr] 39 ∧ A < B) := ⟨hI5, hT, hbw, hAB⟩
                have b1 := hbw.cell (i := 1) rfl
                have b2 := hbw.cell (i := 2) rfl
                have k0 := hI5.one.cfg.cell (i := 0) rfl
                clear hI hT hI5 hbw hPi e1 hg1 hr ho hAB
                go_upto_region 18 with fail
                rw [← hW5, ← hB]
                clear hW5 hB y0 y1 y2 y3 p6 k5
                go_wp2
                go_loopw [10] (fun i wr => ∃ (n : Nat) (T : Nat → Bool), f0 ≤ n ∧ n ≤ f0 + n0 ∧ i = .int .i64 n ∧ HoI w x C A N T wr ∧ (∀ i, T i = true → Oc x p (P.rs.take k) i ∨ (f0 ≤ i ∧ i < n)) ∧ Blk wr B [.int .i64 pg, .int .i64 (n0 : Int), .int .i64 (f0 : Int), .int .i64 pr] 39) (fun i _ => f0 + n0 - (intOf i).toNat)
                case atStart => exact ⟨f0, T, by omega, by omega, rfl, HI3.out.1, fun i h => .inl (HI3.out.2.1 i h), HI3.out.2.2.1⟩
                case round =>
                  obtain ⟨n, T, hm1, hm2, rfl, hI, hT, hbw⟩ := hrel
                  clear b1 b2 k0
                  have b1 := hbw.cell (i := 1) rfl
                  have b2 := hbw.cell (i := 2) rfl
                  by_cases hlm : n < f0 + n0
                  · have tm : decide ((n : Int) < (f0 : Int) + n0) = true := by rw [decide_eq_true_eq]; omega
                    have hTn : T n = false := by
                      cases hv : T n with
                      | false => rfl
                      | true =>
                        exfalso
                        rcases hT n hv with h | h
                        · exact Oc.free HG.out HP.out HR.out HGK.out.1 (i := n) (by dsimp only; omega) h
                        · omega
                    have a0 := hI.row.cell (bools_get T (show n < 1024 by omega))
                    rw [hTn] at a0
                    have a1 := hI.row.frozen n
                    have hb' : Blk (wr.setCell ⟨A, n, none⟩ (.bool true)) B [.int .i64 pg, .int .i64 (n0 : Int), .int .i64 (f0 : Int), .int .i64 pr] 39 := hbw.kept ((Keeps.refl (fun k => k = A) _).setCell ⟨A, n, none⟩ (.bool true) fun _ => rfl) (by have := HI3.out.2.2.2; omega)
                    have HP2 : Hid (HoI w x C A N (upd T n true) (wr.setCell ⟨A, n, none⟩ (.bool true)) ∧ (∀ i, upd T n true i = true → Oc x p (P.rs.take k) i ∨ (f0 ≤ i ∧ i < n + 1)) ∧ Blk (wr.setCell ⟨A, n, none⟩ (.bool true)) B [.int .i64 pg, .int .i64 (n0 : Int), .int .i64 (f0 : Int), .int .i64 pr] 39) := ⟨hI.put n, fun i h => by
                      unfold upd at h
                      split at h
                      · right; omega
                      · rcases hT i h with h | h
                        · exact .inl h
                        · right; omega, hb'⟩
                    clear hI hT hbw hb' hTn
                    go_wp2
                    go_roundw
                    case rel => exact ⟨n + 1, _, by omega, by omega, by go_num, HP2.out.1, HP2.out.2.1, HP2.out.2.2⟩
                    case measure => simp [intOf]; omega
                  · have tm : decide ((n : Int) < (f0 : Int) + n0) = false := by rw [decide_eq_false_iff_not]; omega
                    have HI4 : Hid (HoI w x C A N T wr ∧ ∀ i, T i = true → Oc x p (P.rs.take (k + 1)) i) := ⟨hI, fun i h => by
                      refine Oc.more HR.out ?_
                      rcases hT i h with h | h
                      · exact .inl h
                      · right; dsimp only; omega⟩
                    clear hI hT hbw
                    go_wp2
                    go_roundw
                    case rel => exact ⟨k + 1, T, by omega, by go_num, HI4.out.1, HI4.out.2⟩
                    case measure => simp [intOf]; omega
              · have HI4 : Hid (HoI w x C A N T wr ∧ ∀ i, T i = true → Oc x (p + 1) [] i) := ⟨hI, fun i h => by
                  refine Oc.next HP.out ?_
                  have := hT i h
                  rw [List.take_of_length_le (l := P.rs) (by rw [HRL.out]; omega)] at this
                  exact this⟩
                clear hI hT
                go_wp2
                go_roundw
                case rel => exact ⟨p + 1, T, by omega, by go_num, HI4.out.1, HI4.out.2⟩
                case measure => simp [intOf]; omega
          · have HI2 : Hid (HoI w x C A N T wr) := hI
            have k5' : wr.cell? ⟨C, 5, none⟩ = some (.slice x.pa PL x.pc) := by have := hI.one.cfg.cell (i := 5) rfl; rw [HPL.out] at this; exact this
            obtain ⟨k0, k1, k2, k3, k4, k5, k6⟩ := hI.one.cells
            have HC : Hid (Calls Tryz.prog 7 #[x.v] wr (CopP x wr)) := Copied_any x wr N hI.one.cin hI.one.nn HS.out
            clear hI hT
            have HPL2 : Hid (x.ps.length = PL) := HPL.out
            have tp : ¬ p < x.ps.length := by rw [HPL.out]; omega
            clear k5'
            go_wp2_with fail
            refine HC.out.mono ?_
            rintro e w1 ⟨x2, rfl, hE, hi1, hlo1, hK1⟩
            have HND : Hid (Calls Tryz.prog 8 #[x2.v] w1 (NeedP x2 w1)) := Need_any x2 w1 _ hi1 (Nat.le_refl _)
            have HO5 : Hid (One w x C N w1) := HI2.out.one.kept hK1
            have HEQ2 : Hid (x.Eqv x2) := hE
            clear hE hi1 hlo1 hK1 HC k0 k1 k2 k3 k4 k5 k6 tp
            go_wp2_with fail
            refine HND.out.mono ?_
            have hfit := HGK.out.2
            unfold Cfg.fitB at hfit
            rw [Bool.and_eq_true, decide_eq_true_eq] at hfit
            have hmay : x2.mayB = true := by rw [HEQ2.out.rel.mayB]; exact hfit.1
            rintro e w2 ⟨hK2, ⟨h, _⟩ | ⟨_, rfl⟩⟩
            · rw [hmay] at h; cases h
            have HO6 : Hid (One w x C N w2) := HO5.out.kept hK2
            have hned := Cfg.need_pos hfit.1 HG.out.ps.1
            have e1 : x2.endW - x2.kernel = x.endW - x.kernel := by rw [HEQ2.out.rel.endW, HEQ2.out.kernel]
            rw [e1]
            obtain ⟨Z, hZ⟩ : ∃ Z, x.endW - x.kernel = Z := ⟨_, rfl⟩
            have hfit2 := hfit.2
            rw [hZ] at hned hfit2 ⊢
            clear hK2 HND hfit hmay e1 hZ
            obtain ⟨k0, k1, k2, k3, k4, k5, k6⟩ := HO6.out.cells
            have t1 : decide (1 ≤ Z) = true := by rw [decide_eq_true_eq]; exact hned
            have t2 : decide (Z ≤ x.room) = true := by rw [decide_eq_true_eq]; exact hfit2
            have HTM : Hid (Calls Tryz.prog 9 #[x.v] w2 fun e w' => e = .returned (.bool true) ∧ Keeps (fun _ => False) w2 w') := timed_any x w2 N HO6.out.cin HO6.out.nn HG.out
            go_wp2_with fail
            refine HTM.out.mono ?_
            rintro e w3 ⟨rfl, hK3⟩
            have HO7 : Hid (One w x C N w3) := HO6.out.kept hK3
            have HLD : Hid (Calls Tryz.prog 10 #[x.v] w3 fun e w' => e = .returned (.bool true) ∧ Keeps (fun _ => False) w3 w') := led_any x w3 N HO7.out.cin HO7.out.nn HG.out
            clear hK3 HTM k0 k1 k2 k3 k4 k5 k6
            obtain ⟨k0, k1, k2, k3, k4, k5, k6⟩ := HO7.out.cells
            go_wp2_with fail
            refine HLD.out.mono ?_
            rintro e w4 ⟨rfl, hK4⟩
            have HO8 : Hid (One w x C N w4) := HO7.out.kept hK4
            clear hK4 HLD k0 k1 k2 k3 k4 k5 k6
            go_wp2
            go_ret
            exact ⟨rfl, HO8.out.keeps⟩
  · have qn : (fn == 0) = false := by simp; dsimp only at hrg; omega
    dsimp only at hrg
    have t1 : decide (-1 ≤ fa) = true := by rw [decide_eq_true_eq]; omega
    have t2 : decide (-1 ≤ fb) = true := by rw [decide_eq_true_eq]; omega
    have t3 : decide (400 ≤ fn) = true := by rw [decide_eq_true_eq]; omega
    have t4 : decide (fn ≤ 423) = true := by rw [decide_eq_true_eq]; omega
    clear hrg
    go_wp2
    go_ret
    exact ⟨rfl, HO4.out.keeps⟩
end Go.Proofs.YtgookbkaacidpaaGreat
