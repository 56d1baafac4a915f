import Derived.Test.YtnkohgciecmecaaGreatDoorSa
import Derived.Defers
namespace Go.Proofs.YtnkohgciecmecaaGreatDoor
open Go.RowKit
set_option linter.unusedVariables false
set_option linter.unusedSimpArgs false
set_option maxRecDepth 6000

theorem results_two_cell {P : Program} {fn : Func} {p u : Tmp} {ty : TypeId} (h : fn.results = #[.tmp u, .cell p ty]) (tmps : Array Value) (w : World) (g : Nat) (t : TypeId) (cs : Array Value) (fr : Nat × Nat) (d : TypeDesc)
    (hp : tmps.getD p undef = .pointer (some ⟨g, 0, none⟩)) (hg : w.heap[g]? = some (.cells cs t fr))
    (hu : P.underlying ty = some d) (hd : (match d with | .struct _ | .array _ _ => true | _ => false) = true) (hi : (P.info? ty).map (·.size) = some cs.size) :
    (results fn tmps).run P w = .ok (.tuple #[tmps.getD u undef, .agg cs]) w := by
  have hp' : tmps[p]?.getD undef = .pointer (some ⟨g, 0, none⟩) := by simpa using hp
  simp [results, h, hp', asAddr, run_loadVar_row w g t ty cs fr d hg hu hd hi]
theorem Tryz.size205 : (Tryz.prog.info? 205).map (·.size) = some 2 := by kernel_rfl
theorem all29 (n a : Int) : (#[Value.int .i64 n, .int .i64 a] : Array Value).all (fun v => v.oneCell') = true := by kernel_rfl
theorem set2 {w : World} {C : Nat} {a0 a1 : Value} {t : TypeId} (hB : Blk w C [a0, a1] t) (v0 v1 : Value) :
    Blk ((w.setCell ⟨C, 0, none⟩ v0).setCell ⟨C, 1, none⟩ v1) C [v0, v1] t ∧ Keeps (fun k => k = C) w ((w.setCell ⟨C, 0, none⟩ v0).setCell ⟨C, 1, none⟩ v1) :=
  ⟨(hB.setCell 0 v0).setCell 1 v1, ((Keeps.refl (fun k => k = C) w).setCell ⟨C, 0, none⟩ v0 fun _ => rfl).setCell ⟨C, 1, none⟩ v1 fun _ => rfl⟩

def ChkP (w : World) (e : Ending) (w' : World) : Prop := e = .returned (.tuple #[.int .i64 c0.n, .agg #[.int .i64 c0.a, .int .i64 c0.b]]) ∧ Keeps (fun _ => False) w w'
theorem Check_zero (w : World) (N : Nat) (hi : x0.In w N) (hN : N ≤ w.heap.size) : Calls Tryz.prog 88 #[x0.v] w (ChkP w) := by
  have HO1 := One.mk' hi hN
  obtain ⟨W0, hW0⟩ : ∃ W0, W0 = x0.laid w := ⟨_, rfl⟩
  obtain ⟨C, hC⟩ : ∃ C, C = w.heap.size := ⟨_, rfl⟩
  rw [← hW0, ← hC] at HO1
  obtain ⟨W, hW⟩ : ∃ W, W = W0.alloc (.cells #[.int .i64 0, .int .i64 0] 205) := ⟨_, rfl⟩
  obtain ⟨R, hR⟩ : ∃ R, R = w.heap.size + 1 := ⟨_, rfl⟩
  have hR0 : R = W0.heap.size := by rw [hR, hW0]; simp [Cfg.laid]
  have HO : Hid (One w x0 C N W ∧ Blk W R [.int .i64 0, .int .i64 0] 205 ∧ w.heap.size ≤ R) := by
    rw [hW]; exact ⟨HO1.kept ((Keeps.refl _ _).alloc _), by rw [hR0]; exact Blk.new _ _ _, by omega⟩
  have HQ : Hid (Calls Tryz.prog 135 #[x0.v] W (MkP (c0) W)) := questions_zero N W ⟨HO.out.1.cin, HO.out.1.nn, fun b hb => by cases hb⟩
  obtain ⟨q0, q1, q2, q3, q4, q5, q6⟩ := HO.out.1.cells
  unfold Cfg.laid at hW0
  clear hi hN HO1 hR0
  go_enter Tryz.func88, Tryz.ntmps88
  go_upto_region 1 with fail
  rw [← hW0, ← hW, ← hR, ← hC]
  clear hW hR hC hW0
  go_wp2_with fail
  refine HQ.out.mono ?_
  rintro e w1 ⟨k, g, t, qs, E', rfl, hB, hE', hQ, hv⟩
  have HC1 : Hid (Calls Tryz.prog 134 #[.slice (some ⟨g, 0, none⟩) qs.length qs.length] w1 fun e w' => e = .returned (c0).v ∧ Keeps (fun _ => False) w1 w') := by rw [← hv]; exact firstFault_any qs E' g t hQ w1 hE' hB
  have HO2 : Hid (One w x0 C N w1 ∧ Blk w1 R [.int .i64 0, .int .i64 0] 205) := ⟨HO.out.1.kept k, HO.out.2.1.kept k fun h => h⟩
  obtain ⟨n, hn⟩ : ∃ n, qs.length = n := ⟨_, rfl⟩
  rw [hn] at HC1 ⊢
  clear k hB hE' hQ hv hn q0 q1 q2 q3 q4 q5 q6 HQ
  go_wp2_with fail
  refine HC1.out.mono ?_
  rintro e w2 ⟨rfl, hK⟩
  have HO3 : Hid (One w x0 C N w2 ∧ Blk w2 R [.int .i64 0, .int .i64 0] 205) := ⟨HO2.out.1.kept hK, HO2.out.2.kept hK fun h => h⟩
  obtain ⟨F, hF⟩ : ∃ F, c0 = F := ⟨_, rfl⟩
  have HF : Hid (c0 = F) := hF
  rw [hF]
  clear hK hF HC1 HO2
  obtain ⟨fn, fa, fb⟩ := F
  obtain ⟨W3, hW3⟩ : ∃ W3, W3 = w2.alloc (.cells #[.int .i64 fn, .int .i64 fa, .int .i64 fb] 290) := ⟨_, rfl⟩
  obtain ⟨D, hD⟩ : ∃ D, D = w2.heap.size := ⟨_, rfl⟩
  have HO4 : Hid (One w x0 C N W3.drew ∧ Blk W3.drew R [.int .i64 0, .int .i64 0] 205 ∧ Blk W3.drew D [.int .i64 fn, .int .i64 fa, .int .i64 fb] 290 ∧ D ≠ R) := by
    have hl := HO3.out.2.lt
    rw [hW3, hD]
    exact ⟨HO3.out.1.kept (((Keeps.refl _ _).alloc _).drew), HO3.out.2.kept (((Keeps.refl (fun _ => False) _).alloc _).drew) fun h => h, (Blk.new _ _ _).kept ((Keeps.refl (fun _ => False) _).drew) fun h => h, by omega⟩
  have d0 := HO4.out.2.2.1.cell (i := 0) rfl
  have d1 := HO4.out.2.2.1.cell (i := 1) rfl
  have d2 := HO4.out.2.2.1.cell (i := 2) rfl
  go_upto_region 2 with fail
  rw [← hW3, ← hD]
  clear hW3 hD
  refine wp_region_held_drew (S := (fun w' => w'.cell? ⟨D, 0, none⟩ = some (.int .i64 fn) ∧ w'.cell? ⟨D, 1, none⟩ = some (.int .i64 fa) ∧ w'.cell? ⟨D, 2, none⟩ = some (.int .i64 fb))) Tryz.mixd ⟨d0, d1, d2⟩ (fun hHeld => ?_)
  simp only [List.size_toArray, List.length_cons, List.length_nil, Nat.reduceAdd, Array.replicate_succ, Array.replicate_zero, List.push_toArray, List.append_toArray, List.nil_append, List.cons_append]
  refine wpAnyH_take (i := 0) (oi := { dst := some 8, op := Op.fieldAddr 290 (Operand.tmp 4) 0, type := 0, pos := "admit.go:12", after := #[], guard := none }) (v := .pointer (some ⟨D, 0, none⟩)) rfl (by kernel_rfl) (by kernel_rfl) (by kernel_rfl) (fun _ _ _ h => h) (Or.inl ⟨by kernel_rfl, by (intro w hSw; (try dsimp only at hSw); go_simp)⟩) hHeld ?_
  simp only [Act.put, List.setIfInBounds_toArray, List.set_cons_zero, List.set_cons_succ]
  refine wpAnyH_take (i := 1) (oi := { dst := some 9, op := Op.load 22 (Operand.tmp 8), type := 22, pos := "admit.go:12", after := #[{ on := 0, ground := Ground.data }], guard := none }) (v := .int .i64 fn) rfl (by kernel_rfl) (by kernel_rfl) (by kernel_rfl) (fun _ _ _ h => h) (Or.inl ⟨by kernel_rfl, by (intro w hSw; (try dsimp only at hSw); go_simp)⟩) hHeld ?_
  simp only [Act.put, List.setIfInBounds_toArray, List.set_cons_zero, List.set_cons_succ]
  refine wpAnyH_take (i := 2) (oi := { dst := some 10, op := Op.fieldAddr 290 (Operand.tmp 4) 1, type := 0, pos := "admit.go:12", after := #[{ on := 4, ground := Ground.gcOnly Departure.lateStores }], guard := none }) (v := .pointer (some ⟨D, 1, none⟩)) rfl (by kernel_rfl) (by kernel_rfl) (by kernel_rfl) (fun _ _ _ h => h) (Or.inl ⟨by kernel_rfl, by (intro w hSw; (try dsimp only at hSw); go_simp)⟩) hHeld ?_
  simp only [Act.put, List.setIfInBounds_toArray, List.set_cons_zero, List.set_cons_succ]
  refine wpAnyH_take (i := 3) (oi := { dst := some 11, op := Op.load 205 (Operand.tmp 10), type := 205, pos := "admit.go:12", after := #[{ on := 2, ground := Ground.data }, { on := 4, ground := Ground.gcOnly Departure.lateStores }], guard := none }) (v := .agg #[.int .i64 fa, .int .i64 fb]) rfl (by kernel_rfl) (by kernel_rfl) (by kernel_rfl) (fun _ _ _ h => h) (Or.inl ⟨by kernel_rfl, by (intro w hSw; (try dsimp only at hSw); go_simp)⟩) hHeld ?_
  simp only [Act.put, List.setIfInBounds_toArray, List.set_cons_zero, List.set_cons_succ]
  refine wpAnyH_take (i := 4) (oi := { dst := some 2, op := Op.assign (Operand.tmp 9), type := 22, pos := "admit.go:12", after := #[{ on := 1, ground := Ground.data }, { on := 0, ground := Ground.phase }, { on := 1, ground := Ground.phase }, { on := 2, ground := Ground.textOnly Departure.lateStores }, { on := 3, ground := Ground.textOnly Departure.lateStores }], guard := none }) (v := .int .i64 fn) rfl (by kernel_rfl) (by kernel_rfl) (by kernel_rfl) (fun _ _ _ h => h) (Or.inl ⟨by kernel_rfl, by (intro w hSw; (try dsimp only at hSw); go_simp)⟩) hHeld ?_
  simp only [Act.put, List.setIfInBounds_toArray, List.set_cons_zero, List.set_cons_succ]
  refine wpAnyH_ready (rs := [5]) (by kernel_rfl) (by simp) ?_
  refine AllReadyH.cons (o := { dst := none, op := Op.store 205 (Operand.tmp 3) (Operand.tmp 11), type := 0, pos := "admit.go:12", after := #[{ on := 3, ground := Ground.data }, { on := 4, ground := Ground.chain }, { on := 0, ground := Ground.phase }, { on := 1, ground := Ground.phase }, { on := 2, ground := Ground.phase }, { on := 3, ground := Ground.phase }, { on := 4, ground := Ground.phase }], guard := none }) rfl (fun K hK => ?_) AllReadyH.nil
  refine wp_store_row 205 _ _ rfl R #[.int .i64 fa, .int .i64 fb] (by rfl) (by rfl) 205 _ HO4.out.2.1 Tryz.size205 rfl (all29 ..) ?_
  obtain ⟨W5, hW5⟩ : ∃ W5, W5 = W3.drew.setRow R #[.int .i64 fa, .int .i64 fb] := ⟨_, rfl⟩
  have hB5 : Blk W5 R [.int .i64 fa, .int .i64 fb] 205 := by rw [hW5]; exact Blk.setRow HO4.out.2.1 _
  have k5 : Keeps (fun k => k = R) W3.drew W5 := by rw [hW5]; exact (Keeps.refl _ _).setRow _ _ fun _ => rfl
  have hlo := HO.out.2.2
  have hd5 : Blk W5 D [.int .i64 fn, .int .i64 fa, .int .i64 fb] 290 := HO4.out.2.2.1.kept k5 HO4.out.2.2.2
  have HO5 : Hid (Blk W5 R [.int .i64 fa, .int .i64 fb] 205 ∧ Keeps (fun _ => False) w W5) := ⟨hB5, HO4.out.1.keeps.trans k5 fun k hk e => by omega⟩
  have hS5 : W5.cell? ⟨D, 0, none⟩ = some (.int .i64 fn) ∧ W5.cell? ⟨D, 1, none⟩ = some (.int .i64 fa) ∧ W5.cell? ⟨D, 2, none⟩ = some (.int .i64 fb) := ⟨hd5.cell rfl, hd5.cell rfl, hd5.cell rfl⟩
  rw [← hW5]
  clear hW5 hB5 k5 hlo hd5
  refine hK.out _ _ hS5 (fun hHeld => ?_)
  simp only [Act.put, List.setIfInBounds_toArray, List.set_cons_zero, List.set_cons_succ]
  refine wpAnyH_done (by kernel_rfl) ?_ _
  clear hHeld hS5
  go_wp2
  (try simp only [Exit.inBlock, Exit.then])
  refine bodyPost_ret (results_two_cell rfl _ _ R 205 _ (0, 0) _ rfl HO5.out.1 Tryz.underlying205 rfl (by kernel_rfl)) rfl ?_
  exact ⟨by rw [HF.out]; rfl, HO5.out.2⟩

theorem Check_z (w : World) : Calls Tryz.prog 88 #[x0.v] w fun e w' => e = .returned (.tuple #[.int .i64 400, .agg #[.int .i64 (-1), .int .i64 (-1)]]) ∧ Keeps (fun _ => False) w w' :=
  Check_zero w w.heap.size (x0_in _ _) (Nat.le_refl _)
/-- The empty configuration in a block of its own. -/
theorem one_z (w : World) : One w x0 w.heap.size w.heap.size (x0.laid w) := One.mk' (x0_in _ _) (Nat.le_refl _)

set_option maxHeartbeats 4000000 in
theorem wo_zero (w : World) : Calls Tryz.prog 86 #[x0.v] w fun e w' => e = .returned (.tuple #[.pointer none, .int .i64 400]) ∧ Keeps (fun _ => False) w w' := by
  have hO1 := one_z w
  obtain ⟨W, hW⟩ : ∃ W, W = x0.laid w := ⟨_, rfl⟩
  obtain ⟨C, hC⟩ : ∃ C, C = w.heap.size := ⟨_, rfl⟩
  have HO : Hid (One w x0 C C W) := by rw [hW, hC]; exact hO1
  have HC := Hid.mkq (Check_z W)
  obtain ⟨q0, q1, q2, q3, q4, q5, q6⟩ := HO.out.cells
  unfold Cfg.laid at hW
  clear hO1
  go_enter Tryz.func86, Tryz.ntmps86
  go_upto_region 1 with fail
  rw [← hW, ← hC]
  clear hW hC
  go_wp2_with fail
  refine HC.out.mono ?_
  rintro e w1 ⟨rfl, hK1⟩
  have HK : Hid (Keeps (fun _ => False) w w1) := HO.out.keeps.trans hK1 fun _ _ h => h
  clear hK1 HC HO q0 q1 q2 q3 q4 q5 q6
  go_wp2
  go_ret2
  exact ⟨rfl, by have := HK.out; first | exact (this.alloc _).drew | exact this.alloc _ | exact this⟩
theorem go_nil (A B : Nat) (z : Int) (u : FrameMode) (w : World) (v : Value) (hz : ¬ z = 0) (hA : w.cell? ⟨A, 0, none⟩ = some (.int .i64 z)) (hB : w.cell? ⟨B, 0, none⟩ = some v) (hf : w.frozen? ⟨B, 0, none⟩ = false) :
    CallsD Tryz.prog 85 #[.pointer (some ⟨A, 0, none⟩), .pointer (some ⟨B, 0, none⟩)] u w fun e u' w' => u' = u ∧ (∃ v, e = .returned v) ∧ w' = w.setCell ⟨B, 0, none⟩ (.pointer none) := by
  go_enter_d Tryz.func85, Tryz.ntmps85
  go_wp2
  go_end0
  exact ⟨⟨_, rfl⟩, rfl⟩
theorem go_be (A B : Nat) (u : FrameMode) (w : World) (hA : w.cell? ⟨A, 0, none⟩ = some (.int .i64 0)) :
    CallsD Tryz.prog 85 #[.pointer (some ⟨A, 0, none⟩), .pointer (some ⟨B, 0, none⟩)] u w fun e u' w' => u' = u ∧ (∃ v, e = .returned v) ∧ w' = w := by
  go_enter_d Tryz.func85, Tryz.ntmps85
  go_wp2
  go_end0
  exact ⟨⟨_, rfl⟩, rfl⟩

theorem boot_door (R : Ending → World → Prop) (tmps : Array Value) (A B : Nat) (W : World) (z t : Int) (p : Option Addr) (h4 : tmps.getD 4 undef = .pointer (some ⟨B, 0, none⟩)) (h5 : tmps.getD 5 undef = .pointer (some ⟨A, 0, none⟩)) (h6 : tmps.getD 6 undef = .int .i64 t)
    (hA : Blk W A [.int .i64 z] 22) (hB : Blk W B [.pointer p] 121) (hAB : A ≠ B) (hz : z ≠ 0 → R (.returned (.tuple #[.pointer none, .int .i64 z, .int .i64 t])) (W.setCell ⟨B, 0, none⟩ (.pointer none))) (h0 : z = 0 → R (.returned (.tuple #[.pointer p, .int .i64 0, .int .i64 t])) W) :
    bodyPostD Tryz.prog Tryz.f63 R Exit.ret { tmps := tmps, defers := [{ target := .fn (.func 85) #[.pointer (some ⟨A, 0, none⟩), .pointer (some ⟨B, 0, none⟩)], args := #[] }] } W := by
  have h4' : tmps[4]?.getD undef = .pointer (some ⟨B, 0, none⟩) := by simpa using h4
  have h5' : tmps[5]?.getD undef = .pointer (some ⟨A, 0, none⟩) := by simpa using h5
  have h6' : tmps[6]?.getD undef = .int .i64 t := by simpa using h6
  have cA := hA.cell (i := 0) rfl
  have cB := hB.cell (i := 0) rfl
  have fB := hB.frozen 0
  refine leaves_cons (f := 85) (args := #[.pointer (some ⟨A, 0, none⟩), .pointer (some ⟨B, 0, none⟩)]) (by simp) (by simp [go_sem]) ?_
  by_cases e : z = 0
  · subst e
    refine (go_be A B .returning W cA).mono ?_
    rintro e u' w'' ⟨rfl, ⟨v, rfl⟩, rfl⟩
    refine ⟨.tuple #[.pointer p, .int .i64 0, .int .i64 t], ?_, h0 rfl⟩
    simp [results, Tryz.results63, go_sem, cA, cB, h4', h5', h6']
  · refine (go_nil A B z .returning W _ e cA cB fB).mono ?_
    rintro e' u' w'' ⟨rfl, ⟨v, rfl⟩, rfl⟩
    have cB' := (hB.setCell 0 (.pointer none)).cell (i := 0) (v := .pointer none) rfl
    have cA' := (hA.setCell_ne (a := ⟨B, 0, none⟩) hAB (.pointer none)).cell (i := 0) rfl
    refine ⟨.tuple #[.pointer none, .int .i64 z, .int .i64 t], ?_, hz e⟩
    simp [results, Tryz.results63, go_sem, cA', cB', h4', h5', h6']

theorem wp_quiet {P : Program} {c : Code} {K : Act → World → Prop} {Q : Exit → Act → World → Prop} {a : Act} {w : World} (h : Code.wp P c (Exit.then K (fun _ _ _ => False)) a w) : Code.wp P c (Exit.then K Q) a w :=
  Code.wp_mono (fun e a w h => by cases e <;> first | exact h | exact h.elim) h
structure Res (w : World) (C : Nat) (p : Option Addr) (z : Int) (W : World) : Prop where
  b4 : Blk W (C + 1) [.pointer p] 121
  b5 : Blk W (C + 1 + 1) [.int .i64 z] 22
  k : Keeps (fun k => k = C + 1 ∨ k = C + 1 + 1) w W
theorem Res.set {w W : World} {C : Nat} {p : Option Addr} {z : Int} (h : Res w C p z W) (p' : Option Addr) (z' : Int) : Res w C p' z' ((W.setCell ⟨C + 1, 0, none⟩ (.pointer p')).setCell ⟨C + 1 + 1, 0, none⟩ (.int .i64 z')) :=
  ⟨(h.b4.setCell 0 (.pointer p')).setCell_ne (a := ⟨C + 1 + 1, 0, none⟩) (by simp) _, (h.b5.setCell_ne (a := ⟨C + 1, 0, none⟩) (by simp) _).setCell 0 (.int .i64 z'), (h.k.setCell ⟨C + 1, 0, none⟩ (.pointer p') fun _ => .inl rfl).setCell ⟨C + 1 + 1, 0, none⟩ (.int .i64 z') fun _ => .inr rfl⟩


set_option maxHeartbeats 4000000 in
theorem boot_zero (w : World) : Calls Tryz.prog 63 #[x0.v, .slice none 0 0] w fun e w' => e = .returned (.tuple #[.pointer none, .int .i64 240, .int .i64 (-1)]) ∧ Keeps (fun _ => False) w w' := by
  have hmf : ∀ (fn : Fn) (first cap : Array Value) (w : World), (Instr.makeFunc fn first cap).run Tryz.prog w = .ok (.func fn first cap) w := fun _ _ _ _ => rfl
  obtain ⟨W, hW⟩ : ∃ W, W = ((x0.laid w).alloc (.cells #[.pointer none] 121)).alloc (.cells #[.int .i64 0] 22) := ⟨_, rfl⟩
  obtain ⟨C, hC⟩ : ∃ C, C = w.heap.size := ⟨_, rfl⟩
  have hO : One w x0 C C W := by rw [hW, hC]; exact ((one_z w).kept ((Keeps.refl _ _).alloc _)).kept ((Keeps.refl _ _).alloc _)
  have hb4 : Blk W (C + 1) [.pointer none] 121 := by
    have := Blk.new (x0.laid w) #[.pointer none] 121
    rw [show (x0.laid w).heap.size = C + 1 by rw [hC]; simp [Cfg.laid]] at this
    rw [hW]; exact this.alloc _
  have hb5 : Blk W (C + 1 + 1) [.int .i64 0] 22 := by
    have := Blk.new ((x0.laid w).alloc (.cells #[.pointer none] 121)) #[.int .i64 0] 22
    rw [show ((x0.laid w).alloc (.cells #[.pointer none] 121)).heap.size = C + 1 + 1 by rw [hC]; simp [Cfg.laid]] at this
    rw [hW]; exact this
  have HO : Hid (One w x0 C C W ∧ Blk W (C + 1) [.pointer none] 121 ∧ Blk W (C + 1 + 1) [.int .i64 0] 22 ∧ C = w.heap.size) := ⟨hO, hb4, hb5, hC⟩
  have HC := Hid.mkq (wo_zero W)
  obtain ⟨q0, q1, q2, q3, q4, q5, q6⟩ := hO.cells
  unfold Cfg.laid at hW
  clear hO hb4 hb5
  go_enter_defers Tryz.func63, Tryz.ntmps63
  go_upto_region 2 with fail
  rw [← hW, ← hC]
  clear hW hC
  go_wp2_with fail
  refine HC.out.mono ?_
  rintro e w1 ⟨rfl, hK1⟩
  have hB4 := HO.out.2.1.kept hK1 fun h => h
  have hB5 := HO.out.2.2.1.kept hK1 fun h => h
  have c4 := hB4.cell (i := 0) rfl
  have f4 := hB4.frozen 0
  have c5 := hB5.cell (i := 0) rfl
  have f5 := hB5.frozen 0
  have HR : Hid (Keeps (fun _ => False) W w1 ∧ Res w1 C none 0 w1) := ⟨hK1, hB4, hB5, Keeps.refl _ _⟩
  clear hK1 hB4 hB5 HC
  go_wp2
  have hr := (HR.out.2.set none 400).set none 240
  refine boot_door _ _ (C + 1 + 1) (C + 1) _ 240 (-1) none rfl rfl rfl hr.b5 hr.b4 (by omega) (fun _ => ?_) (fun e => absurd e (by decide))
  refine ⟨rfl, ?_⟩
  have hc := HO.out.2.2.2
  have k1 : Keeps (fun _ => False) w _ := (HO.out.1.keeps.trans HR.out.1 fun _ _ h => h).trans hr.k fun k hk e => by omega
  exact k1.setCell _ _ fun e => by simp only at e; omega

end Go.Proofs.YtnkohgciecmecaaGreatDoor
