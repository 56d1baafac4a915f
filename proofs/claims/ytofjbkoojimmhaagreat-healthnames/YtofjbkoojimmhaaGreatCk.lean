import Derived.Test.YtofjbkoojimmhaaGreatQz
namespace Go.Proofs.YtofjbkoojimmhaaGreat
open Go.RowKit
set_option linter.unusedVariables false
set_option linter.unusedSimpArgs false
set_option maxRecDepth 6000

set_option maxHeartbeats 4000000 in
theorem questions_any (x : Cfg) (N : Nat) : Makes 49 #[x.v] (Env x N []) (chk x) := by
  intro w hE
  obtain ⟨W, hW⟩ : ∃ W, W = x.laid w := ⟨_, rfl⟩
  obtain ⟨C, hC⟩ : ∃ C, C = w.heap.size := ⟨_, rfl⟩
  have hE1 : Env x N [(C, [.int .i64 x.frames, .int .i64 x.major, .int .i64 x.kernel, .int .i64 x.room, .slice x.ca x.cs.length x.cc, .slice x.pa x.ps.length x.pc, .slice x.ha x.hs.length x.hc], 26)] W := by rw [hW, hC]; exact hE.box _ _
  obtain ⟨W2, hW2⟩ : ∃ W2, W2 = W.alloc (.cells #[.int .i64 (-1), .int .i64 (-1)] 114) := ⟨_, rfl⟩
  obtain ⟨A, hA⟩ : ∃ A, A = w.heap.size + 1 := ⟨_, rfl⟩
  have hA0 : A = W.heap.size := by rw [hA, hW]; simp [Cfg.laid]
  have HA0 : Hid (A = W.heap.size) := hA0
  have hE2 : Env x N [(A, [.int .i64 (-1), .int .i64 (-1)], 114), (C, [.int .i64 x.frames, .int .i64 x.major, .int .i64 x.kernel, .int .i64 x.room, .slice x.ca x.cs.length x.cc, .slice x.pa x.ps.length x.pc, .slice x.ha x.hs.length x.hc], 26)] W2 := by rw [hW2, hA0]; exact hE1.box _ _
  have k2 : Keeps (fun _ => False) w W2 := by rw [hW2, hW]; exact ((Keeps.refl _ _).alloc _).alloc _
  have HF : Hid (MkP (chk x) w (.returned (.slice (some ⟨W2.heap.size, 0, none⟩) 9 9)) (W2.alloc (.cells #[.func (.func 64) #[] #[.pointer (some ⟨C, 0, none⟩), .pointer (some ⟨A, 0, none⟩)], .func (.func 67) #[] #[.pointer (some ⟨C, 0, none⟩), .pointer (some ⟨A, 0, none⟩)], .func (.func 68) #[] #[.pointer (some ⟨C, 0, none⟩), .pointer (some ⟨A, 0, none⟩)], .func (.func 69) #[] #[.pointer (some ⟨C, 0, none⟩), .pointer (some ⟨A, 0, none⟩)], .func (.func 70) #[] #[.pointer (some ⟨C, 0, none⟩), .pointer (some ⟨A, 0, none⟩)], .func (.func 71) #[] #[.pointer (some ⟨C, 0, none⟩)], .func (.func 75) #[] #[.pointer (some ⟨C, 0, none⟩)], .func (.func 78) #[] #[.pointer (some ⟨C, 0, none⟩)], .func (.func 81) #[] #[.pointer (some ⟨C, 0, none⟩), .pointer (some ⟨A, 0, none⟩)]] 158))) :=
    MkP.of (cfgQs x N C A _ rfl) (k2.trans ((Keeps.refl (fun _ => False) _).alloc _) fun _ _ h => h) (Blk.new _ _ _) (hE2.kept ((Keeps.refl _ _).alloc _)) rfl rfl
  unfold Cfg.laid at hW
  clear hE hE1 hA0 hE2 k2
  go_enter Tryz.func49, Tryz.ntmps49
  go_upto_region 1 with fail
  rw [← hW, ← hC]
  clear hC hW hA
  go_upto_region 2 with fail
  rw [← hW2, ← HA0.out]
  clear hW2
  go_wp2
  go_ret
  exact HF.out

theorem results_two_cell {P : Program} {fn : Func} {p u : Tmp} {ty : TypeId} (h : fn.results = #[.tmp u, .cell p ty]) (tmps : Array Value) (w : World) (g : Nat) (t : TypeId) (cs : Array Value) (fr : Nat × Nat) (d : TypeDesc)
    (hp : tmps.getD p undef = .pointer (some ⟨g, 0, none⟩)) (hg : w.heap[g]? = some (.cells cs t fr))
    (hu : P.underlying ty = some d) (hd : (match d with | .struct _ | .array _ _ => true | _ => false) = true) (hi : (P.info? ty).map (·.size) = some cs.size) :
    (results fn tmps).run P w = .ok (.tuple #[tmps.getD u undef, .agg cs]) w := by
  have hp' : tmps[p]?.getD undef = .pointer (some ⟨g, 0, none⟩) := by simpa using hp
  simp [results, h, hp', asAddr, run_loadVar_row w g t ty cs fr d hg hu hd hi]
theorem Tryz.size114 : (Tryz.prog.info? 114).map (·.size) = some 2 := by kernel_rfl
theorem all29 (n a : Int) : (#[Value.int .i64 n, .int .i64 a] : Array Value).all (fun v => v.oneCell') = true := by kernel_rfl
theorem set2 {w : World} {C : Nat} {a0 a1 : Value} {t : TypeId} (hB : Blk w C [a0, a1] t) (v0 v1 : Value) :
    Blk ((w.setCell ⟨C, 0, none⟩ v0).setCell ⟨C, 1, none⟩ v1) C [v0, v1] t ∧ Keeps (fun k => k = C) w ((w.setCell ⟨C, 0, none⟩ v0).setCell ⟨C, 1, none⟩ v1) :=
  ⟨(hB.setCell 0 v0).setCell 1 v1, ((Keeps.refl (fun k => k = C) w).setCell ⟨C, 0, none⟩ v0 fun _ => rfl).setCell ⟨C, 1, none⟩ v1 fun _ => rfl⟩

def ChkP (x : Cfg) (w : World) (e : Ending) (w' : World) : Prop := e = .returned (.tuple #[.int .i64 (chk x).n, .agg #[.int .i64 (chk x).a, .int .i64 (chk x).b]]) ∧ Keeps (fun _ => False) w w'
set_option maxHeartbeats 4000000 in
theorem Check_any (x : Cfg) (w : World) (N : Nat) (hi : x.In w N) (hN : N ≤ w.heap.size) : Calls Tryz.prog 33 #[x.v] w (ChkP x w) := by
  have HO1 := One.mk' hi hN
  obtain ⟨W0, hW0⟩ : ∃ W0, W0 = x.laid w := ⟨_, rfl⟩
  obtain ⟨C, hC⟩ : ∃ C, C = w.heap.size := ⟨_, rfl⟩
  rw [← hW0, ← hC] at HO1
  obtain ⟨W, hW⟩ : ∃ W, W = W0.alloc (.cells #[.int .i64 0, .int .i64 0] 114) := ⟨_, rfl⟩
  obtain ⟨R, hR⟩ : ∃ R, R = w.heap.size + 1 := ⟨_, rfl⟩
  have hR0 : R = W0.heap.size := by rw [hR, hW0]; simp [Cfg.laid]
  have HO : Hid (One w x C N W ∧ Blk W R [.int .i64 0, .int .i64 0] 114 ∧ w.heap.size ≤ R) := by
    rw [hW]; exact ⟨HO1.kept ((Keeps.refl _ _).alloc _), by rw [hR0]; exact Blk.new _ _ _, by omega⟩
  have HQ : Hid (Calls Tryz.prog 49 #[x.v] W (MkP (chk x) W)) := questions_any x N W ⟨HO.out.1.cin, HO.out.1.nn, fun b hb => by cases hb⟩
  obtain ⟨q0, q1, q2, q3, q4, q5, q6⟩ := HO.out.1.cells
  unfold Cfg.laid at hW0
  clear hi hN HO1 hR0
  go_enter Tryz.func33, Tryz.ntmps33
  go_upto_region 1 with fail
  rw [← hW0, ← hW, ← hR, ← hC]
  clear hW hR hC hW0
  go_wp2_with fail
  refine HQ.out.mono ?_
  rintro e w1 ⟨k, g, t, qs, E', rfl, hB, hE', hQ, hv⟩
  have HC1 : Hid (Calls Tryz.prog 48 #[.slice (some ⟨g, 0, none⟩) qs.length qs.length] w1 fun e w' => e = .returned (chk x).v ∧ Keeps (fun _ => False) w1 w') := by rw [← hv]; exact firstFault_any qs E' g t hQ w1 hE' hB
  have HO2 : Hid (One w x C N w1 ∧ Blk w1 R [.int .i64 0, .int .i64 0] 114) := ⟨HO.out.1.kept k, HO.out.2.1.kept k fun h => h⟩
  obtain ⟨n, hn⟩ : ∃ n, qs.length = n := ⟨_, rfl⟩
  rw [hn] at HC1 ⊢
  clear k hB hE' hQ hv hn q0 q1 q2 q3 q4 q5 q6 HQ
  go_wp2_with fail
  refine HC1.out.mono ?_
  rintro e w2 ⟨rfl, hK⟩
  have HO3 : Hid (One w x C N w2 ∧ Blk w2 R [.int .i64 0, .int .i64 0] 114) := ⟨HO2.out.1.kept hK, HO2.out.2.kept hK fun h => h⟩
  obtain ⟨F, hF⟩ : ∃ F, chk x = F := ⟨_, rfl⟩
  have HF : Hid (chk x = F) := hF
  rw [hF]
  clear hK hF HC1 HO2
  obtain ⟨fn, fa, fb⟩ := F
  obtain ⟨W3, hW3⟩ : ∃ W3, W3 = w2.alloc (.cells #[.int .i64 fn, .int .i64 fa, .int .i64 fb] 140) := ⟨_, rfl⟩
  obtain ⟨D, hD⟩ : ∃ D, D = w2.heap.size := ⟨_, rfl⟩
  have HO4 : Hid (One w x C N W3.drew ∧ Blk W3.drew R [.int .i64 0, .int .i64 0] 114 ∧ Blk W3.drew D [.int .i64 fn, .int .i64 fa, .int .i64 fb] 140 ∧ D ≠ R) := by
    have hl := HO3.out.2.lt
    rw [hW3, hD]
    exact ⟨HO3.out.1.kept (((Keeps.refl _ _).alloc _).drew), HO3.out.2.kept (((Keeps.refl (fun _ => False) _).alloc _).drew) fun h => h, (Blk.new _ _ _).kept ((Keeps.refl (fun _ => False) _).drew) fun h => h, by omega⟩
  have d0 := HO4.out.2.2.1.cell (i := 0) rfl
  have d1 := HO4.out.2.2.1.cell (i := 1) rfl
  have d2 := HO4.out.2.2.1.cell (i := 2) rfl
  go_upto_region 2 with fail
  rw [← hW3, ← hD]
  clear hW3 hD
  refine wp_region_held_drew (S := (fun w' => w'.cell? ⟨D, 0, none⟩ = some (.int .i64 fn) ∧ w'.cell? ⟨D, 1, none⟩ = some (.int .i64 fa) ∧ w'.cell? ⟨D, 2, none⟩ = some (.int .i64 fb))) Tryz.mixd ⟨d0, d1, d2⟩ (fun hHeld => ?_)
  simp only [List.size_toArray, List.length_cons, List.length_nil, Nat.reduceAdd, Array.replicate_succ, Array.replicate_zero, List.push_toArray, List.append_toArray, List.nil_append, List.cons_append]
  refine wpAnyH_take (i := 0) (oi := { dst := some 8, op := Op.fieldAddr 140 (Operand.tmp 4) 0, type := 0, pos := "admit.go:12", after := #[], guard := none }) (v := .pointer (some ⟨D, 0, none⟩)) rfl (by kernel_rfl) (by kernel_rfl) (by kernel_rfl) (fun _ _ _ h => h) (Or.inl ⟨by kernel_rfl, by (intro w hSw; (try dsimp only at hSw); go_simp)⟩) hHeld ?_
  simp only [Act.put, List.setIfInBounds_toArray, List.set_cons_zero, List.set_cons_succ]
  refine wpAnyH_take (i := 1) (oi := { dst := some 9, op := Op.load 46 (Operand.tmp 8), type := 46, pos := "admit.go:12", after := #[{ on := 0, ground := Ground.data }], guard := none }) (v := .int .i64 fn) rfl (by kernel_rfl) (by kernel_rfl) (by kernel_rfl) (fun _ _ _ h => h) (Or.inl ⟨by kernel_rfl, by (intro w hSw; (try dsimp only at hSw); go_simp)⟩) hHeld ?_
  simp only [Act.put, List.setIfInBounds_toArray, List.set_cons_zero, List.set_cons_succ]
  refine wpAnyH_take (i := 2) (oi := { dst := some 10, op := Op.fieldAddr 140 (Operand.tmp 4) 1, type := 0, pos := "admit.go:12", after := #[{ on := 4, ground := Ground.gcOnly Departure.lateStores }], guard := none }) (v := .pointer (some ⟨D, 1, none⟩)) rfl (by kernel_rfl) (by kernel_rfl) (by kernel_rfl) (fun _ _ _ h => h) (Or.inl ⟨by kernel_rfl, by (intro w hSw; (try dsimp only at hSw); go_simp)⟩) hHeld ?_
  simp only [Act.put, List.setIfInBounds_toArray, List.set_cons_zero, List.set_cons_succ]
  refine wpAnyH_take (i := 3) (oi := { dst := some 11, op := Op.load 114 (Operand.tmp 10), type := 114, pos := "admit.go:12", after := #[{ on := 2, ground := Ground.data }, { on := 4, ground := Ground.gcOnly Departure.lateStores }], guard := none }) (v := .agg #[.int .i64 fa, .int .i64 fb]) rfl (by kernel_rfl) (by kernel_rfl) (by kernel_rfl) (fun _ _ _ h => h) (Or.inl ⟨by kernel_rfl, by (intro w hSw; (try dsimp only at hSw); go_simp)⟩) hHeld ?_
  simp only [Act.put, List.setIfInBounds_toArray, List.set_cons_zero, List.set_cons_succ]
  refine wpAnyH_take (i := 4) (oi := { dst := some 2, op := Op.assign (Operand.tmp 9), type := 46, pos := "admit.go:12", after := #[{ on := 1, ground := Ground.data }, { on := 0, ground := Ground.phase }, { on := 1, ground := Ground.phase }, { on := 2, ground := Ground.textOnly Departure.lateStores }, { on := 3, ground := Ground.textOnly Departure.lateStores }], guard := none }) (v := .int .i64 fn) rfl (by kernel_rfl) (by kernel_rfl) (by kernel_rfl) (fun _ _ _ h => h) (Or.inl ⟨by kernel_rfl, by (intro w hSw; (try dsimp only at hSw); go_simp)⟩) hHeld ?_
  simp only [Act.put, List.setIfInBounds_toArray, List.set_cons_zero, List.set_cons_succ]
  refine wpAnyH_ready (rs := [5]) (by kernel_rfl) (by simp) ?_
  refine AllReadyH.cons (o := { dst := none, op := Op.store 114 (Operand.tmp 3) (Operand.tmp 11), type := 0, pos := "admit.go:12", after := #[{ on := 3, ground := Ground.data }, { on := 4, ground := Ground.chain }, { on := 0, ground := Ground.phase }, { on := 1, ground := Ground.phase }, { on := 2, ground := Ground.phase }, { on := 3, ground := Ground.phase }, { on := 4, ground := Ground.phase }], guard := none }) rfl (fun K hK => ?_) AllReadyH.nil
  refine wp_store_row 114 _ _ rfl R #[.int .i64 fa, .int .i64 fb] (by rfl) (by rfl) 114 _ HO4.out.2.1 Tryz.size114 rfl (all29 ..) ?_
  obtain ⟨W5, hW5⟩ : ∃ W5, W5 = W3.drew.setRow R #[.int .i64 fa, .int .i64 fb] := ⟨_, rfl⟩
  have hB5 : Blk W5 R [.int .i64 fa, .int .i64 fb] 114 := by rw [hW5]; exact Blk.setRow HO4.out.2.1 _
  have k5 : Keeps (fun k => k = R) W3.drew W5 := by rw [hW5]; exact (Keeps.refl _ _).setRow _ _ fun _ => rfl
  have hlo := HO.out.2.2
  have hd5 : Blk W5 D [.int .i64 fn, .int .i64 fa, .int .i64 fb] 140 := HO4.out.2.2.1.kept k5 HO4.out.2.2.2
  have HO5 : Hid (Blk W5 R [.int .i64 fa, .int .i64 fb] 114 ∧ Keeps (fun _ => False) w W5) := ⟨hB5, HO4.out.1.keeps.trans k5 fun k hk e => by omega⟩
  have hS5 : W5.cell? ⟨D, 0, none⟩ = some (.int .i64 fn) ∧ W5.cell? ⟨D, 1, none⟩ = some (.int .i64 fa) ∧ W5.cell? ⟨D, 2, none⟩ = some (.int .i64 fb) := ⟨hd5.cell rfl, hd5.cell rfl, hd5.cell rfl⟩
  rw [← hW5]
  clear hW5 hB5 k5 hlo hd5
  refine hK.out _ _ hS5 (fun hHeld => ?_)
  simp only [Act.put, List.setIfInBounds_toArray, List.set_cons_zero, List.set_cons_succ]
  refine wpAnyH_done (by kernel_rfl) ?_ _
  clear hHeld hS5
  go_wp2
  (try simp only [Exit.inBlock, Exit.then])
  refine bodyPost_ret (results_two_cell rfl _ _ R 114 _ (0, 0) _ rfl HO5.out.1 Tryz.underlying114 rfl (by kernel_rfl)) rfl ?_
  exact ⟨by rw [HF.out]; rfl, HO5.out.2⟩
end Go.Proofs.YtofjbkoojimmhaaGreat
