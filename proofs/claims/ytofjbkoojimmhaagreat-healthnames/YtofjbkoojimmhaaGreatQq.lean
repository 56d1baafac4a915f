import Derived.Test.YtofjbkoojimmhaaGreatQp
namespace Go.Proofs.YtofjbkoojimmhaaGreat
open Go.RowKit
set_option linter.unusedVariables false
set_option linter.unusedSimpArgs false
set_option maxRecDepth 6000

/-- What is asked of a port. -/
def prtF (x : Cfg) (p q : Nat) (t : Prt) : List Flt := [unl (inR t.ch 0 ((x.hs.length : Int) - 1)) ⟨414, p, q⟩]
theorem Tryz.size138 : (Tryz.prog.info? 138).map (·.size) = some 2 := by kernel_rfl
theorem all51 (n : Int) (b : Bool) : (#[Value.int .i64 n, .bool b] : Array Value).all (fun v => v.oneCell') = true := by kernel_rfl
set_option maxHeartbeats 4000000 in
theorem q88 (x : Cfg) (N : Nat) (p q : Nat) (t : Prt) (T C I J : Nat) : Ask 156 #[.pointer (some ⟨T, 0, none⟩), .pointer (some ⟨C, 0, none⟩), .pointer (some ⟨I, 0, none⟩), .pointer (some ⟨J, 0, none⟩)] (Env x N [(T, [.int .i64 t.ch, .bool t.src], 138), (C, [.int .i64 x.frames, .int .i64 x.major, .int .i64 x.kernel, .int .i64 x.room, .slice x.ca x.cs.length x.cc, .slice x.pa x.ps.length x.pc, .slice x.ha x.hs.length x.hc], 26), (I, [.int .i64 (p : Int)], 3), (J, [.int .i64 (q : Int)], 3)]) (unl (inR t.ch 0 ((x.hs.length : Int) - 1)) ⟨414, p, q⟩) := by
  intro w hE
  have q1 : IntKind.i64.wrap ((x.hs.length : Int) - 1) = (x.hs.length : Int) - 1 := by have := hE.cin.hlen; unfold maxLen at this; rw [IntKind.wrap_i64]; omega
  have HEk : Hid (∀ w w', (Env x N [(T, [.int .i64 t.ch, .bool t.src], 138), (C, [.int .i64 x.frames, .int .i64 x.major, .int .i64 x.kernel, .int .i64 x.room, .slice x.ca x.cs.length x.cc, .slice x.pa x.ps.length x.pc, .slice x.ha x.hs.length x.hc], 26), (I, [.int .i64 (p : Int)], 3), (J, [.int .i64 (q : Int)], 3)]) w → Keeps (fun _ => False) w w' → (Env x N [(T, [.int .i64 t.ch, .bool t.src], 138), (C, [.int .i64 x.frames, .int .i64 x.major, .int .i64 x.kernel, .int .i64 x.room, .slice x.ca x.cs.length x.cc, .slice x.pa x.ps.length x.pc, .slice x.ha x.hs.length x.hc], 26), (I, [.int .i64 (p : Int)], 3), (J, [.int .i64 (q : Int)], 3)]) w') := fun _ _ h k => h.kept k
  have HS : Hid (∀ w', (Env x N [(T, [.int .i64 t.ch, .bool t.src], 138), (C, [.int .i64 x.frames, .int .i64 x.major, .int .i64 x.kernel, .int .i64 x.room, .slice x.ca x.cs.length x.cc, .slice x.pa x.ps.length x.pc, .slice x.ha x.hs.length x.hc], 26), (I, [.int .i64 (p : Int)], 3), (J, [.int .i64 (q : Int)], 3)]) w' → (w'.cell? ⟨T, 0, none⟩ = some (.int .i64 t.ch) ∧ w'.cell? ⟨T, 1, none⟩ = some (.bool t.src) ∧ w'.cell? ⟨C, 0, none⟩ = some (.int .i64 x.frames) ∧ w'.cell? ⟨C, 1, none⟩ = some (.int .i64 x.major) ∧ w'.cell? ⟨C, 2, none⟩ = some (.int .i64 x.kernel) ∧ w'.cell? ⟨C, 3, none⟩ = some (.int .i64 x.room) ∧ w'.cell? ⟨C, 4, none⟩ = some (.slice x.ca x.cs.length x.cc) ∧ w'.cell? ⟨C, 5, none⟩ = some (.slice x.pa x.ps.length x.pc) ∧ w'.cell? ⟨C, 6, none⟩ = some (.slice x.ha x.hs.length x.hc) ∧ w'.cell? ⟨I, 0, none⟩ = some (.int .i64 (p : Int)) ∧ w'.cell? ⟨J, 0, none⟩ = some (.int .i64 (q : Int)))) := fun w' h => ⟨(h.bl _ (.head _)).cell (i := 0) rfl, (h.bl _ (.head _)).cell (i := 1) rfl, (h.bl _ (.tail _ (.head _))).cell (i := 0) rfl, (h.bl _ (.tail _ (.head _))).cell (i := 1) rfl, (h.bl _ (.tail _ (.head _))).cell (i := 2) rfl, (h.bl _ (.tail _ (.head _))).cell (i := 3) rfl, (h.bl _ (.tail _ (.head _))).cell (i := 4) rfl, (h.bl _ (.tail _ (.head _))).cell (i := 5) rfl, (h.bl _ (.tail _ (.head _))).cell (i := 6) rfl, (h.bl _ (.tail _ (.tail _ (.head _)))).cell (i := 0) rfl, (h.bl _ (.tail _ (.tail _ (.tail _ (.head _))))).cell (i := 0) rfl⟩
  obtain ⟨W, hW⟩ : ∃ W, W = w.alloc (.cells #[.int .i64 0, .int .i64 0, .int .i64 0] 140) := ⟨_, rfl⟩
  obtain ⟨R, hR⟩ : ∃ R, R = w.heap.size := ⟨_, rfl⟩
  have HO : Hid (ObI w (Env x N [(T, [.int .i64 t.ch, .bool t.src], 138), (C, [.int .i64 x.frames, .int .i64 x.major, .int .i64 x.kernel, .int .i64 x.room, .slice x.ca x.cs.length x.cc, .slice x.pa x.ps.length x.pc, .slice x.ha x.hs.length x.hc], 26), (I, [.int .i64 (p : Int)], 3), (J, [.int .i64 (q : Int)], 3)]) R W) := by rw [hW, hR]; exact ⟨hE.kept ((Keeps.refl _ _).alloc _), Blk.new _ _ _, (Keeps.refl _ _).alloc _, Nat.le_refl _⟩
  have HE0 : Hid ((Env x N [(T, [.int .i64 t.ch, .bool t.src], 138), (C, [.int .i64 x.frames, .int .i64 x.major, .int .i64 x.kernel, .int .i64 x.room, .slice x.ca x.cs.length x.cc, .slice x.pa x.ps.length x.pc, .slice x.ha x.hs.length x.hc], 26), (I, [.int .i64 (p : Int)], 3), (J, [.int .i64 (q : Int)], 3)]) w) := hE
  clear hE
  go_enter Tryz.func156, Tryz.ntmps156
  go_upto_region 1 with fail
  rw [← hW, ← hR]
  clear hW hR
  refine wp_region_held_drew (S := (fun w' => w'.cell? ⟨T, 0, none⟩ = some (.int .i64 t.ch) ∧ w'.cell? ⟨T, 1, none⟩ = some (.bool t.src) ∧ w'.cell? ⟨C, 0, none⟩ = some (.int .i64 x.frames) ∧ w'.cell? ⟨C, 1, none⟩ = some (.int .i64 x.major) ∧ w'.cell? ⟨C, 2, none⟩ = some (.int .i64 x.kernel) ∧ w'.cell? ⟨C, 3, none⟩ = some (.int .i64 x.room) ∧ w'.cell? ⟨C, 4, none⟩ = some (.slice x.ca x.cs.length x.cc) ∧ w'.cell? ⟨C, 5, none⟩ = some (.slice x.pa x.ps.length x.pc) ∧ w'.cell? ⟨C, 6, none⟩ = some (.slice x.ha x.hs.length x.hc) ∧ w'.cell? ⟨I, 0, none⟩ = some (.int .i64 (p : Int)) ∧ w'.cell? ⟨J, 0, none⟩ = some (.int .i64 (q : Int)))) Tryz.mixd (HS.out _ (HO.out.env.kept ((Keeps.refl _ _).drew))) (fun hHeld => ?_)
  simp only [List.size_toArray, List.length_cons, List.length_nil, Nat.reduceAdd, Array.replicate_succ, Array.replicate_zero, List.push_toArray, List.append_toArray, List.nil_append, List.cons_append]
  refine wpAnyH_take (i := 0) (oi := { dst := some 5, op := Op.fieldAddr 138 (Operand.tmp 0) 0, type := 0, pos := "partition.go:61", after := #[], guard := none }) (v := .pointer (some ⟨T, 0, none⟩)) rfl (by kernel_rfl) (by kernel_rfl) (by kernel_rfl) (fun _ _ _ h => h) (Or.inl ⟨by kernel_rfl, by (intro w hSw; (try dsimp only at hSw); go_simp)⟩) hHeld ?_
  simp only [Act.put, List.setIfInBounds_toArray, List.set_cons_zero, List.set_cons_succ]
  refine wpAnyH_take (i := 1) (oi := { dst := some 6, op := Op.load 3 (Operand.tmp 5), type := 3, pos := "partition.go:61", after := #[{ on := 0, ground := Ground.data }], guard := none }) (v := .int .i64 t.ch) rfl (by kernel_rfl) (by kernel_rfl) (by kernel_rfl) (fun _ _ _ h => h) (Or.inl ⟨by kernel_rfl, by (intro w hSw; (try dsimp only at hSw); go_simp)⟩) hHeld ?_
  simp only [Act.put, List.setIfInBounds_toArray, List.set_cons_zero, List.set_cons_succ]
  refine wpAnyH_take (i := 2) (oi := { dst := some 7, op := Op.fieldAddr 26 (Operand.tmp 1) 6, type := 0, pos := "partition.go:61", after := #[], guard := none }) (v := .pointer (some ⟨C, 6, none⟩)) rfl (by kernel_rfl) (by kernel_rfl) (by kernel_rfl) (fun _ _ _ h => h) (Or.inl ⟨by kernel_rfl, by (intro w hSw; (try dsimp only at hSw); go_simp)⟩) hHeld ?_
  simp only [Act.put, List.setIfInBounds_toArray, List.set_cons_zero, List.set_cons_succ]
  refine wpAnyH_take (i := 3) (oi := { dst := some 8, op := Op.load 24 (Operand.tmp 7), type := 24, pos := "partition.go:61", after := #[{ on := 2, ground := Ground.data }], guard := none }) (v := .slice x.ha x.hs.length x.hc) rfl (by kernel_rfl) (by kernel_rfl) (by kernel_rfl) (fun _ _ _ h => h) (Or.inl ⟨by kernel_rfl, by (intro w hSw; (try dsimp only at hSw); go_simp)⟩) hHeld ?_
  simp only [Act.put, List.setIfInBounds_toArray, List.set_cons_zero, List.set_cons_succ]
  refine wpAnyH_take (i := 4) (oi := { dst := some 9, op := Op.call { callee := Callee.builtin Builtin.len, args := #[Operand.tmp 8], argTypes := #[24] }, type := 3, pos := "partition.go:61", after := #[{ on := 3, ground := Ground.data }], guard := none }) (v := .int .i64 x.hs.length) rfl (by kernel_rfl) (by kernel_rfl) (by kernel_rfl) (fun _ _ _ h => h) (Or.inl ⟨by kernel_rfl, by (intro w hSw; (try dsimp only at hSw); go_simp)⟩) hHeld ?_
  simp only [Act.put, List.setIfInBounds_toArray, List.set_cons_zero, List.set_cons_succ]
  refine wpAnyH_take (i := 5) (oi := { dst := some 10, op := Op.binOp BinOp.sub 3 (Operand.tmp 9) (Operand.const (Value.int IntKind.i64 1)) 3, type := 3, pos := "partition.go:61", after := #[{ on := 4, ground := Ground.data }], guard := none }) (v := .int .i64 ((x.hs.length : Int) - 1)) rfl (by kernel_rfl) (by kernel_rfl) (by kernel_rfl) (fun _ _ _ h => h) (Or.inl ⟨by kernel_rfl, by (intro w hSw; (try dsimp only at hSw); go_simp)⟩) hHeld ?_
  simp only [Act.put, List.setIfInBounds_toArray, List.set_cons_zero, List.set_cons_succ]
  refine wpAnyH_take (i := 7) (oi := { dst := some 12, op := Op.load 3 (Operand.tmp 2), type := 3, pos := "partition.go:61", after := #[], guard := none }) (v := .int .i64 (p : Int)) rfl (by kernel_rfl) (by kernel_rfl) (by kernel_rfl) (fun _ _ _ h => h) (Or.inl ⟨by kernel_rfl, by (intro w hSw; (try dsimp only at hSw); go_simp)⟩) hHeld ?_
  simp only [Act.put, List.setIfInBounds_toArray, List.set_cons_zero, List.set_cons_succ]
  refine wpAnyH_take (i := 8) (oi := { dst := some 13, op := Op.load 3 (Operand.tmp 3), type := 3, pos := "partition.go:61", after := #[], guard := none }) (v := .int .i64 (q : Int)) rfl (by kernel_rfl) (by kernel_rfl) (by kernel_rfl) (fun _ _ _ h => h) (Or.inl ⟨by kernel_rfl, by (intro w hSw; (try dsimp only at hSw); go_simp)⟩) hHeld ?_
  simp only [Act.put, List.setIfInBounds_toArray, List.set_cons_zero, List.set_cons_succ]
  refine wpAnyH_take (i := 9) (oi := { dst := some 14, op := Op.build 114 #[(0, Operand.tmp 12), (1, Operand.tmp 13)], type := 114, pos := "partition.go:61", after := #[{ on := 7, ground := Ground.data }, { on := 8, ground := Ground.data }], guard := none }) (v := .agg #[.int .i64 (p : Int), .int .i64 (q : Int)]) rfl (by kernel_rfl) (by kernel_rfl) (by kernel_rfl) (fun _ _ _ h => h) (Or.inl ⟨by kernel_rfl, by (intro w hSw; (try dsimp only at hSw); go_simp)⟩) hHeld ?_
  simp only [Act.put, List.setIfInBounds_toArray, List.set_cons_zero, List.set_cons_succ]
  refine wpAnyH_ready (rs := [6]) (by kernel_rfl) (by simp) ?_
  refine AllReadyH.cons (o := { dst := some 11, op := Op.call { callee := Callee.value (Operand.func 66), args := #[Operand.tmp 6, Operand.const (Value.int IntKind.i64 0), Operand.tmp 10], argTypes := #[3, 3, 3] }, type := 4, pos := "partition.go:61", after := #[{ on := 1, ground := Ground.data }, { on := 5, ground := Ground.data }], guard := none }) rfl (fun K hK => ?_) AllReadyH.nil
  go_simp
  refine (within_k t.ch 0 ((x.hs.length : Int) - 1) W.drew).mono ?_
  rintro r w1 ⟨rfl, hKc⟩
  have HO1 : Hid (ObI w (Env x N [(T, [.int .i64 t.ch, .bool t.src], 138), (C, [.int .i64 x.frames, .int .i64 x.major, .int .i64 x.kernel, .int .i64 x.room, .slice x.ca x.cs.length x.cc, .slice x.pa x.ps.length x.pc, .slice x.ha x.hs.length x.hc], 26), (I, [.int .i64 (p : Int)], 3), (J, [.int .i64 (q : Int)], 3)]) R w1) := HO.out.kept HEk.out (((Keeps.refl _ _).drew).trans hKc fun _ _ h => h)
  clear hKc
  refine hK.out _ _ (HS.out _ HO1.out.env) (fun hHeld => ?_)
  simp only [Act.put, List.setIfInBounds_toArray, List.set_cons_zero, List.set_cons_succ]
  refine wpAnyH_ready (rs := [10]) (by kernel_rfl) (by simp) ?_
  refine AllReadyH.cons (o := { dst := some 15, op := Op.call { callee := Callee.value (Operand.func 65), args := #[Operand.tmp 11, Operand.const (Value.int IntKind.i64 414), Operand.tmp 14], argTypes := #[4, 46, 114] }, type := 140, pos := "partition.go:61", after := #[{ on := 6, ground := Ground.data }, { on := 9, ground := Ground.data }, { on := 6, ground := Ground.chain }], guard := none }) rfl (fun K hK => ?_) AllReadyH.nil
  go_simp
  refine (unless_any (inR t.ch 0 ((x.hs.length : Int) - 1)) 414 p q w1).mono ?_
  rintro r w2 ⟨rfl, hKc⟩
  have HO2 : Hid (ObI w (Env x N [(T, [.int .i64 t.ch, .bool t.src], 138), (C, [.int .i64 x.frames, .int .i64 x.major, .int .i64 x.kernel, .int .i64 x.room, .slice x.ca x.cs.length x.cc, .slice x.pa x.ps.length x.pc, .slice x.ha x.hs.length x.hc], 26), (I, [.int .i64 (p : Int)], 3), (J, [.int .i64 (q : Int)], 3)]) R w2) := HO1.out.kept HEk.out hKc
  clear hKc
  obtain ⟨Gz, hG⟩ : ∃ Gz : Flt, unl (inR t.ch 0 ((x.hs.length : Int) - 1)) ⟨414, p, q⟩ = Gz := ⟨_, rfl⟩
  rw [hG]
  have HG : Hid (unl (inR t.ch 0 ((x.hs.length : Int) - 1)) ⟨414, p, q⟩ = Gz) := hG
  clear hG
  refine hK.out _ _ (HS.out _ HO2.out.env) (fun hHeld => ?_)
  simp only [Act.put, List.setIfInBounds_toArray, List.set_cons_zero, List.set_cons_succ]
  refine wpAnyH_ready (rs := [11]) (by kernel_rfl) (by simp) ?_
  refine AllReadyH.cons (o := { dst := none, op := Op.store 140 (Operand.tmp 4) (Operand.tmp 15), type := 0, pos := "partition.go:61", after := #[{ on := 10, ground := Ground.data }, { on := 10, ground := Ground.chain }, { on := 0, ground := Ground.phase }, { on := 1, ground := Ground.phase }, { on := 2, ground := Ground.phase }, { on := 3, ground := Ground.phase }, { on := 4, ground := Ground.phase }, { on := 5, ground := Ground.phase }, { on := 6, ground := Ground.phase }, { on := 7, ground := Ground.phase }, { on := 8, ground := Ground.phase }, { on := 9, ground := Ground.phase }, { on := 10, ground := Ground.phase }], guard := none }) rfl (fun K hK => ?_) AllReadyH.nil
  refine wp_store_row 140 _ _ rfl R #[.int .i64 Gz.n, .int .i64 Gz.a, .int .i64 Gz.b] (by rfl) (by rfl) 140 _ HO2.out.ans Tryz.size140 rfl (all53 ..) ?_
  obtain ⟨W5, hW5⟩ : ∃ W5, W5 = w2.setRow R #[.int .i64 Gz.n, .int .i64 Gz.a, .int .i64 Gz.b] := ⟨_, rfl⟩
  have hB5 : Blk W5 R [.int .i64 Gz.n, .int .i64 Gz.a, .int .i64 Gz.b] 140 := by rw [hW5]; exact HO2.out.ans.setRow _
  have k5 : Keeps (fun k => k = R) w2 W5 := by rw [hW5]; exact (Keeps.refl _ _).setRow _ _ fun _ => rfl
  have hlo := HO.out.lo
  have HO5 : Hid (Blk W5 R [.int .i64 Gz.n, .int .i64 Gz.a, .int .i64 Gz.b] 140 ∧ Keeps (fun _ => False) w W5) := ⟨hB5, HO2.out.keeps.trans k5 fun k hk e => by omega⟩
  have HE5 : Hid ((Env x N [(T, [.int .i64 t.ch, .bool t.src], 138), (C, [.int .i64 x.frames, .int .i64 x.major, .int .i64 x.kernel, .int .i64 x.room, .slice x.ca x.cs.length x.cc, .slice x.pa x.ps.length x.pc, .slice x.ha x.hs.length x.hc], 26), (I, [.int .i64 (p : Int)], 3), (J, [.int .i64 (q : Int)], 3)]) W5) := Env.kept' (HE0.out) HO2.out.env hlo k5
  rw [← hW5]
  clear hW5 hB5 k5 hlo
  refine hK.out _ _ (HS.out _ HE5.out) (fun hHeld => ?_)
  simp only [Act.put, List.setIfInBounds_toArray, List.set_cons_zero, List.set_cons_succ]
  refine wpAnyH_done (by kernel_rfl) ?_ _
  clear hHeld
  go_wp2
  (try simp only [Exit.inBlock, Exit.then])
  refine bodyPost_ret (results_cell_row rfl _ _ R 140 _ (0, 0) _ rfl HO5.out.1 Tryz.underlying140 rfl (by kernel_rfl)) rfl ?_
  exact ⟨by rw [HG.out], HO5.out.2⟩

theorem prtQs (x : Cfg) (N p q : Nat) (t : Prt) (C I J T : Nat) (L : List (Nat × List Value × TypeId)) (hL : L = (T, [.int .i64 t.ch, .bool t.src], 138) :: [(J, [.int .i64 (q : Int)], 3), (I, [.int .i64 (p : Int)], 3), (C, [.int .i64 x.frames, .int .i64 x.major, .int .i64 x.kernel, .int .i64 x.room, .slice x.ca x.cs.length x.cc, .slice x.pa x.ps.length x.pc, .slice x.ha x.hs.length x.hc], 26)]) :
    Qs [(156, #[.pointer (some ⟨T, 0, none⟩), .pointer (some ⟨C, 0, none⟩), .pointer (some ⟨I, 0, none⟩), .pointer (some ⟨J, 0, none⟩)], unl (inR t.ch 0 ((x.hs.length : Int) - 1)) ⟨414, p, q⟩)] (Env x N L) := by
  refine ⟨fun _ _ h k => h.kept k, fun q hq args w => ?_, fun j q hj hpr => ?_, by simp⟩
  · simp only [List.mem_cons, List.not_mem_nil, or_false] at hq
    rcases hq with rfl
    exact enter_fn Tryz.func156 rfl rfl args w
  · match j, hj with
    | 0, hj =>
      cases hj
      exact (q88 x N p _ t T C I J).of fun w h => h.sub fun b hb => by rw [hL]; simp only [List.mem_cons, List.not_mem_nil, or_false] at hb ⊢; rcases hb with h | h | h | h <;> simp [h]
    | j + 1, hj => simp at hj

set_option maxHeartbeats 8000000 in
theorem portQuestions_any (x : Cfg) (N p q : Nat) (P : Par) (t : Prt) (hP : x.ps[p]? = some P) (hr : P.ps[q]? = some t) :
    Makes 118 #[x.v, .int .i64 (p : Int), .int .i64 (q : Int)] (Env x N []) (firstF (prtF x p q t)) := by
  intro w hE
  have hPi := hE.cin.pin P (List.mem_of_getElem? hP)
  have hPlt := (List.getElem?_eq_some_iff.1 hP).1
  have hrlt := (List.getElem?_eq_some_iff.1 hr).1
  obtain ⟨g0, o0, hpa, hc0⟩ := hE.cin.par hP
  obtain ⟨g1, o1, hra, hc1⟩ := hPi.pseg.at hr
  obtain ⟨W, hW⟩ : ∃ W, W = ((x.laid w).alloc (.cells #[.int .i64 (p : Int)] 3)).alloc (.cells #[.int .i64 (q : Int)] 3) := ⟨_, rfl⟩
  obtain ⟨C, hC⟩ : ∃ C, C = w.heap.size := ⟨_, rfl⟩
  obtain ⟨I, hI⟩ : ∃ I, I = w.heap.size + 1 := ⟨_, rfl⟩
  obtain ⟨J, hJ⟩ : ∃ J, J = w.heap.size + 1 + 1 := ⟨_, rfl⟩
  have hE1 : Env x N [(C, [.int .i64 x.frames, .int .i64 x.major, .int .i64 x.kernel, .int .i64 x.room, .slice x.ca x.cs.length x.cc, .slice x.pa x.ps.length x.pc, .slice x.ha x.hs.length x.hc], 26)] (x.laid w) := by rw [hC]; exact hE.box _ _
  have hE2 : Env x N [(J, [.int .i64 (q : Int)], 3), (I, [.int .i64 (p : Int)], 3), (C, [.int .i64 x.frames, .int .i64 x.major, .int .i64 x.kernel, .int .i64 x.room, .slice x.ca x.cs.length x.cc, .slice x.pa x.ps.length x.pc, .slice x.ha x.hs.length x.hc], 26)] W := by
    have := (hE1.box [.int .i64 (p : Int)] 3).box [.int .i64 (q : Int)] 3
    rw [hW, hI, hJ]
    simpa [Cfg.laid] using this
  obtain ⟨PL, hPL⟩ : ∃ PL, x.ps.length = PL := ⟨_, rfl⟩
  obtain ⟨RL, hRL⟩ : ∃ RL, P.ps.length = RL := ⟨_, rfl⟩
  have HS : Hid (∀ w', Env x N [(J, [.int .i64 (q : Int)], 3), (I, [.int .i64 (p : Int)], 3), (C, [.int .i64 x.frames, .int .i64 x.major, .int .i64 x.kernel, .int .i64 x.room, .slice x.ca x.cs.length x.cc, .slice x.pa x.ps.length x.pc, .slice x.ha x.hs.length x.hc], 26)] w' → (w'.cell? ⟨C, 5, none⟩ = some (.slice (some ⟨g0, o0, none⟩) PL x.pc) ∧ w'.cell? ⟨I, 0, none⟩ = some (.int .i64 (p : Int)) ∧ w'.cell? ⟨J, 0, none⟩ = some (.int .i64 (q : Int)) ∧ w'.cell? ⟨g0, o0 + p * 8 + 7, none⟩ = some (.slice (some ⟨g1, o1, none⟩) RL P.pc) ∧ w'.cell? ⟨g1, o1 + q * 2, none⟩ = some (.int .i64 t.ch) ∧ w'.cell? ⟨g1, o1 + q * 2 + 1, none⟩ = some (.bool t.src))) := by
    intro w' h
    have hPi := h.cin.pin P (List.mem_of_getElem? hP)
    obtain ⟨g2, o2, e2, hc2⟩ := h.cin.par hP
    obtain ⟨g3, o3, e3, hc3⟩ := hPi.pseg.at hr
    rw [hpa] at e2
    cases e2
    rw [hra] at e3
    cases e3
    have z5 := (h.bl _ (.tail _ (.tail _ (.head _)))).cell (i := 5) rfl
    have z6 := hc2 7 _ rfl
    have y0 := hc3 0 _ rfl
    rw [Nat.add_zero] at y0
    rw [hpa, hPL] at z5
    rw [hra, hRL] at z6
    exact ⟨z5, (h.bl _ (.tail _ (.head _))).cell (i := 0) rfl, (h.bl _ (.head _)).cell (i := 0) rfl, z6, y0, hc3 1 _ rfl⟩
  have HO : Hid (Env x N [(J, [.int .i64 (q : Int)], 3), (I, [.int .i64 (p : Int)], 3), (C, [.int .i64 x.frames, .int .i64 x.major, .int .i64 x.kernel, .int .i64 x.room, .slice x.ca x.cs.length x.cc, .slice x.pa x.ps.length x.pc, .slice x.ha x.hs.length x.hc], 26)] W ∧ Keeps (fun _ => False) w W ∧ True) := ⟨hE2, by rw [hW]; exact (((Keeps.refl _ _).alloc _).alloc _).alloc _, trivial⟩
  have HF : Hid (∀ (T : Nat) (w' : World), Env x N ((T, [.int .i64 t.ch, .bool t.src], 138) :: [(J, [.int .i64 (q : Int)], 3), (I, [.int .i64 (p : Int)], 3), (C, [.int .i64 x.frames, .int .i64 x.major, .int .i64 x.kernel, .int .i64 x.room, .slice x.ca x.cs.length x.cc, .slice x.pa x.ps.length x.pc, .slice x.ha x.hs.length x.hc], 26)]) w' → Keeps (fun _ => False) w w' →
      MkP (firstF (prtF x p q t)) w (.returned (.slice (some ⟨w'.heap.size, 0, none⟩) 1 1)) (w'.alloc (.cells #[.func (.func 156) #[] #[.pointer (some ⟨T, 0, none⟩), .pointer (some ⟨C, 0, none⟩), .pointer (some ⟨I, 0, none⟩), .pointer (some ⟨J, 0, none⟩)]] 158))) := by
    intro T w' h k
    exact MkP.of (prtQs x N p q t C I J T _ rfl) (k.trans ((Keeps.refl (fun _ => False) _).alloc _) fun _ _ h => h) (Blk.new _ _ _) (h.kept ((Keeps.refl _ _).alloc _)) rfl rfl
  have hb1 : (PL : Int) ≤ x.pc ∧ (x.pc : Int) ≤ 9223372036854775807 := by have := hE.cin.plen; unfold maxLen at this; omega
  have hb2 : (RL : Int) ≤ P.pc ∧ (P.pc : Int) ≤ 9223372036854775807 := by have := hPi.plen; unfold maxLen at this; omega
  rw [hPL] at hPlt
  rw [hRL] at hrlt
  clear hE hPi hpa hc0 hra hc1 hE1 hE2 hPL hRL hP hr
  unfold Cfg.laid at hW
  go_enter Tryz.func118, Tryz.ntmps118
  go_upto_region 1 with fail
  rw [← hW, ← hJ, ← hI, ← hC]
  clear hW hI hC hJ
  refine wp_region_held_drew (S := (fun w' => w'.cell? ⟨C, 5, none⟩ = some (.slice (some ⟨g0, o0, none⟩) PL x.pc) ∧ w'.cell? ⟨I, 0, none⟩ = some (.int .i64 (p : Int)) ∧ w'.cell? ⟨J, 0, none⟩ = some (.int .i64 (q : Int)) ∧ w'.cell? ⟨g0, o0 + p * 8 + 7, none⟩ = some (.slice (some ⟨g1, o1, none⟩) RL P.pc) ∧ w'.cell? ⟨g1, o1 + q * 2, none⟩ = some (.int .i64 t.ch) ∧ w'.cell? ⟨g1, o1 + q * 2 + 1, none⟩ = some (.bool t.src))) Tryz.mixd (HS.out _ (HO.out.1.kept ((Keeps.refl _ _).drew))) (fun hHeld => ?_)
  simp only [List.size_toArray, List.length_cons, List.length_nil, Nat.reduceAdd, Array.replicate_succ, Array.replicate_zero, List.push_toArray, List.append_toArray, List.nil_append, List.cons_append]
  refine wpAnyH_take (i := 0) (oi := { dst := some 8, op := Op.fieldAddr 26 (Operand.tmp 3) 5, type := 0, pos := "partition.go:58", after := #[], guard := none }) (v := .pointer (some ⟨C, 5, none⟩)) rfl (by kernel_rfl) (by kernel_rfl) (by kernel_rfl) (fun _ _ _ h => h) (Or.inl ⟨by kernel_rfl, by (intro w hSw; (try dsimp only at hSw); go_simp)⟩) hHeld ?_
  simp only [Act.put, List.setIfInBounds_toArray, List.set_cons_zero, List.set_cons_succ]
  refine wpAnyH_take (i := 1) (oi := { dst := some 9, op := Op.load 23 (Operand.tmp 8), type := 23, pos := "partition.go:58", after := #[{ on := 0, ground := Ground.data }], guard := none }) (v := .slice (some ⟨g0, o0, none⟩) PL x.pc) rfl (by kernel_rfl) (by kernel_rfl) (by kernel_rfl) (fun _ _ _ h => h) (Or.inl ⟨by kernel_rfl, by (intro w hSw; (try dsimp only at hSw); go_simp)⟩) hHeld ?_
  simp only [Act.put, List.setIfInBounds_toArray, List.set_cons_zero, List.set_cons_succ]
  refine wpAnyH_take (i := 2) (oi := { dst := some 10, op := Op.load 3 (Operand.tmp 4), type := 3, pos := "partition.go:58", after := #[], guard := none }) (v := .int .i64 (p : Int)) rfl (by kernel_rfl) (by kernel_rfl) (by kernel_rfl) (fun _ _ _ h => h) (Or.inl ⟨by kernel_rfl, by (intro w hSw; (try dsimp only at hSw); go_simp)⟩) hHeld ?_
  simp only [Act.put, List.setIfInBounds_toArray, List.set_cons_zero, List.set_cons_succ]
  refine wpAnyH_take (i := 3) (oi := { dst := some 11, op := Op.indexAddr 23 (Operand.tmp 9) (Operand.tmp 10), type := 0, pos := "partition.go:58", after := #[{ on := 1, ground := Ground.data }, { on := 2, ground := Ground.data }], guard := none }) (v := .pointer (some ⟨g0, o0 + p * 8, none⟩)) rfl (by kernel_rfl) (by kernel_rfl) (by kernel_rfl) (fun _ _ _ h => h) (Or.inl ⟨by kernel_rfl, by (intro w hSw; (try dsimp only at hSw); go_simp)⟩) hHeld ?_
  simp only [Act.put, List.setIfInBounds_toArray, List.set_cons_zero, List.set_cons_succ]
  refine wpAnyH_take (i := 4) (oi := { dst := some 12, op := Op.fieldAddr 35 (Operand.tmp 11) 7, type := 0, pos := "partition.go:58", after := #[{ on := 3, ground := Ground.data }], guard := none }) (v := .pointer (some ⟨g0, o0 + p * 8 + 7, none⟩)) rfl (by kernel_rfl) (by kernel_rfl) (by kernel_rfl) (fun _ _ _ h => h) (Or.inl ⟨by kernel_rfl, by (intro w hSw; (try dsimp only at hSw); go_simp)⟩) hHeld ?_
  simp only [Act.put, List.setIfInBounds_toArray, List.set_cons_zero, List.set_cons_succ]
  refine wpAnyH_take (i := 5) (oi := { dst := some 13, op := Op.load 33 (Operand.tmp 12), type := 33, pos := "partition.go:58", after := #[{ on := 4, ground := Ground.data }], guard := none }) (v := .slice (some ⟨g1, o1, none⟩) RL P.pc) rfl (by kernel_rfl) (by kernel_rfl) (by kernel_rfl) (fun _ _ _ h => h) (Or.inl ⟨by kernel_rfl, by (intro w hSw; (try dsimp only at hSw); go_simp)⟩) hHeld ?_
  simp only [Act.put, List.setIfInBounds_toArray, List.set_cons_zero, List.set_cons_succ]
  refine wpAnyH_take (i := 6) (oi := { dst := some 14, op := Op.load 3 (Operand.tmp 5), type := 3, pos := "partition.go:58", after := #[], guard := none }) (v := .int .i64 (q : Int)) rfl (by kernel_rfl) (by kernel_rfl) (by kernel_rfl) (fun _ _ _ h => h) (Or.inl ⟨by kernel_rfl, by (intro w hSw; (try dsimp only at hSw); go_simp)⟩) hHeld ?_
  simp only [Act.put, List.setIfInBounds_toArray, List.set_cons_zero, List.set_cons_succ]
  refine wpAnyH_take (i := 7) (oi := { dst := some 15, op := Op.indexAddr 33 (Operand.tmp 13) (Operand.tmp 14), type := 0, pos := "partition.go:58", after := #[{ on := 5, ground := Ground.data }, { on := 6, ground := Ground.data }], guard := none }) (v := .pointer (some ⟨g1, o1 + q * 2, none⟩)) rfl (by kernel_rfl) (by kernel_rfl) (by kernel_rfl) (fun _ _ _ h => h) (Or.inl ⟨by kernel_rfl, by (intro w hSw; (try dsimp only at hSw); go_simp)⟩) hHeld ?_
  simp only [Act.put, List.setIfInBounds_toArray, List.set_cons_zero, List.set_cons_succ]
  refine wpAnyH_take (i := 8) (oi := { dst := some 16, op := Op.load 138 (Operand.tmp 15), type := 138, pos := "partition.go:58", after := #[{ on := 7, ground := Ground.data }], guard := none }) (v := .agg #[.int .i64 t.ch, .bool t.src]) rfl (by kernel_rfl) (by kernel_rfl) (by kernel_rfl) (fun _ _ _ h => h) (Or.inl ⟨by kernel_rfl, by (intro w hSw; (try dsimp only at hSw); go_simp)⟩) hHeld ?_
  simp only [Act.put, List.setIfInBounds_toArray, List.set_cons_zero, List.set_cons_succ]
  obtain ⟨w0, hw0⟩ : ∃ w0, w0 = W.drew := ⟨_, rfl⟩
  have hs0 : Env x N [(J, [.int .i64 (q : Int)], 3), (I, [.int .i64 (p : Int)], 3), (C, [.int .i64 x.frames, .int .i64 x.major, .int .i64 x.kernel, .int .i64 x.room, .slice x.ca x.cs.length x.cc, .slice x.pa x.ps.length x.pc, .slice x.ha x.hs.length x.hc], 26)] w0 ∧ Keeps (fun _ => False) w w0 := by rw [hw0]; exact ⟨HO.out.1.kept ((Keeps.refl _ _).drew), HO.out.2.1.trans ((Keeps.refl (fun _ => False) _).drew) fun _ _ h => h⟩
  have hCI : C < w0.heap.size ∧ I < w0.heap.size ∧ J < w0.heap.size := ⟨(hs0.1.bl _ (.tail _ (.tail _ (.head _)))).lt, (hs0.1.bl _ (.tail _ (.head _))).lt, (hs0.1.bl _ (.head _)).lt⟩
  rw [← hw0]
  clear hw0
  refine wpAnyH_ready (rs := [9]) (by kernel_rfl) (by simp) ?_
  refine AllReadyH.cons (o := { dst := some 7, op := Op.alloc 138, type := 0, pos := "partition.go:58", after := #[], guard := none }) rfl (fun K hK => ?_) AllReadyH.nil
  go_simp
  obtain ⟨wb, hw⟩ : ∃ wb, wb = w0.alloc (.cells #[.int .i64 0, .bool false] 138) := ⟨_, rfl⟩
  obtain ⟨T, hT⟩ : ∃ T, T = w0.heap.size := ⟨_, rfl⟩
  have hb : Env x N ((T, [.int .i64 0, .bool false], 138) :: [(J, [.int .i64 (q : Int)], 3), (I, [.int .i64 (p : Int)], 3), (C, [.int .i64 x.frames, .int .i64 x.major, .int .i64 x.kernel, .int .i64 x.room, .slice x.ca x.cs.length x.cc, .slice x.pa x.ps.length x.pc, .slice x.ha x.hs.length x.hc], 26)]) wb ∧ Keeps (fun _ => False) w wb := by rw [hw, hT]; exact ⟨hs0.1.box _ _, hs0.2.trans ((Keeps.refl (fun _ => False) _).alloc _) fun _ _ h => h⟩
  have hltT : w0.heap.size ≤ T ∧ w.heap.size ≤ T ∧ N ≤ T := ⟨by rw [hT]; exact Nat.le_refl _, by rw [hT]; exact hs0.2.size, by rw [hT]; exact hs0.1.nn⟩
  rw [← hw, ← hT]
  clear hw hT
  refine hK.out _ _ (HS.out _ (hb.1.sub fun b hb => List.mem_cons_of_mem _ hb)) (fun hHeld => ?_)
  simp only [Act.put, List.setIfInBounds_toArray, List.set_cons_zero, List.set_cons_succ]
  refine wpAnyH_ready (rs := [10]) (by kernel_rfl) (by simp) ?_
  refine AllReadyH.cons (o := { dst := none, op := Op.store 138 (Operand.tmp 7) (Operand.tmp 16), type := 0, pos := "partition.go:58", after := #[{ on := 9, ground := Ground.data }, { on := 8, ground := Ground.data }, { on := 0, ground := Ground.phase }, { on := 1, ground := Ground.phase }, { on := 2, ground := Ground.phase }, { on := 3, ground := Ground.phase }, { on := 4, ground := Ground.phase }, { on := 5, ground := Ground.phase }, { on := 6, ground := Ground.phase }, { on := 7, ground := Ground.phase }, { on := 8, ground := Ground.phase }, { on := 9, ground := Ground.phase }], guard := none }) rfl (fun K hK => ?_) AllReadyH.nil
  refine wp_store_row 138 _ _ rfl T #[.int .i64 t.ch, .bool t.src] (by rfl) (by rfl) 138 _ (hb.1.bl _ (.head _)) Tryz.size138 rfl (all51 ..) ?_
  obtain ⟨wd, hwc⟩ : ∃ wc, wc = wb.setRow T #[.int .i64 t.ch, .bool t.src] := ⟨_, rfl⟩
  have hBc : Blk wd T [.int .i64 t.ch, .bool t.src] 138 := by rw [hwc]; exact (hb.1.bl _ (.head _)).setRow _
  have kc : Keeps (fun k => k = T) wb wd := by rw [hwc]; exact (Keeps.refl _ _).setRow _ _ fun _ => rfl
  have hc : Env x N ((T, [.int .i64 t.ch, .bool t.src], 138) :: [(J, [.int .i64 (q : Int)], 3), (I, [.int .i64 (p : Int)], 3), (C, [.int .i64 x.frames, .int .i64 x.major, .int .i64 x.kernel, .int .i64 x.room, .slice x.ca x.cs.length x.cc, .slice x.pa x.ps.length x.pc, .slice x.ha x.hs.length x.hc], 26)]) wd := hb.1.put kc hBc hltT.2.2 fun b hb => by
    simp only [List.mem_cons, List.not_mem_nil, or_false] at hb
    rcases hb with rfl | rfl | rfl <;> dsimp only <;> omega
  have HD : Hid (Env x N ((T, [.int .i64 t.ch, .bool t.src], 138) :: [(J, [.int .i64 (q : Int)], 3), (I, [.int .i64 (p : Int)], 3), (C, [.int .i64 x.frames, .int .i64 x.major, .int .i64 x.kernel, .int .i64 x.room, .slice x.ca x.cs.length x.cc, .slice x.pa x.ps.length x.pc, .slice x.ha x.hs.length x.hc], 26)]) wd ∧ Keeps (fun _ => False) w wd) := ⟨hc, hb.2.trans kc fun k hk e => by omega⟩
  rw [← hwc]
  clear hwc kc hBc
  refine hK.out _ _ (HS.out _ (hc.sub fun b hb => List.mem_cons_of_mem _ hb)) (fun hHeld => ?_)
  simp only [Act.put, List.setIfInBounds_toArray, List.set_cons_zero, List.set_cons_succ]
  refine wpAnyH_done (by kernel_rfl) ?_ _
  clear hc hb hs0 hHeld hltT hCI hK
  go_wp2
  go_ret
  exact HF.out T wd HD.out.1 HD.out.2
end Go.Proofs.YtofjbkoojimmhaaGreat
