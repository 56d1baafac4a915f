import Derived.Test.YtfbapgcopidbpaaGreatQj
namespace Go.Proofs.YtfbapgcopidbpaaGreat
open Go.RowKit
set_option linter.unusedVariables false
set_option linter.unusedSimpArgs false
set_option maxRecDepth 6000

/-- May be run, and has one of these pages. -/
def Rgn.runs (o : Rn) (r : Rgn) : Bool := decide (4 ≤ r.rights) && r.pg.meets o
set_option maxHeartbeats 4000000 in
theorem beginClo1 (p n f : Int) (o : Rn) (O : Nat) (hr : (Rgn.pg ⟨p, n, f, 1⟩).Ok) (ho : o.Ok) (w : World) (hE : Bls [(O, [.int .i64 o.f, .int .i64 o.s], 176)] w) : Calls Tryz.prog 161 #[(Rgn.v ⟨p, n, f, 1⟩), .pointer (some ⟨O, 0, none⟩)] w fun e w' => e = .returned (.bool (Rgn.runs o ⟨p, n, f, 1⟩)) ∧ Keeps (fun _ => False) w w' := by
  have qb : bits BinOp.and IntKind.i64 1 4 = 0 := by kernel_rfl
  have HM : Hid (∀ w, Calls Tryz.prog 162 #[(Rgn.pg ⟨p, n, f, 1⟩).v, o.v] w fun e w' => e = .returned (.bool ((Rgn.pg ⟨p, n, f, 1⟩).meets o)) ∧ Keeps (fun _ => False) w w') := fun w => meets_any _ o hr ho w
  have HP : Hid (∀ w, Calls Tryz.prog 156 #[.agg #[.int .i64 p, .int .i64 n, .int .i64 f, .int .i64 1]] w fun e w' => e = .returned (Rgn.pg ⟨p, n, f, 1⟩).v ∧ Keeps (fun _ => False) w w') := fun w => pagesOf_any ⟨p, n, f, 1⟩ w
  clear hr ho
  obtain ⟨W, hW⟩ : ∃ W, W = w.alloc (.cells #[.int .i64 p, .int .i64 n, .int .i64 f, .int .i64 1] 97) := ⟨_, rfl⟩
  obtain ⟨P, hP⟩ : ∃ P, P = w.heap.size := ⟨_, rfl⟩
  have HS : Hid (∀ w', Bls [(P, [.int .i64 p, .int .i64 n, .int .i64 f, .int .i64 1], 97), (O, [.int .i64 o.f, .int .i64 o.s], 176)] w' → (w'.cell? ⟨P, 0, none⟩ = some (.int .i64 p) ∧ w'.cell? ⟨P, 1, none⟩ = some (.int .i64 n) ∧ w'.cell? ⟨P, 2, none⟩ = some (.int .i64 f) ∧ w'.cell? ⟨P, 3, none⟩ = some (.int .i64 1) ∧ w'.cell? ⟨O, 0, none⟩ = some (.int .i64 o.f) ∧ w'.cell? ⟨O, 1, none⟩ = some (.int .i64 o.s))) := fun w' h => ⟨(h _ (.head _)).cell (i := 0) rfl, (h _ (.head _)).cell (i := 1) rfl, (h _ (.head _)).cell (i := 2) rfl, (h _ (.head _)).cell (i := 3) rfl, (h _ (.tail _ (.head _))).cell (i := 0) rfl, (h _ (.tail _ (.head _))).cell (i := 1) rfl⟩
  have HO : Hid (BI w [(P, [.int .i64 p, .int .i64 n, .int .i64 f, .int .i64 1], 97), (O, [.int .i64 o.f, .int .i64 o.s], 176)] W) := by rw [hW, hP]; exact BI.box hE _ _
  clear hE
  go_enter Tryz.func161, Tryz.ntmps161
  go_upto_region 1 with fail
  rw [← hW, ← hP]
  clear hW hP
  refine wp_region_held_drew (S := (fun w' => w'.cell? ⟨P, 0, none⟩ = some (.int .i64 p) ∧ w'.cell? ⟨P, 1, none⟩ = some (.int .i64 n) ∧ w'.cell? ⟨P, 2, none⟩ = some (.int .i64 f) ∧ w'.cell? ⟨P, 3, none⟩ = some (.int .i64 1) ∧ w'.cell? ⟨O, 0, none⟩ = some (.int .i64 o.f) ∧ w'.cell? ⟨O, 1, none⟩ = some (.int .i64 o.s))) Tryz.mixd (HS.out _ (HO.out.kept ((Keeps.refl _ _).drew)).1) (fun hHeld => ?_)
  simp only [List.size_toArray, List.length_cons, List.length_nil, Nat.reduceAdd, Array.replicate_succ, Array.replicate_zero, List.push_toArray, List.append_toArray, List.nil_append, List.cons_append]
  refine wpAnyH_take (i := 0) (oi := { dst := some 4, op := Op.fieldAddr 97 (Operand.tmp 2) 3, type := 0, pos := "partition.go:80", after := #[], guard := none }) (v := .pointer (some ⟨P, 3, none⟩)) rfl (by kernel_rfl) (by kernel_rfl) (by kernel_rfl) (fun _ _ _ h => h) (Or.inl ⟨by kernel_rfl, by (intro w hSw; (try dsimp only at hSw); go_simp)⟩) hHeld ?_
  simp only [Act.put, List.setIfInBounds_toArray, List.set_cons_zero, List.set_cons_succ]
  refine wpAnyH_take (i := 1) (oi := { dst := some 5, op := Op.load 3 (Operand.tmp 4), type := 3, pos := "partition.go:80", after := #[{ on := 0, ground := Ground.data }], guard := none }) (v := .int .i64 1) rfl (by kernel_rfl) (by kernel_rfl) (by kernel_rfl) (fun _ _ _ h => h) (Or.inl ⟨by kernel_rfl, by (intro w hSw; (try dsimp only at hSw); go_simp)⟩) hHeld ?_
  simp only [Act.put, List.setIfInBounds_toArray, List.set_cons_zero, List.set_cons_succ]
  refine wpAnyH_take (i := 2) (oi := { dst := some 6, op := Op.binOp BinOp.and 3 (Operand.tmp 5) (Operand.const (Value.int IntKind.i64 4)) 3, type := 3, pos := "partition.go:80", after := #[{ on := 1, ground := Ground.data }], guard := none }) (v := .int .i64 0) rfl (by kernel_rfl) (by kernel_rfl) (by kernel_rfl) (fun _ _ _ h => h) (Or.inl ⟨by kernel_rfl, by (intro w hSw; (try dsimp only at hSw); go_simp)⟩) hHeld ?_
  simp only [Act.put, List.setIfInBounds_toArray, List.set_cons_zero, List.set_cons_succ]
  refine wpAnyH_take (i := 3) (oi := { dst := some 7, op := Op.binOp BinOp.neq 3 (Operand.tmp 6) (Operand.const (Value.int IntKind.i64 0)) 3, type := 4, pos := "partition.go:80", after := #[{ on := 2, ground := Ground.data }], guard := none }) (v := .bool false) rfl (by kernel_rfl) (by kernel_rfl) (by kernel_rfl) (fun _ _ _ h => h) (Or.inl ⟨by kernel_rfl, by (intro w hSw; (try dsimp only at hSw); go_simp)⟩) hHeld ?_
  simp only [Act.put, List.setIfInBounds_toArray, List.set_cons_zero, List.set_cons_succ]
  refine wpAnyH_take (i := 4) (oi := { dst := some 8, op := Op.move (Operand.tmp 7), type := 4, pos := "partition.go:80", after := #[{ on := 3, ground := Ground.data }], guard := none }) (v := .bool false) rfl (by kernel_rfl) (by kernel_rfl) (by kernel_rfl) (fun _ _ _ h => h) (Or.inl ⟨by kernel_rfl, by (intro w hSw; (try dsimp only at hSw); go_simp)⟩) hHeld ?_
  simp only [Act.put, List.setIfInBounds_toArray, List.set_cons_zero, List.set_cons_succ]
  refine wpAnyH_take (i := 5) (oi := { dst := some 9, op := Op.load 97 (Operand.tmp 2), type := 97, pos := "partition.go:80", after := #[{ on := 4, ground := Ground.guard }], guard := some (4, true) }) (v := undef) rfl (by kernel_rfl) (by kernel_rfl) (by kernel_rfl) (fun _ _ _ h => h) (Or.inr ⟨by kernel_rfl, rfl⟩) hHeld ?_
  simp only [Act.put, List.setIfInBounds_toArray, List.set_cons_zero, List.set_cons_succ]
  refine wpAnyH_take (i := 7) (oi := { dst := some 11, op := Op.load 176 (Operand.tmp 1), type := 176, pos := "partition.go:80", after := #[{ on := 4, ground := Ground.guard }], guard := some (4, true) }) (v := undef) rfl (by kernel_rfl) (by kernel_rfl) (by kernel_rfl) (fun _ _ _ h => h) (Or.inr ⟨by kernel_rfl, rfl⟩) hHeld ?_
  simp only [Act.put, List.setIfInBounds_toArray, List.set_cons_zero, List.set_cons_succ]
  refine wpAnyH_take (i := 6) (oi := { dst := some 10, op := Op.call { callee := Callee.value (Operand.func 156), args := #[Operand.tmp 9], argTypes := #[97] }, type := 176, pos := "partition.go:80", after := #[{ on := 5, ground := Ground.data }, { on := 4, ground := Ground.chain }, { on := 4, ground := Ground.guard }], guard := some (4, true) }) (v := undef) rfl (by kernel_rfl) (by kernel_rfl) (by kernel_rfl) (fun _ _ _ h => h) (Or.inr ⟨by kernel_rfl, rfl⟩) hHeld ?_
  simp only [Act.put, List.setIfInBounds_toArray, List.set_cons_zero, List.set_cons_succ]
  refine wpAnyH_take (i := 8) (oi := { dst := some 12, op := Op.call { callee := Callee.value (Operand.func 162), args := #[Operand.tmp 10, Operand.tmp 11], argTypes := #[176, 176] }, type := 4, pos := "partition.go:80", after := #[{ on := 6, ground := Ground.data }, { on := 7, ground := Ground.data }, { on := 6, ground := Ground.chain }, { on := 4, ground := Ground.guard }], guard := some (4, true) }) (v := undef) rfl (by kernel_rfl) (by kernel_rfl) (by kernel_rfl) (fun _ _ _ h => h) (Or.inr ⟨by kernel_rfl, rfl⟩) hHeld ?_
  simp only [Act.put, List.setIfInBounds_toArray, List.set_cons_zero, List.set_cons_succ]
  refine wpAnyH_take (i := 9) (oi := { dst := some 13, op := Op.pick (Operand.tmp 8) (Operand.tmp 12) (Operand.const (Value.bool false)), type := 4, pos := "partition.go:80", after := #[{ on := 4, ground := Ground.data }, { on := 8, ground := Ground.data }], guard := none }) (v := .bool false) rfl (by kernel_rfl) (by kernel_rfl) (by kernel_rfl) (fun _ _ _ h => h) (Or.inl ⟨by kernel_rfl, by (intro w hSw; (try dsimp only at hSw); go_simp)⟩) hHeld ?_
  simp only [Act.put, List.setIfInBounds_toArray, List.set_cons_zero, List.set_cons_succ]
  refine wpAnyH_take (i := 10) (oi := { dst := some 3, op := Op.assign (Operand.tmp 13), type := 4, pos := "partition.go:80", after := #[{ on := 9, ground := Ground.data }, { on := 8, ground := Ground.chain }, { on := 0, ground := Ground.phase }, { on := 1, ground := Ground.phase }, { on := 2, ground := Ground.phase }, { on := 3, ground := Ground.phase }, { on := 4, ground := Ground.phase }, { on := 5, ground := Ground.phase }, { on := 6, ground := Ground.phase }, { on := 7, ground := Ground.phase }, { on := 8, ground := Ground.phase }, { on := 9, ground := Ground.phase }], guard := none }) (v := .bool false) rfl (by kernel_rfl) (by kernel_rfl) (by kernel_rfl) (fun _ _ _ h => h) (Or.inl ⟨by kernel_rfl, by (intro w hSw; (try dsimp only at hSw); go_simp)⟩) hHeld ?_
  simp only [Act.put, List.setIfInBounds_toArray, List.set_cons_zero, List.set_cons_succ]
  refine wpAnyH_done (by kernel_rfl) ?_ _
  clear hHeld
  go_wp2
  go_ret
  exact ⟨rfl, (HO.out.kept ((Keeps.refl _ _).drew)).2⟩
set_option maxHeartbeats 4000000 in
theorem beginClo2 (p n f : Int) (o : Rn) (O : Nat) (hr : (Rgn.pg ⟨p, n, f, 2⟩).Ok) (ho : o.Ok) (w : World) (hE : Bls [(O, [.int .i64 o.f, .int .i64 o.s], 176)] w) : Calls Tryz.prog 161 #[(Rgn.v ⟨p, n, f, 2⟩), .pointer (some ⟨O, 0, none⟩)] w fun e w' => e = .returned (.bool (Rgn.runs o ⟨p, n, f, 2⟩)) ∧ Keeps (fun _ => False) w w' := by
  have qb : bits BinOp.and IntKind.i64 2 4 = 0 := by kernel_rfl
  have HM : Hid (∀ w, Calls Tryz.prog 162 #[(Rgn.pg ⟨p, n, f, 2⟩).v, o.v] w fun e w' => e = .returned (.bool ((Rgn.pg ⟨p, n, f, 2⟩).meets o)) ∧ Keeps (fun _ => False) w w') := fun w => meets_any _ o hr ho w
  have HP : Hid (∀ w, Calls Tryz.prog 156 #[.agg #[.int .i64 p, .int .i64 n, .int .i64 f, .int .i64 2]] w fun e w' => e = .returned (Rgn.pg ⟨p, n, f, 2⟩).v ∧ Keeps (fun _ => False) w w') := fun w => pagesOf_any ⟨p, n, f, 2⟩ w
  clear hr ho
  obtain ⟨W, hW⟩ : ∃ W, W = w.alloc (.cells #[.int .i64 p, .int .i64 n, .int .i64 f, .int .i64 2] 97) := ⟨_, rfl⟩
  obtain ⟨P, hP⟩ : ∃ P, P = w.heap.size := ⟨_, rfl⟩
  have HS : Hid (∀ w', Bls [(P, [.int .i64 p, .int .i64 n, .int .i64 f, .int .i64 2], 97), (O, [.int .i64 o.f, .int .i64 o.s], 176)] w' → (w'.cell? ⟨P, 0, none⟩ = some (.int .i64 p) ∧ w'.cell? ⟨P, 1, none⟩ = some (.int .i64 n) ∧ w'.cell? ⟨P, 2, none⟩ = some (.int .i64 f) ∧ w'.cell? ⟨P, 3, none⟩ = some (.int .i64 2) ∧ w'.cell? ⟨O, 0, none⟩ = some (.int .i64 o.f) ∧ w'.cell? ⟨O, 1, none⟩ = some (.int .i64 o.s))) := fun w' h => ⟨(h _ (.head _)).cell (i := 0) rfl, (h _ (.head _)).cell (i := 1) rfl, (h _ (.head _)).cell (i := 2) rfl, (h _ (.head _)).cell (i := 3) rfl, (h _ (.tail _ (.head _))).cell (i := 0) rfl, (h _ (.tail _ (.head _))).cell (i := 1) rfl⟩
  have HO : Hid (BI w [(P, [.int .i64 p, .int .i64 n, .int .i64 f, .int .i64 2], 97), (O, [.int .i64 o.f, .int .i64 o.s], 176)] W) := by rw [hW, hP]; exact BI.box hE _ _
  clear hE
  go_enter Tryz.func161, Tryz.ntmps161
  go_upto_region 1 with fail
  rw [← hW, ← hP]
  clear hW hP
  refine wp_region_held_drew (S := (fun w' => w'.cell? ⟨P, 0, none⟩ = some (.int .i64 p) ∧ w'.cell? ⟨P, 1, none⟩ = some (.int .i64 n) ∧ w'.cell? ⟨P, 2, none⟩ = some (.int .i64 f) ∧ w'.cell? ⟨P, 3, none⟩ = some (.int .i64 2) ∧ w'.cell? ⟨O, 0, none⟩ = some (.int .i64 o.f) ∧ w'.cell? ⟨O, 1, none⟩ = some (.int .i64 o.s))) Tryz.mixd (HS.out _ (HO.out.kept ((Keeps.refl _ _).drew)).1) (fun hHeld => ?_)
  simp only [List.size_toArray, List.length_cons, List.length_nil, Nat.reduceAdd, Array.replicate_succ, Array.replicate_zero, List.push_toArray, List.append_toArray, List.nil_append, List.cons_append]
  refine wpAnyH_take (i := 0) (oi := { dst := some 4, op := Op.fieldAddr 97 (Operand.tmp 2) 3, type := 0, pos := "partition.go:80", after := #[], guard := none }) (v := .pointer (some ⟨P, 3, none⟩)) rfl (by kernel_rfl) (by kernel_rfl) (by kernel_rfl) (fun _ _ _ h => h) (Or.inl ⟨by kernel_rfl, by (intro w hSw; (try dsimp only at hSw); go_simp)⟩) hHeld ?_
  simp only [Act.put, List.setIfInBounds_toArray, List.set_cons_zero, List.set_cons_succ]
  refine wpAnyH_take (i := 1) (oi := { dst := some 5, op := Op.load 3 (Operand.tmp 4), type := 3, pos := "partition.go:80", after := #[{ on := 0, ground := Ground.data }], guard := none }) (v := .int .i64 2) rfl (by kernel_rfl) (by kernel_rfl) (by kernel_rfl) (fun _ _ _ h => h) (Or.inl ⟨by kernel_rfl, by (intro w hSw; (try dsimp only at hSw); go_simp)⟩) hHeld ?_
  simp only [Act.put, List.setIfInBounds_toArray, List.set_cons_zero, List.set_cons_succ]
  refine wpAnyH_take (i := 2) (oi := { dst := some 6, op := Op.binOp BinOp.and 3 (Operand.tmp 5) (Operand.const (Value.int IntKind.i64 4)) 3, type := 3, pos := "partition.go:80", after := #[{ on := 1, ground := Ground.data }], guard := none }) (v := .int .i64 0) rfl (by kernel_rfl) (by kernel_rfl) (by kernel_rfl) (fun _ _ _ h => h) (Or.inl ⟨by kernel_rfl, by (intro w hSw; (try dsimp only at hSw); go_simp)⟩) hHeld ?_
  simp only [Act.put, List.setIfInBounds_toArray, List.set_cons_zero, List.set_cons_succ]
  refine wpAnyH_take (i := 3) (oi := { dst := some 7, op := Op.binOp BinOp.neq 3 (Operand.tmp 6) (Operand.const (Value.int IntKind.i64 0)) 3, type := 4, pos := "partition.go:80", after := #[{ on := 2, ground := Ground.data }], guard := none }) (v := .bool false) rfl (by kernel_rfl) (by kernel_rfl) (by kernel_rfl) (fun _ _ _ h => h) (Or.inl ⟨by kernel_rfl, by (intro w hSw; (try dsimp only at hSw); go_simp)⟩) hHeld ?_
  simp only [Act.put, List.setIfInBounds_toArray, List.set_cons_zero, List.set_cons_succ]
  refine wpAnyH_take (i := 4) (oi := { dst := some 8, op := Op.move (Operand.tmp 7), type := 4, pos := "partition.go:80", after := #[{ on := 3, ground := Ground.data }], guard := none }) (v := .bool false) rfl (by kernel_rfl) (by kernel_rfl) (by kernel_rfl) (fun _ _ _ h => h) (Or.inl ⟨by kernel_rfl, by (intro w hSw; (try dsimp only at hSw); go_simp)⟩) hHeld ?_
  simp only [Act.put, List.setIfInBounds_toArray, List.set_cons_zero, List.set_cons_succ]
  refine wpAnyH_take (i := 5) (oi := { dst := some 9, op := Op.load 97 (Operand.tmp 2), type := 97, pos := "partition.go:80", after := #[{ on := 4, ground := Ground.guard }], guard := some (4, true) }) (v := undef) rfl (by kernel_rfl) (by kernel_rfl) (by kernel_rfl) (fun _ _ _ h => h) (Or.inr ⟨by kernel_rfl, rfl⟩) hHeld ?_
  simp only [Act.put, List.setIfInBounds_toArray, List.set_cons_zero, List.set_cons_succ]
  refine wpAnyH_take (i := 7) (oi := { dst := some 11, op := Op.load 176 (Operand.tmp 1), type := 176, pos := "partition.go:80", after := #[{ on := 4, ground := Ground.guard }], guard := some (4, true) }) (v := undef) rfl (by kernel_rfl) (by kernel_rfl) (by kernel_rfl) (fun _ _ _ h => h) (Or.inr ⟨by kernel_rfl, rfl⟩) hHeld ?_
  simp only [Act.put, List.setIfInBounds_toArray, List.set_cons_zero, List.set_cons_succ]
  refine wpAnyH_take (i := 6) (oi := { dst := some 10, op := Op.call { callee := Callee.value (Operand.func 156), args := #[Operand.tmp 9], argTypes := #[97] }, type := 176, pos := "partition.go:80", after := #[{ on := 5, ground := Ground.data }, { on := 4, ground := Ground.chain }, { on := 4, ground := Ground.guard }], guard := some (4, true) }) (v := undef) rfl (by kernel_rfl) (by kernel_rfl) (by kernel_rfl) (fun _ _ _ h => h) (Or.inr ⟨by kernel_rfl, rfl⟩) hHeld ?_
  simp only [Act.put, List.setIfInBounds_toArray, List.set_cons_zero, List.set_cons_succ]
  refine wpAnyH_take (i := 8) (oi := { dst := some 12, op := Op.call { callee := Callee.value (Operand.func 162), args := #[Operand.tmp 10, Operand.tmp 11], argTypes := #[176, 176] }, type := 4, pos := "partition.go:80", after := #[{ on := 6, ground := Ground.data }, { on := 7, ground := Ground.data }, { on := 6, ground := Ground.chain }, { on := 4, ground := Ground.guard }], guard := some (4, true) }) (v := undef) rfl (by kernel_rfl) (by kernel_rfl) (by kernel_rfl) (fun _ _ _ h => h) (Or.inr ⟨by kernel_rfl, rfl⟩) hHeld ?_
  simp only [Act.put, List.setIfInBounds_toArray, List.set_cons_zero, List.set_cons_succ]
  refine wpAnyH_take (i := 9) (oi := { dst := some 13, op := Op.pick (Operand.tmp 8) (Operand.tmp 12) (Operand.const (Value.bool false)), type := 4, pos := "partition.go:80", after := #[{ on := 4, ground := Ground.data }, { on := 8, ground := Ground.data }], guard := none }) (v := .bool false) rfl (by kernel_rfl) (by kernel_rfl) (by kernel_rfl) (fun _ _ _ h => h) (Or.inl ⟨by kernel_rfl, by (intro w hSw; (try dsimp only at hSw); go_simp)⟩) hHeld ?_
  simp only [Act.put, List.setIfInBounds_toArray, List.set_cons_zero, List.set_cons_succ]
  refine wpAnyH_take (i := 10) (oi := { dst := some 3, op := Op.assign (Operand.tmp 13), type := 4, pos := "partition.go:80", after := #[{ on := 9, ground := Ground.data }, { on := 8, ground := Ground.chain }, { on := 0, ground := Ground.phase }, { on := 1, ground := Ground.phase }, { on := 2, ground := Ground.phase }, { on := 3, ground := Ground.phase }, { on := 4, ground := Ground.phase }, { on := 5, ground := Ground.phase }, { on := 6, ground := Ground.phase }, { on := 7, ground := Ground.phase }, { on := 8, ground := Ground.phase }, { on := 9, ground := Ground.phase }], guard := none }) (v := .bool false) rfl (by kernel_rfl) (by kernel_rfl) (by kernel_rfl) (fun _ _ _ h => h) (Or.inl ⟨by kernel_rfl, by (intro w hSw; (try dsimp only at hSw); go_simp)⟩) hHeld ?_
  simp only [Act.put, List.setIfInBounds_toArray, List.set_cons_zero, List.set_cons_succ]
  refine wpAnyH_done (by kernel_rfl) ?_ _
  clear hHeld
  go_wp2
  go_ret
  exact ⟨rfl, (HO.out.kept ((Keeps.refl _ _).drew)).2⟩
set_option maxHeartbeats 4000000 in
theorem beginClo3 (p n f : Int) (o : Rn) (O : Nat) (hr : (Rgn.pg ⟨p, n, f, 3⟩).Ok) (ho : o.Ok) (w : World) (hE : Bls [(O, [.int .i64 o.f, .int .i64 o.s], 176)] w) : Calls Tryz.prog 161 #[(Rgn.v ⟨p, n, f, 3⟩), .pointer (some ⟨O, 0, none⟩)] w fun e w' => e = .returned (.bool (Rgn.runs o ⟨p, n, f, 3⟩)) ∧ Keeps (fun _ => False) w w' := by
  have qb : bits BinOp.and IntKind.i64 3 4 = 0 := by kernel_rfl
  have HM : Hid (∀ w, Calls Tryz.prog 162 #[(Rgn.pg ⟨p, n, f, 3⟩).v, o.v] w fun e w' => e = .returned (.bool ((Rgn.pg ⟨p, n, f, 3⟩).meets o)) ∧ Keeps (fun _ => False) w w') := fun w => meets_any _ o hr ho w
  have HP : Hid (∀ w, Calls Tryz.prog 156 #[.agg #[.int .i64 p, .int .i64 n, .int .i64 f, .int .i64 3]] w fun e w' => e = .returned (Rgn.pg ⟨p, n, f, 3⟩).v ∧ Keeps (fun _ => False) w w') := fun w => pagesOf_any ⟨p, n, f, 3⟩ w
  clear hr ho
  obtain ⟨W, hW⟩ : ∃ W, W = w.alloc (.cells #[.int .i64 p, .int .i64 n, .int .i64 f, .int .i64 3] 97) := ⟨_, rfl⟩
  obtain ⟨P, hP⟩ : ∃ P, P = w.heap.size := ⟨_, rfl⟩
  have HS : Hid (∀ w', Bls [(P, [.int .i64 p, .int .i64 n, .int .i64 f, .int .i64 3], 97), (O, [.int .i64 o.f, .int .i64 o.s], 176)] w' → (w'.cell? ⟨P, 0, none⟩ = some (.int .i64 p) ∧ w'.cell? ⟨P, 1, none⟩ = some (.int .i64 n) ∧ w'.cell? ⟨P, 2, none⟩ = some (.int .i64 f) ∧ w'.cell? ⟨P, 3, none⟩ = some (.int .i64 3) ∧ w'.cell? ⟨O, 0, none⟩ = some (.int .i64 o.f) ∧ w'.cell? ⟨O, 1, none⟩ = some (.int .i64 o.s))) := fun w' h => ⟨(h _ (.head _)).cell (i := 0) rfl, (h _ (.head _)).cell (i := 1) rfl, (h _ (.head _)).cell (i := 2) rfl, (h _ (.head _)).cell (i := 3) rfl, (h _ (.tail _ (.head _))).cell (i := 0) rfl, (h _ (.tail _ (.head _))).cell (i := 1) rfl⟩
  have HO : Hid (BI w [(P, [.int .i64 p, .int .i64 n, .int .i64 f, .int .i64 3], 97), (O, [.int .i64 o.f, .int .i64 o.s], 176)] W) := by rw [hW, hP]; exact BI.box hE _ _
  clear hE
  go_enter Tryz.func161, Tryz.ntmps161
  go_upto_region 1 with fail
  rw [← hW, ← hP]
  clear hW hP
  refine wp_region_held_drew (S := (fun w' => w'.cell? ⟨P, 0, none⟩ = some (.int .i64 p) ∧ w'.cell? ⟨P, 1, none⟩ = some (.int .i64 n) ∧ w'.cell? ⟨P, 2, none⟩ = some (.int .i64 f) ∧ w'.cell? ⟨P, 3, none⟩ = some (.int .i64 3) ∧ w'.cell? ⟨O, 0, none⟩ = some (.int .i64 o.f) ∧ w'.cell? ⟨O, 1, none⟩ = some (.int .i64 o.s))) Tryz.mixd (HS.out _ (HO.out.kept ((Keeps.refl _ _).drew)).1) (fun hHeld => ?_)
  simp only [List.size_toArray, List.length_cons, List.length_nil, Nat.reduceAdd, Array.replicate_succ, Array.replicate_zero, List.push_toArray, List.append_toArray, List.nil_append, List.cons_append]
  refine wpAnyH_take (i := 0) (oi := { dst := some 4, op := Op.fieldAddr 97 (Operand.tmp 2) 3, type := 0, pos := "partition.go:80", after := #[], guard := none }) (v := .pointer (some ⟨P, 3, none⟩)) rfl (by kernel_rfl) (by kernel_rfl) (by kernel_rfl) (fun _ _ _ h => h) (Or.inl ⟨by kernel_rfl, by (intro w hSw; (try dsimp only at hSw); go_simp)⟩) hHeld ?_
  simp only [Act.put, List.setIfInBounds_toArray, List.set_cons_zero, List.set_cons_succ]
  refine wpAnyH_take (i := 1) (oi := { dst := some 5, op := Op.load 3 (Operand.tmp 4), type := 3, pos := "partition.go:80", after := #[{ on := 0, ground := Ground.data }], guard := none }) (v := .int .i64 3) rfl (by kernel_rfl) (by kernel_rfl) (by kernel_rfl) (fun _ _ _ h => h) (Or.inl ⟨by kernel_rfl, by (intro w hSw; (try dsimp only at hSw); go_simp)⟩) hHeld ?_
  simp only [Act.put, List.setIfInBounds_toArray, List.set_cons_zero, List.set_cons_succ]
  refine wpAnyH_take (i := 2) (oi := { dst := some 6, op := Op.binOp BinOp.and 3 (Operand.tmp 5) (Operand.const (Value.int IntKind.i64 4)) 3, type := 3, pos := "partition.go:80", after := #[{ on := 1, ground := Ground.data }], guard := none }) (v := .int .i64 0) rfl (by kernel_rfl) (by kernel_rfl) (by kernel_rfl) (fun _ _ _ h => h) (Or.inl ⟨by kernel_rfl, by (intro w hSw; (try dsimp only at hSw); go_simp)⟩) hHeld ?_
  simp only [Act.put, List.setIfInBounds_toArray, List.set_cons_zero, List.set_cons_succ]
  refine wpAnyH_take (i := 3) (oi := { dst := some 7, op := Op.binOp BinOp.neq 3 (Operand.tmp 6) (Operand.const (Value.int IntKind.i64 0)) 3, type := 4, pos := "partition.go:80", after := #[{ on := 2, ground := Ground.data }], guard := none }) (v := .bool false) rfl (by kernel_rfl) (by kernel_rfl) (by kernel_rfl) (fun _ _ _ h => h) (Or.inl ⟨by kernel_rfl, by (intro w hSw; (try dsimp only at hSw); go_simp)⟩) hHeld ?_
  simp only [Act.put, List.setIfInBounds_toArray, List.set_cons_zero, List.set_cons_succ]
  refine wpAnyH_take (i := 4) (oi := { dst := some 8, op := Op.move (Operand.tmp 7), type := 4, pos := "partition.go:80", after := #[{ on := 3, ground := Ground.data }], guard := none }) (v := .bool false) rfl (by kernel_rfl) (by kernel_rfl) (by kernel_rfl) (fun _ _ _ h => h) (Or.inl ⟨by kernel_rfl, by (intro w hSw; (try dsimp only at hSw); go_simp)⟩) hHeld ?_
  simp only [Act.put, List.setIfInBounds_toArray, List.set_cons_zero, List.set_cons_succ]
  refine wpAnyH_take (i := 5) (oi := { dst := some 9, op := Op.load 97 (Operand.tmp 2), type := 97, pos := "partition.go:80", after := #[{ on := 4, ground := Ground.guard }], guard := some (4, true) }) (v := undef) rfl (by kernel_rfl) (by kernel_rfl) (by kernel_rfl) (fun _ _ _ h => h) (Or.inr ⟨by kernel_rfl, rfl⟩) hHeld ?_
  simp only [Act.put, List.setIfInBounds_toArray, List.set_cons_zero, List.set_cons_succ]
  refine wpAnyH_take (i := 7) (oi := { dst := some 11, op := Op.load 176 (Operand.tmp 1), type := 176, pos := "partition.go:80", after := #[{ on := 4, ground := Ground.guard }], guard := some (4, true) }) (v := undef) rfl (by kernel_rfl) (by kernel_rfl) (by kernel_rfl) (fun _ _ _ h => h) (Or.inr ⟨by kernel_rfl, rfl⟩) hHeld ?_
  simp only [Act.put, List.setIfInBounds_toArray, List.set_cons_zero, List.set_cons_succ]
  refine wpAnyH_take (i := 6) (oi := { dst := some 10, op := Op.call { callee := Callee.value (Operand.func 156), args := #[Operand.tmp 9], argTypes := #[97] }, type := 176, pos := "partition.go:80", after := #[{ on := 5, ground := Ground.data }, { on := 4, ground := Ground.chain }, { on := 4, ground := Ground.guard }], guard := some (4, true) }) (v := undef) rfl (by kernel_rfl) (by kernel_rfl) (by kernel_rfl) (fun _ _ _ h => h) (Or.inr ⟨by kernel_rfl, rfl⟩) hHeld ?_
  simp only [Act.put, List.setIfInBounds_toArray, List.set_cons_zero, List.set_cons_succ]
  refine wpAnyH_take (i := 8) (oi := { dst := some 12, op := Op.call { callee := Callee.value (Operand.func 162), args := #[Operand.tmp 10, Operand.tmp 11], argTypes := #[176, 176] }, type := 4, pos := "partition.go:80", after := #[{ on := 6, ground := Ground.data }, { on := 7, ground := Ground.data }, { on := 6, ground := Ground.chain }, { on := 4, ground := Ground.guard }], guard := some (4, true) }) (v := undef) rfl (by kernel_rfl) (by kernel_rfl) (by kernel_rfl) (fun _ _ _ h => h) (Or.inr ⟨by kernel_rfl, rfl⟩) hHeld ?_
  simp only [Act.put, List.setIfInBounds_toArray, List.set_cons_zero, List.set_cons_succ]
  refine wpAnyH_take (i := 9) (oi := { dst := some 13, op := Op.pick (Operand.tmp 8) (Operand.tmp 12) (Operand.const (Value.bool false)), type := 4, pos := "partition.go:80", after := #[{ on := 4, ground := Ground.data }, { on := 8, ground := Ground.data }], guard := none }) (v := .bool false) rfl (by kernel_rfl) (by kernel_rfl) (by kernel_rfl) (fun _ _ _ h => h) (Or.inl ⟨by kernel_rfl, by (intro w hSw; (try dsimp only at hSw); go_simp)⟩) hHeld ?_
  simp only [Act.put, List.setIfInBounds_toArray, List.set_cons_zero, List.set_cons_succ]
  refine wpAnyH_take (i := 10) (oi := { dst := some 3, op := Op.assign (Operand.tmp 13), type := 4, pos := "partition.go:80", after := #[{ on := 9, ground := Ground.data }, { on := 8, ground := Ground.chain }, { on := 0, ground := Ground.phase }, { on := 1, ground := Ground.phase }, { on := 2, ground := Ground.phase }, { on := 3, ground := Ground.phase }, { on := 4, ground := Ground.phase }, { on := 5, ground := Ground.phase }, { on := 6, ground := Ground.phase }, { on := 7, ground := Ground.phase }, { on := 8, ground := Ground.phase }, { on := 9, ground := Ground.phase }], guard := none }) (v := .bool false) rfl (by kernel_rfl) (by kernel_rfl) (by kernel_rfl) (fun _ _ _ h => h) (Or.inl ⟨by kernel_rfl, by (intro w hSw; (try dsimp only at hSw); go_simp)⟩) hHeld ?_
  simp only [Act.put, List.setIfInBounds_toArray, List.set_cons_zero, List.set_cons_succ]
  refine wpAnyH_done (by kernel_rfl) ?_ _
  clear hHeld
  go_wp2
  go_ret
  exact ⟨rfl, (HO.out.kept ((Keeps.refl _ _).drew)).2⟩
set_option maxHeartbeats 4000000 in
theorem beginClo4 (p n f : Int) (o : Rn) (O : Nat) (hr : (Rgn.pg ⟨p, n, f, 4⟩).Ok) (ho : o.Ok) (w : World) (hE : Bls [(O, [.int .i64 o.f, .int .i64 o.s], 176)] w) : Calls Tryz.prog 161 #[(Rgn.v ⟨p, n, f, 4⟩), .pointer (some ⟨O, 0, none⟩)] w fun e w' => e = .returned (.bool (Rgn.runs o ⟨p, n, f, 4⟩)) ∧ Keeps (fun _ => False) w w' := by
  have qb : bits BinOp.and IntKind.i64 4 4 = 4 := by kernel_rfl
  have HM : Hid (∀ w, Calls Tryz.prog 162 #[(Rgn.pg ⟨p, n, f, 4⟩).v, o.v] w fun e w' => e = .returned (.bool ((Rgn.pg ⟨p, n, f, 4⟩).meets o)) ∧ Keeps (fun _ => False) w w') := fun w => meets_any _ o hr ho w
  have HP : Hid (∀ w, Calls Tryz.prog 156 #[.agg #[.int .i64 p, .int .i64 n, .int .i64 f, .int .i64 4]] w fun e w' => e = .returned (Rgn.pg ⟨p, n, f, 4⟩).v ∧ Keeps (fun _ => False) w w') := fun w => pagesOf_any ⟨p, n, f, 4⟩ w
  clear hr ho
  obtain ⟨W, hW⟩ : ∃ W, W = w.alloc (.cells #[.int .i64 p, .int .i64 n, .int .i64 f, .int .i64 4] 97) := ⟨_, rfl⟩
  obtain ⟨P, hP⟩ : ∃ P, P = w.heap.size := ⟨_, rfl⟩
  have HS : Hid (∀ w', Bls [(P, [.int .i64 p, .int .i64 n, .int .i64 f, .int .i64 4], 97), (O, [.int .i64 o.f, .int .i64 o.s], 176)] w' → (w'.cell? ⟨P, 0, none⟩ = some (.int .i64 p) ∧ w'.cell? ⟨P, 1, none⟩ = some (.int .i64 n) ∧ w'.cell? ⟨P, 2, none⟩ = some (.int .i64 f) ∧ w'.cell? ⟨P, 3, none⟩ = some (.int .i64 4) ∧ w'.cell? ⟨O, 0, none⟩ = some (.int .i64 o.f) ∧ w'.cell? ⟨O, 1, none⟩ = some (.int .i64 o.s))) := fun w' h => ⟨(h _ (.head _)).cell (i := 0) rfl, (h _ (.head _)).cell (i := 1) rfl, (h _ (.head _)).cell (i := 2) rfl, (h _ (.head _)).cell (i := 3) rfl, (h _ (.tail _ (.head _))).cell (i := 0) rfl, (h _ (.tail _ (.head _))).cell (i := 1) rfl⟩
  have HO : Hid (BI w [(P, [.int .i64 p, .int .i64 n, .int .i64 f, .int .i64 4], 97), (O, [.int .i64 o.f, .int .i64 o.s], 176)] W) := by rw [hW, hP]; exact BI.box hE _ _
  clear hE
  go_enter Tryz.func161, Tryz.ntmps161
  go_upto_region 1 with fail
  rw [← hW, ← hP]
  clear hW hP
  refine wp_region_held_drew (S := (fun w' => w'.cell? ⟨P, 0, none⟩ = some (.int .i64 p) ∧ w'.cell? ⟨P, 1, none⟩ = some (.int .i64 n) ∧ w'.cell? ⟨P, 2, none⟩ = some (.int .i64 f) ∧ w'.cell? ⟨P, 3, none⟩ = some (.int .i64 4) ∧ w'.cell? ⟨O, 0, none⟩ = some (.int .i64 o.f) ∧ w'.cell? ⟨O, 1, none⟩ = some (.int .i64 o.s))) Tryz.mixd (HS.out _ (HO.out.kept ((Keeps.refl _ _).drew)).1) (fun hHeld => ?_)
  simp only [List.size_toArray, List.length_cons, List.length_nil, Nat.reduceAdd, Array.replicate_succ, Array.replicate_zero, List.push_toArray, List.append_toArray, List.nil_append, List.cons_append]
  refine wpAnyH_take (i := 0) (oi := { dst := some 4, op := Op.fieldAddr 97 (Operand.tmp 2) 3, type := 0, pos := "partition.go:80", after := #[], guard := none }) (v := .pointer (some ⟨P, 3, none⟩)) rfl (by kernel_rfl) (by kernel_rfl) (by kernel_rfl) (fun _ _ _ h => h) (Or.inl ⟨by kernel_rfl, by (intro w hSw; (try dsimp only at hSw); go_simp)⟩) hHeld ?_
  simp only [Act.put, List.setIfInBounds_toArray, List.set_cons_zero, List.set_cons_succ]
  refine wpAnyH_take (i := 1) (oi := { dst := some 5, op := Op.load 3 (Operand.tmp 4), type := 3, pos := "partition.go:80", after := #[{ on := 0, ground := Ground.data }], guard := none }) (v := .int .i64 4) rfl (by kernel_rfl) (by kernel_rfl) (by kernel_rfl) (fun _ _ _ h => h) (Or.inl ⟨by kernel_rfl, by (intro w hSw; (try dsimp only at hSw); go_simp)⟩) hHeld ?_
  simp only [Act.put, List.setIfInBounds_toArray, List.set_cons_zero, List.set_cons_succ]
  refine wpAnyH_take (i := 2) (oi := { dst := some 6, op := Op.binOp BinOp.and 3 (Operand.tmp 5) (Operand.const (Value.int IntKind.i64 4)) 3, type := 3, pos := "partition.go:80", after := #[{ on := 1, ground := Ground.data }], guard := none }) (v := .int .i64 4) rfl (by kernel_rfl) (by kernel_rfl) (by kernel_rfl) (fun _ _ _ h => h) (Or.inl ⟨by kernel_rfl, by (intro w hSw; (try dsimp only at hSw); go_simp)⟩) hHeld ?_
  simp only [Act.put, List.setIfInBounds_toArray, List.set_cons_zero, List.set_cons_succ]
  refine wpAnyH_take (i := 3) (oi := { dst := some 7, op := Op.binOp BinOp.neq 3 (Operand.tmp 6) (Operand.const (Value.int IntKind.i64 0)) 3, type := 4, pos := "partition.go:80", after := #[{ on := 2, ground := Ground.data }], guard := none }) (v := .bool true) rfl (by kernel_rfl) (by kernel_rfl) (by kernel_rfl) (fun _ _ _ h => h) (Or.inl ⟨by kernel_rfl, by (intro w hSw; (try dsimp only at hSw); go_simp)⟩) hHeld ?_
  simp only [Act.put, List.setIfInBounds_toArray, List.set_cons_zero, List.set_cons_succ]
  refine wpAnyH_take (i := 4) (oi := { dst := some 8, op := Op.move (Operand.tmp 7), type := 4, pos := "partition.go:80", after := #[{ on := 3, ground := Ground.data }], guard := none }) (v := .bool true) rfl (by kernel_rfl) (by kernel_rfl) (by kernel_rfl) (fun _ _ _ h => h) (Or.inl ⟨by kernel_rfl, by (intro w hSw; (try dsimp only at hSw); go_simp)⟩) hHeld ?_
  simp only [Act.put, List.setIfInBounds_toArray, List.set_cons_zero, List.set_cons_succ]
  refine wpAnyH_take (i := 5) (oi := { dst := some 9, op := Op.load 97 (Operand.tmp 2), type := 97, pos := "partition.go:80", after := #[{ on := 4, ground := Ground.guard }], guard := some (4, true) }) (v := .agg #[.int .i64 p, .int .i64 n, .int .i64 f, .int .i64 4]) rfl (by kernel_rfl) (by kernel_rfl) (by kernel_rfl) (fun _ _ _ h => h) (Or.inl ⟨by kernel_rfl, by (intro w hSw; (try dsimp only at hSw); go_simp)⟩) hHeld ?_
  simp only [Act.put, List.setIfInBounds_toArray, List.set_cons_zero, List.set_cons_succ]
  refine wpAnyH_take (i := 7) (oi := { dst := some 11, op := Op.load 176 (Operand.tmp 1), type := 176, pos := "partition.go:80", after := #[{ on := 4, ground := Ground.guard }], guard := some (4, true) }) (v := .agg #[.int .i64 o.f, .int .i64 o.s]) rfl (by kernel_rfl) (by kernel_rfl) (by kernel_rfl) (fun _ _ _ h => h) (Or.inl ⟨by kernel_rfl, by (intro w hSw; (try dsimp only at hSw); go_simp)⟩) hHeld ?_
  simp only [Act.put, List.setIfInBounds_toArray, List.set_cons_zero, List.set_cons_succ]
  refine wpAnyH_ready (rs := [6]) (by kernel_rfl) (by simp) ?_
  refine AllReadyH.cons (o := { dst := some 10, op := Op.call { callee := Callee.value (Operand.func 156), args := #[Operand.tmp 9], argTypes := #[97] }, type := 176, pos := "partition.go:80", after := #[{ on := 5, ground := Ground.data }, { on := 4, ground := Ground.chain }, { on := 4, ground := Ground.guard }], guard := some (4, true) }) rfl (fun K hK => ?_) AllReadyH.nil
  go_simp
  refine (HP.out W.drew).mono ?_
  rintro r w1 ⟨rfl, hKc⟩
  have HO1 : Hid (BI w [(P, [.int .i64 p, .int .i64 n, .int .i64 f, .int .i64 4], 97), (O, [.int .i64 o.f, .int .i64 o.s], 176)] w1) := HO.out.kept (((Keeps.refl _ _).drew).trans hKc fun _ _ h => h)
  clear hKc
  refine hK.out _ _ (HS.out _ HO1.out.1) (fun hHeld => ?_)
  simp only [Act.put, List.setIfInBounds_toArray, List.set_cons_zero, List.set_cons_succ]
  refine wpAnyH_ready (rs := [8]) (by kernel_rfl) (by simp) ?_
  refine AllReadyH.cons (o := { dst := some 12, op := Op.call { callee := Callee.value (Operand.func 162), args := #[Operand.tmp 10, Operand.tmp 11], argTypes := #[176, 176] }, type := 4, pos := "partition.go:80", after := #[{ on := 6, ground := Ground.data }, { on := 7, ground := Ground.data }, { on := 6, ground := Ground.chain }, { on := 4, ground := Ground.guard }], guard := some (4, true) }) rfl (fun K hK => ?_) AllReadyH.nil
  go_simp
  refine (HM.out w1).mono ?_
  rintro r w2 ⟨rfl, hKc⟩
  have HO2 : Hid (BI w [(P, [.int .i64 p, .int .i64 n, .int .i64 f, .int .i64 4], 97), (O, [.int .i64 o.f, .int .i64 o.s], 176)] w2) := HO1.out.kept hKc
  clear hKc
  refine hK.out _ _ (HS.out _ HO2.out.1) (fun hHeld => ?_)
  simp only [Act.put, List.setIfInBounds_toArray, List.set_cons_zero, List.set_cons_succ]
  refine wpAnyH_take (i := 9) (oi := { dst := some 13, op := Op.pick (Operand.tmp 8) (Operand.tmp 12) (Operand.const (Value.bool false)), type := 4, pos := "partition.go:80", after := #[{ on := 4, ground := Ground.data }, { on := 8, ground := Ground.data }], guard := none }) (v := .bool ((Rgn.pg ⟨p, n, f, 4⟩).meets o)) rfl (by kernel_rfl) (by kernel_rfl) (by kernel_rfl) (fun _ _ _ h => h) (Or.inl ⟨by kernel_rfl, by (intro w hSw; (try dsimp only at hSw); go_simp)⟩) hHeld ?_
  simp only [Act.put, List.setIfInBounds_toArray, List.set_cons_zero, List.set_cons_succ]
  refine wpAnyH_take (i := 10) (oi := { dst := some 3, op := Op.assign (Operand.tmp 13), type := 4, pos := "partition.go:80", after := #[{ on := 9, ground := Ground.data }, { on := 8, ground := Ground.chain }, { on := 0, ground := Ground.phase }, { on := 1, ground := Ground.phase }, { on := 2, ground := Ground.phase }, { on := 3, ground := Ground.phase }, { on := 4, ground := Ground.phase }, { on := 5, ground := Ground.phase }, { on := 6, ground := Ground.phase }, { on := 7, ground := Ground.phase }, { on := 8, ground := Ground.phase }, { on := 9, ground := Ground.phase }], guard := none }) (v := .bool ((Rgn.pg ⟨p, n, f, 4⟩).meets o)) rfl (by kernel_rfl) (by kernel_rfl) (by kernel_rfl) (fun _ _ _ h => h) (Or.inl ⟨by kernel_rfl, by (intro w hSw; (try dsimp only at hSw); go_simp)⟩) hHeld ?_
  simp only [Act.put, List.setIfInBounds_toArray, List.set_cons_zero, List.set_cons_succ]
  refine wpAnyH_done (by kernel_rfl) ?_ _
  clear hHeld
  go_wp2
  go_ret
  exact ⟨rfl, HO2.out.2⟩
set_option maxHeartbeats 4000000 in
theorem beginClo5 (p n f : Int) (o : Rn) (O : Nat) (hr : (Rgn.pg ⟨p, n, f, 5⟩).Ok) (ho : o.Ok) (w : World) (hE : Bls [(O, [.int .i64 o.f, .int .i64 o.s], 176)] w) : Calls Tryz.prog 161 #[(Rgn.v ⟨p, n, f, 5⟩), .pointer (some ⟨O, 0, none⟩)] w fun e w' => e = .returned (.bool (Rgn.runs o ⟨p, n, f, 5⟩)) ∧ Keeps (fun _ => False) w w' := by
  have qb : bits BinOp.and IntKind.i64 5 4 = 4 := by kernel_rfl
  have HM : Hid (∀ w, Calls Tryz.prog 162 #[(Rgn.pg ⟨p, n, f, 5⟩).v, o.v] w fun e w' => e = .returned (.bool ((Rgn.pg ⟨p, n, f, 5⟩).meets o)) ∧ Keeps (fun _ => False) w w') := fun w => meets_any _ o hr ho w
  have HP : Hid (∀ w, Calls Tryz.prog 156 #[.agg #[.int .i64 p, .int .i64 n, .int .i64 f, .int .i64 5]] w fun e w' => e = .returned (Rgn.pg ⟨p, n, f, 5⟩).v ∧ Keeps (fun _ => False) w w') := fun w => pagesOf_any ⟨p, n, f, 5⟩ w
  clear hr ho
  obtain ⟨W, hW⟩ : ∃ W, W = w.alloc (.cells #[.int .i64 p, .int .i64 n, .int .i64 f, .int .i64 5] 97) := ⟨_, rfl⟩
  obtain ⟨P, hP⟩ : ∃ P, P = w.heap.size := ⟨_, rfl⟩
  have HS : Hid (∀ w', Bls [(P, [.int .i64 p, .int .i64 n, .int .i64 f, .int .i64 5], 97), (O, [.int .i64 o.f, .int .i64 o.s], 176)] w' → (w'.cell? ⟨P, 0, none⟩ = some (.int .i64 p) ∧ w'.cell? ⟨P, 1, none⟩ = some (.int .i64 n) ∧ w'.cell? ⟨P, 2, none⟩ = some (.int .i64 f) ∧ w'.cell? ⟨P, 3, none⟩ = some (.int .i64 5) ∧ w'.cell? ⟨O, 0, none⟩ = some (.int .i64 o.f) ∧ w'.cell? ⟨O, 1, none⟩ = some (.int .i64 o.s))) := fun w' h => ⟨(h _ (.head _)).cell (i := 0) rfl, (h _ (.head _)).cell (i := 1) rfl, (h _ (.head _)).cell (i := 2) rfl, (h _ (.head _)).cell (i := 3) rfl, (h _ (.tail _ (.head _))).cell (i := 0) rfl, (h _ (.tail _ (.head _))).cell (i := 1) rfl⟩
  have HO : Hid (BI w [(P, [.int .i64 p, .int .i64 n, .int .i64 f, .int .i64 5], 97), (O, [.int .i64 o.f, .int .i64 o.s], 176)] W) := by rw [hW, hP]; exact BI.box hE _ _
  clear hE
  go_enter Tryz.func161, Tryz.ntmps161
  go_upto_region 1 with fail
  rw [← hW, ← hP]
  clear hW hP
  refine wp_region_held_drew (S := (fun w' => w'.cell? ⟨P, 0, none⟩ = some (.int .i64 p) ∧ w'.cell? ⟨P, 1, none⟩ = some (.int .i64 n) ∧ w'.cell? ⟨P, 2, none⟩ = some (.int .i64 f) ∧ w'.cell? ⟨P, 3, none⟩ = some (.int .i64 5) ∧ w'.cell? ⟨O, 0, none⟩ = some (.int .i64 o.f) ∧ w'.cell? ⟨O, 1, none⟩ = some (.int .i64 o.s))) Tryz.mixd (HS.out _ (HO.out.kept ((Keeps.refl _ _).drew)).1) (fun hHeld => ?_)
  simp only [List.size_toArray, List.length_cons, List.length_nil, Nat.reduceAdd, Array.replicate_succ, Array.replicate_zero, List.push_toArray, List.append_toArray, List.nil_append, List.cons_append]
  refine wpAnyH_take (i := 0) (oi := { dst := some 4, op := Op.fieldAddr 97 (Operand.tmp 2) 3, type := 0, pos := "partition.go:80", after := #[], guard := none }) (v := .pointer (some ⟨P, 3, none⟩)) rfl (by kernel_rfl) (by kernel_rfl) (by kernel_rfl) (fun _ _ _ h => h) (Or.inl ⟨by kernel_rfl, by (intro w hSw; (try dsimp only at hSw); go_simp)⟩) hHeld ?_
  simp only [Act.put, List.setIfInBounds_toArray, List.set_cons_zero, List.set_cons_succ]
  refine wpAnyH_take (i := 1) (oi := { dst := some 5, op := Op.load 3 (Operand.tmp 4), type := 3, pos := "partition.go:80", after := #[{ on := 0, ground := Ground.data }], guard := none }) (v := .int .i64 5) rfl (by kernel_rfl) (by kernel_rfl) (by kernel_rfl) (fun _ _ _ h => h) (Or.inl ⟨by kernel_rfl, by (intro w hSw; (try dsimp only at hSw); go_simp)⟩) hHeld ?_
  simp only [Act.put, List.setIfInBounds_toArray, List.set_cons_zero, List.set_cons_succ]
  refine wpAnyH_take (i := 2) (oi := { dst := some 6, op := Op.binOp BinOp.and 3 (Operand.tmp 5) (Operand.const (Value.int IntKind.i64 4)) 3, type := 3, pos := "partition.go:80", after := #[{ on := 1, ground := Ground.data }], guard := none }) (v := .int .i64 4) rfl (by kernel_rfl) (by kernel_rfl) (by kernel_rfl) (fun _ _ _ h => h) (Or.inl ⟨by kernel_rfl, by (intro w hSw; (try dsimp only at hSw); go_simp)⟩) hHeld ?_
  simp only [Act.put, List.setIfInBounds_toArray, List.set_cons_zero, List.set_cons_succ]
  refine wpAnyH_take (i := 3) (oi := { dst := some 7, op := Op.binOp BinOp.neq 3 (Operand.tmp 6) (Operand.const (Value.int IntKind.i64 0)) 3, type := 4, pos := "partition.go:80", after := #[{ on := 2, ground := Ground.data }], guard := none }) (v := .bool true) rfl (by kernel_rfl) (by kernel_rfl) (by kernel_rfl) (fun _ _ _ h => h) (Or.inl ⟨by kernel_rfl, by (intro w hSw; (try dsimp only at hSw); go_simp)⟩) hHeld ?_
  simp only [Act.put, List.setIfInBounds_toArray, List.set_cons_zero, List.set_cons_succ]
  refine wpAnyH_take (i := 4) (oi := { dst := some 8, op := Op.move (Operand.tmp 7), type := 4, pos := "partition.go:80", after := #[{ on := 3, ground := Ground.data }], guard := none }) (v := .bool true) rfl (by kernel_rfl) (by kernel_rfl) (by kernel_rfl) (fun _ _ _ h => h) (Or.inl ⟨by kernel_rfl, by (intro w hSw; (try dsimp only at hSw); go_simp)⟩) hHeld ?_
  simp only [Act.put, List.setIfInBounds_toArray, List.set_cons_zero, List.set_cons_succ]
  refine wpAnyH_take (i := 5) (oi := { dst := some 9, op := Op.load 97 (Operand.tmp 2), type := 97, pos := "partition.go:80", after := #[{ on := 4, ground := Ground.guard }], guard := some (4, true) }) (v := .agg #[.int .i64 p, .int .i64 n, .int .i64 f, .int .i64 5]) rfl (by kernel_rfl) (by kernel_rfl) (by kernel_rfl) (fun _ _ _ h => h) (Or.inl ⟨by kernel_rfl, by (intro w hSw; (try dsimp only at hSw); go_simp)⟩) hHeld ?_
  simp only [Act.put, List.setIfInBounds_toArray, List.set_cons_zero, List.set_cons_succ]
  refine wpAnyH_take (i := 7) (oi := { dst := some 11, op := Op.load 176 (Operand.tmp 1), type := 176, pos := "partition.go:80", after := #[{ on := 4, ground := Ground.guard }], guard := some (4, true) }) (v := .agg #[.int .i64 o.f, .int .i64 o.s]) rfl (by kernel_rfl) (by kernel_rfl) (by kernel_rfl) (fun _ _ _ h => h) (Or.inl ⟨by kernel_rfl, by (intro w hSw; (try dsimp only at hSw); go_simp)⟩) hHeld ?_
  simp only [Act.put, List.setIfInBounds_toArray, List.set_cons_zero, List.set_cons_succ]
  refine wpAnyH_ready (rs := [6]) (by kernel_rfl) (by simp) ?_
  refine AllReadyH.cons (o := { dst := some 10, op := Op.call { callee := Callee.value (Operand.func 156), args := #[Operand.tmp 9], argTypes := #[97] }, type := 176, pos := "partition.go:80", after := #[{ on := 5, ground := Ground.data }, { on := 4, ground := Ground.chain }, { on := 4, ground := Ground.guard }], guard := some (4, true) }) rfl (fun K hK => ?_) AllReadyH.nil
  go_simp
  refine (HP.out W.drew).mono ?_
  rintro r w1 ⟨rfl, hKc⟩
  have HO1 : Hid (BI w [(P, [.int .i64 p, .int .i64 n, .int .i64 f, .int .i64 5], 97), (O, [.int .i64 o.f, .int .i64 o.s], 176)] w1) := HO.out.kept (((Keeps.refl _ _).drew).trans hKc fun _ _ h => h)
  clear hKc
  refine hK.out _ _ (HS.out _ HO1.out.1) (fun hHeld => ?_)
  simp only [Act.put, List.setIfInBounds_toArray, List.set_cons_zero, List.set_cons_succ]
  refine wpAnyH_ready (rs := [8]) (by kernel_rfl) (by simp) ?_
  refine AllReadyH.cons (o := { dst := some 12, op := Op.call { callee := Callee.value (Operand.func 162), args := #[Operand.tmp 10, Operand.tmp 11], argTypes := #[176, 176] }, type := 4, pos := "partition.go:80", after := #[{ on := 6, ground := Ground.data }, { on := 7, ground := Ground.data }, { on := 6, ground := Ground.chain }, { on := 4, ground := Ground.guard }], guard := some (4, true) }) rfl (fun K hK => ?_) AllReadyH.nil
  go_simp
  refine (HM.out w1).mono ?_
  rintro r w2 ⟨rfl, hKc⟩
  have HO2 : Hid (BI w [(P, [.int .i64 p, .int .i64 n, .int .i64 f, .int .i64 5], 97), (O, [.int .i64 o.f, .int .i64 o.s], 176)] w2) := HO1.out.kept hKc
  clear hKc
  refine hK.out _ _ (HS.out _ HO2.out.1) (fun hHeld => ?_)
  simp only [Act.put, List.setIfInBounds_toArray, List.set_cons_zero, List.set_cons_succ]
  refine wpAnyH_take (i := 9) (oi := { dst := some 13, op := Op.pick (Operand.tmp 8) (Operand.tmp 12) (Operand.const (Value.bool false)), type := 4, pos := "partition.go:80", after := #[{ on := 4, ground := Ground.data }, { on := 8, ground := Ground.data }], guard := none }) (v := .bool ((Rgn.pg ⟨p, n, f, 5⟩).meets o)) rfl (by kernel_rfl) (by kernel_rfl) (by kernel_rfl) (fun _ _ _ h => h) (Or.inl ⟨by kernel_rfl, by (intro w hSw; (try dsimp only at hSw); go_simp)⟩) hHeld ?_
  simp only [Act.put, List.setIfInBounds_toArray, List.set_cons_zero, List.set_cons_succ]
  refine wpAnyH_take (i := 10) (oi := { dst := some 3, op := Op.assign (Operand.tmp 13), type := 4, pos := "partition.go:80", after := #[{ on := 9, ground := Ground.data }, { on := 8, ground := Ground.chain }, { on := 0, ground := Ground.phase }, { on := 1, ground := Ground.phase }, { on := 2, ground := Ground.phase }, { on := 3, ground := Ground.phase }, { on := 4, ground := Ground.phase }, { on := 5, ground := Ground.phase }, { on := 6, ground := Ground.phase }, { on := 7, ground := Ground.phase }, { on := 8, ground := Ground.phase }, { on := 9, ground := Ground.phase }], guard := none }) (v := .bool ((Rgn.pg ⟨p, n, f, 5⟩).meets o)) rfl (by kernel_rfl) (by kernel_rfl) (by kernel_rfl) (fun _ _ _ h => h) (Or.inl ⟨by kernel_rfl, by (intro w hSw; (try dsimp only at hSw); go_simp)⟩) hHeld ?_
  simp only [Act.put, List.setIfInBounds_toArray, List.set_cons_zero, List.set_cons_succ]
  refine wpAnyH_done (by kernel_rfl) ?_ _
  clear hHeld
  go_wp2
  go_ret
  exact ⟨rfl, HO2.out.2⟩
set_option maxHeartbeats 4000000 in
theorem beginClo6 (p n f : Int) (o : Rn) (O : Nat) (hr : (Rgn.pg ⟨p, n, f, 6⟩).Ok) (ho : o.Ok) (w : World) (hE : Bls [(O, [.int .i64 o.f, .int .i64 o.s], 176)] w) : Calls Tryz.prog 161 #[(Rgn.v ⟨p, n, f, 6⟩), .pointer (some ⟨O, 0, none⟩)] w fun e w' => e = .returned (.bool (Rgn.runs o ⟨p, n, f, 6⟩)) ∧ Keeps (fun _ => False) w w' := by
  have qb : bits BinOp.and IntKind.i64 6 4 = 4 := by kernel_rfl
  have HM : Hid (∀ w, Calls Tryz.prog 162 #[(Rgn.pg ⟨p, n, f, 6⟩).v, o.v] w fun e w' => e = .returned (.bool ((Rgn.pg ⟨p, n, f, 6⟩).meets o)) ∧ Keeps (fun _ => False) w w') := fun w => meets_any _ o hr ho w
  have HP : Hid (∀ w, Calls Tryz.prog 156 #[.agg #[.int .i64 p, .int .i64 n, .int .i64 f, .int .i64 6]] w fun e w' => e = .returned (Rgn.pg ⟨p, n, f, 6⟩).v ∧ Keeps (fun _ => False) w w') := fun w => pagesOf_any ⟨p, n, f, 6⟩ w
  clear hr ho
  obtain ⟨W, hW⟩ : ∃ W, W = w.alloc (.cells #[.int .i64 p, .int .i64 n, .int .i64 f, .int .i64 6] 97) := ⟨_, rfl⟩
  obtain ⟨P, hP⟩ : ∃ P, P = w.heap.size := ⟨_, rfl⟩
  have HS : Hid (∀ w', Bls [(P, [.int .i64 p, .int .i64 n, .int .i64 f, .int .i64 6], 97), (O, [.int .i64 o.f, .int .i64 o.s], 176)] w' → (w'.cell? ⟨P, 0, none⟩ = some (.int .i64 p) ∧ w'.cell? ⟨P, 1, none⟩ = some (.int .i64 n) ∧ w'.cell? ⟨P, 2, none⟩ = some (.int .i64 f) ∧ w'.cell? ⟨P, 3, none⟩ = some (.int .i64 6) ∧ w'.cell? ⟨O, 0, none⟩ = some (.int .i64 o.f) ∧ w'.cell? ⟨O, 1, none⟩ = some (.int .i64 o.s))) := fun w' h => ⟨(h _ (.head _)).cell (i := 0) rfl, (h _ (.head _)).cell (i := 1) rfl, (h _ (.head _)).cell (i := 2) rfl, (h _ (.head _)).cell (i := 3) rfl, (h _ (.tail _ (.head _))).cell (i := 0) rfl, (h _ (.tail _ (.head _))).cell (i := 1) rfl⟩
  have HO : Hid (BI w [(P, [.int .i64 p, .int .i64 n, .int .i64 f, .int .i64 6], 97), (O, [.int .i64 o.f, .int .i64 o.s], 176)] W) := by rw [hW, hP]; exact BI.box hE _ _
  clear hE
  go_enter Tryz.func161, Tryz.ntmps161
  go_upto_region 1 with fail
  rw [← hW, ← hP]
  clear hW hP
  refine wp_region_held_drew (S := (fun w' => w'.cell? ⟨P, 0, none⟩ = some (.int .i64 p) ∧ w'.cell? ⟨P, 1, none⟩ = some (.int .i64 n) ∧ w'.cell? ⟨P, 2, none⟩ = some (.int .i64 f) ∧ w'.cell? ⟨P, 3, none⟩ = some (.int .i64 6) ∧ w'.cell? ⟨O, 0, none⟩ = some (.int .i64 o.f) ∧ w'.cell? ⟨O, 1, none⟩ = some (.int .i64 o.s))) Tryz.mixd (HS.out _ (HO.out.kept ((Keeps.refl _ _).drew)).1) (fun hHeld => ?_)
  simp only [List.size_toArray, List.length_cons, List.length_nil, Nat.reduceAdd, Array.replicate_succ, Array.replicate_zero, List.push_toArray, List.append_toArray, List.nil_append, List.cons_append]
  refine wpAnyH_take (i := 0) (oi := { dst := some 4, op := Op.fieldAddr 97 (Operand.tmp 2) 3, type := 0, pos := "partition.go:80", after := #[], guard := none }) (v := .pointer (some ⟨P, 3, none⟩)) rfl (by kernel_rfl) (by kernel_rfl) (by kernel_rfl) (fun _ _ _ h => h) (Or.inl ⟨by kernel_rfl, by (intro w hSw; (try dsimp only at hSw); go_simp)⟩) hHeld ?_
  simp only [Act.put, List.setIfInBounds_toArray, List.set_cons_zero, List.set_cons_succ]
  refine wpAnyH_take (i := 1) (oi := { dst := some 5, op := Op.load 3 (Operand.tmp 4), type := 3, pos := "partition.go:80", after := #[{ on := 0, ground := Ground.data }], guard := none }) (v := .int .i64 6) rfl (by kernel_rfl) (by kernel_rfl) (by kernel_rfl) (fun _ _ _ h => h) (Or.inl ⟨by kernel_rfl, by (intro w hSw; (try dsimp only at hSw); go_simp)⟩) hHeld ?_
  simp only [Act.put, List.setIfInBounds_toArray, List.set_cons_zero, List.set_cons_succ]
  refine wpAnyH_take (i := 2) (oi := { dst := some 6, op := Op.binOp BinOp.and 3 (Operand.tmp 5) (Operand.const (Value.int IntKind.i64 4)) 3, type := 3, pos := "partition.go:80", after := #[{ on := 1, ground := Ground.data }], guard := none }) (v := .int .i64 4) rfl (by kernel_rfl) (by kernel_rfl) (by kernel_rfl) (fun _ _ _ h => h) (Or.inl ⟨by kernel_rfl, by (intro w hSw; (try dsimp only at hSw); go_simp)⟩) hHeld ?_
  simp only [Act.put, List.setIfInBounds_toArray, List.set_cons_zero, List.set_cons_succ]
  refine wpAnyH_take (i := 3) (oi := { dst := some 7, op := Op.binOp BinOp.neq 3 (Operand.tmp 6) (Operand.const (Value.int IntKind.i64 0)) 3, type := 4, pos := "partition.go:80", after := #[{ on := 2, ground := Ground.data }], guard := none }) (v := .bool true) rfl (by kernel_rfl) (by kernel_rfl) (by kernel_rfl) (fun _ _ _ h => h) (Or.inl ⟨by kernel_rfl, by (intro w hSw; (try dsimp only at hSw); go_simp)⟩) hHeld ?_
  simp only [Act.put, List.setIfInBounds_toArray, List.set_cons_zero, List.set_cons_succ]
  refine wpAnyH_take (i := 4) (oi := { dst := some 8, op := Op.move (Operand.tmp 7), type := 4, pos := "partition.go:80", after := #[{ on := 3, ground := Ground.data }], guard := none }) (v := .bool true) rfl (by kernel_rfl) (by kernel_rfl) (by kernel_rfl) (fun _ _ _ h => h) (Or.inl ⟨by kernel_rfl, by (intro w hSw; (try dsimp only at hSw); go_simp)⟩) hHeld ?_
  simp only [Act.put, List.setIfInBounds_toArray, List.set_cons_zero, List.set_cons_succ]
  refine wpAnyH_take (i := 5) (oi := { dst := some 9, op := Op.load 97 (Operand.tmp 2), type := 97, pos := "partition.go:80", after := #[{ on := 4, ground := Ground.guard }], guard := some (4, true) }) (v := .agg #[.int .i64 p, .int .i64 n, .int .i64 f, .int .i64 6]) rfl (by kernel_rfl) (by kernel_rfl) (by kernel_rfl) (fun _ _ _ h => h) (Or.inl ⟨by kernel_rfl, by (intro w hSw; (try dsimp only at hSw); go_simp)⟩) hHeld ?_
  simp only [Act.put, List.setIfInBounds_toArray, List.set_cons_zero, List.set_cons_succ]
  refine wpAnyH_take (i := 7) (oi := { dst := some 11, op := Op.load 176 (Operand.tmp 1), type := 176, pos := "partition.go:80", after := #[{ on := 4, ground := Ground.guard }], guard := some (4, true) }) (v := .agg #[.int .i64 o.f, .int .i64 o.s]) rfl (by kernel_rfl) (by kernel_rfl) (by kernel_rfl) (fun _ _ _ h => h) (Or.inl ⟨by kernel_rfl, by (intro w hSw; (try dsimp only at hSw); go_simp)⟩) hHeld ?_
  simp only [Act.put, List.setIfInBounds_toArray, List.set_cons_zero, List.set_cons_succ]
  refine wpAnyH_ready (rs := [6]) (by kernel_rfl) (by simp) ?_
  refine AllReadyH.cons (o := { dst := some 10, op := Op.call { callee := Callee.value (Operand.func 156), args := #[Operand.tmp 9], argTypes := #[97] }, type := 176, pos := "partition.go:80", after := #[{ on := 5, ground := Ground.data }, { on := 4, ground := Ground.chain }, { on := 4, ground := Ground.guard }], guard := some (4, true) }) rfl (fun K hK => ?_) AllReadyH.nil
  go_simp
  refine (HP.out W.drew).mono ?_
  rintro r w1 ⟨rfl, hKc⟩
  have HO1 : Hid (BI w [(P, [.int .i64 p, .int .i64 n, .int .i64 f, .int .i64 6], 97), (O, [.int .i64 o.f, .int .i64 o.s], 176)] w1) := HO.out.kept (((Keeps.refl _ _).drew).trans hKc fun _ _ h => h)
  clear hKc
  refine hK.out _ _ (HS.out _ HO1.out.1) (fun hHeld => ?_)
  simp only [Act.put, List.setIfInBounds_toArray, List.set_cons_zero, List.set_cons_succ]
  refine wpAnyH_ready (rs := [8]) (by kernel_rfl) (by simp) ?_
  refine AllReadyH.cons (o := { dst := some 12, op := Op.call { callee := Callee.value (Operand.func 162), args := #[Operand.tmp 10, Operand.tmp 11], argTypes := #[176, 176] }, type := 4, pos := "partition.go:80", after := #[{ on := 6, ground := Ground.data }, { on := 7, ground := Ground.data }, { on := 6, ground := Ground.chain }, { on := 4, ground := Ground.guard }], guard := some (4, true) }) rfl (fun K hK => ?_) AllReadyH.nil
  go_simp
  refine (HM.out w1).mono ?_
  rintro r w2 ⟨rfl, hKc⟩
  have HO2 : Hid (BI w [(P, [.int .i64 p, .int .i64 n, .int .i64 f, .int .i64 6], 97), (O, [.int .i64 o.f, .int .i64 o.s], 176)] w2) := HO1.out.kept hKc
  clear hKc
  refine hK.out _ _ (HS.out _ HO2.out.1) (fun hHeld => ?_)
  simp only [Act.put, List.setIfInBounds_toArray, List.set_cons_zero, List.set_cons_succ]
  refine wpAnyH_take (i := 9) (oi := { dst := some 13, op := Op.pick (Operand.tmp 8) (Operand.tmp 12) (Operand.const (Value.bool false)), type := 4, pos := "partition.go:80", after := #[{ on := 4, ground := Ground.data }, { on := 8, ground := Ground.data }], guard := none }) (v := .bool ((Rgn.pg ⟨p, n, f, 6⟩).meets o)) rfl (by kernel_rfl) (by kernel_rfl) (by kernel_rfl) (fun _ _ _ h => h) (Or.inl ⟨by kernel_rfl, by (intro w hSw; (try dsimp only at hSw); go_simp)⟩) hHeld ?_
  simp only [Act.put, List.setIfInBounds_toArray, List.set_cons_zero, List.set_cons_succ]
  refine wpAnyH_take (i := 10) (oi := { dst := some 3, op := Op.assign (Operand.tmp 13), type := 4, pos := "partition.go:80", after := #[{ on := 9, ground := Ground.data }, { on := 8, ground := Ground.chain }, { on := 0, ground := Ground.phase }, { on := 1, ground := Ground.phase }, { on := 2, ground := Ground.phase }, { on := 3, ground := Ground.phase }, { on := 4, ground := Ground.phase }, { on := 5, ground := Ground.phase }, { on := 6, ground := Ground.phase }, { on := 7, ground := Ground.phase }, { on := 8, ground := Ground.phase }, { on := 9, ground := Ground.phase }], guard := none }) (v := .bool ((Rgn.pg ⟨p, n, f, 6⟩).meets o)) rfl (by kernel_rfl) (by kernel_rfl) (by kernel_rfl) (fun _ _ _ h => h) (Or.inl ⟨by kernel_rfl, by (intro w hSw; (try dsimp only at hSw); go_simp)⟩) hHeld ?_
  simp only [Act.put, List.setIfInBounds_toArray, List.set_cons_zero, List.set_cons_succ]
  refine wpAnyH_done (by kernel_rfl) ?_ _
  clear hHeld
  go_wp2
  go_ret
  exact ⟨rfl, HO2.out.2⟩
set_option maxHeartbeats 4000000 in
theorem beginClo7 (p n f : Int) (o : Rn) (O : Nat) (hr : (Rgn.pg ⟨p, n, f, 7⟩).Ok) (ho : o.Ok) (w : World) (hE : Bls [(O, [.int .i64 o.f, .int .i64 o.s], 176)] w) : Calls Tryz.prog 161 #[(Rgn.v ⟨p, n, f, 7⟩), .pointer (some ⟨O, 0, none⟩)] w fun e w' => e = .returned (.bool (Rgn.runs o ⟨p, n, f, 7⟩)) ∧ Keeps (fun _ => False) w w' := by
  have qb : bits BinOp.and IntKind.i64 7 4 = 4 := by kernel_rfl
  have HM : Hid (∀ w, Calls Tryz.prog 162 #[(Rgn.pg ⟨p, n, f, 7⟩).v, o.v] w fun e w' => e = .returned (.bool ((Rgn.pg ⟨p, n, f, 7⟩).meets o)) ∧ Keeps (fun _ => False) w w') := fun w => meets_any _ o hr ho w
  have HP : Hid (∀ w, Calls Tryz.prog 156 #[.agg #[.int .i64 p, .int .i64 n, .int .i64 f, .int .i64 7]] w fun e w' => e = .returned (Rgn.pg ⟨p, n, f, 7⟩).v ∧ Keeps (fun _ => False) w w') := fun w => pagesOf_any ⟨p, n, f, 7⟩ w
  clear hr ho
  obtain ⟨W, hW⟩ : ∃ W, W = w.alloc (.cells #[.int .i64 p, .int .i64 n, .int .i64 f, .int .i64 7] 97) := ⟨_, rfl⟩
  obtain ⟨P, hP⟩ : ∃ P, P = w.heap.size := ⟨_, rfl⟩
  have HS : Hid (∀ w', Bls [(P, [.int .i64 p, .int .i64 n, .int .i64 f, .int .i64 7], 97), (O, [.int .i64 o.f, .int .i64 o.s], 176)] w' → (w'.cell? ⟨P, 0, none⟩ = some (.int .i64 p) ∧ w'.cell? ⟨P, 1, none⟩ = some (.int .i64 n) ∧ w'.cell? ⟨P, 2, none⟩ = some (.int .i64 f) ∧ w'.cell? ⟨P, 3, none⟩ = some (.int .i64 7) ∧ w'.cell? ⟨O, 0, none⟩ = some (.int .i64 o.f) ∧ w'.cell? ⟨O, 1, none⟩ = some (.int .i64 o.s))) := fun w' h => ⟨(h _ (.head _)).cell (i := 0) rfl, (h _ (.head _)).cell (i := 1) rfl, (h _ (.head _)).cell (i := 2) rfl, (h _ (.head _)).cell (i := 3) rfl, (h _ (.tail _ (.head _))).cell (i := 0) rfl, (h _ (.tail _ (.head _))).cell (i := 1) rfl⟩
  have HO : Hid (BI w [(P, [.int .i64 p, .int .i64 n, .int .i64 f, .int .i64 7], 97), (O, [.int .i64 o.f, .int .i64 o.s], 176)] W) := by rw [hW, hP]; exact BI.box hE _ _
  clear hE
  go_enter Tryz.func161, Tryz.ntmps161
  go_upto_region 1 with fail
  rw [← hW, ← hP]
  clear hW hP
  refine wp_region_held_drew (S := (fun w' => w'.cell? ⟨P, 0, none⟩ = some (.int .i64 p) ∧ w'.cell? ⟨P, 1, none⟩ = some (.int .i64 n) ∧ w'.cell? ⟨P, 2, none⟩ = some (.int .i64 f) ∧ w'.cell? ⟨P, 3, none⟩ = some (.int .i64 7) ∧ w'.cell? ⟨O, 0, none⟩ = some (.int .i64 o.f) ∧ w'.cell? ⟨O, 1, none⟩ = some (.int .i64 o.s))) Tryz.mixd (HS.out _ (HO.out.kept ((Keeps.refl _ _).drew)).1) (fun hHeld => ?_)
  simp only [List.size_toArray, List.length_cons, List.length_nil, Nat.reduceAdd, Array.replicate_succ, Array.replicate_zero, List.push_toArray, List.append_toArray, List.nil_append, List.cons_append]
  refine wpAnyH_take (i := 0) (oi := { dst := some 4, op := Op.fieldAddr 97 (Operand.tmp 2) 3, type := 0, pos := "partition.go:80", after := #[], guard := none }) (v := .pointer (some ⟨P, 3, none⟩)) rfl (by kernel_rfl) (by kernel_rfl) (by kernel_rfl) (fun _ _ _ h => h) (Or.inl ⟨by kernel_rfl, by (intro w hSw; (try dsimp only at hSw); go_simp)⟩) hHeld ?_
  simp only [Act.put, List.setIfInBounds_toArray, List.set_cons_zero, List.set_cons_succ]
  refine wpAnyH_take (i := 1) (oi := { dst := some 5, op := Op.load 3 (Operand.tmp 4), type := 3, pos := "partition.go:80", after := #[{ on := 0, ground := Ground.data }], guard := none }) (v := .int .i64 7) rfl (by kernel_rfl) (by kernel_rfl) (by kernel_rfl) (fun _ _ _ h => h) (Or.inl ⟨by kernel_rfl, by (intro w hSw; (try dsimp only at hSw); go_simp)⟩) hHeld ?_
  simp only [Act.put, List.setIfInBounds_toArray, List.set_cons_zero, List.set_cons_succ]
  refine wpAnyH_take (i := 2) (oi := { dst := some 6, op := Op.binOp BinOp.and 3 (Operand.tmp 5) (Operand.const (Value.int IntKind.i64 4)) 3, type := 3, pos := "partition.go:80", after := #[{ on := 1, ground := Ground.data }], guard := none }) (v := .int .i64 4) rfl (by kernel_rfl) (by kernel_rfl) (by kernel_rfl) (fun _ _ _ h => h) (Or.inl ⟨by kernel_rfl, by (intro w hSw; (try dsimp only at hSw); go_simp)⟩) hHeld ?_
  simp only [Act.put, List.setIfInBounds_toArray, List.set_cons_zero, List.set_cons_succ]
  refine wpAnyH_take (i := 3) (oi := { dst := some 7, op := Op.binOp BinOp.neq 3 (Operand.tmp 6) (Operand.const (Value.int IntKind.i64 0)) 3, type := 4, pos := "partition.go:80", after := #[{ on := 2, ground := Ground.data }], guard := none }) (v := .bool true) rfl (by kernel_rfl) (by kernel_rfl) (by kernel_rfl) (fun _ _ _ h => h) (Or.inl ⟨by kernel_rfl, by (intro w hSw; (try dsimp only at hSw); go_simp)⟩) hHeld ?_
  simp only [Act.put, List.setIfInBounds_toArray, List.set_cons_zero, List.set_cons_succ]
  refine wpAnyH_take (i := 4) (oi := { dst := some 8, op := Op.move (Operand.tmp 7), type := 4, pos := "partition.go:80", after := #[{ on := 3, ground := Ground.data }], guard := none }) (v := .bool true) rfl (by kernel_rfl) (by kernel_rfl) (by kernel_rfl) (fun _ _ _ h => h) (Or.inl ⟨by kernel_rfl, by (intro w hSw; (try dsimp only at hSw); go_simp)⟩) hHeld ?_
  simp only [Act.put, List.setIfInBounds_toArray, List.set_cons_zero, List.set_cons_succ]
  refine wpAnyH_take (i := 5) (oi := { dst := some 9, op := Op.load 97 (Operand.tmp 2), type := 97, pos := "partition.go:80", after := #[{ on := 4, ground := Ground.guard }], guard := some (4, true) }) (v := .agg #[.int .i64 p, .int .i64 n, .int .i64 f, .int .i64 7]) rfl (by kernel_rfl) (by kernel_rfl) (by kernel_rfl) (fun _ _ _ h => h) (Or.inl ⟨by kernel_rfl, by (intro w hSw; (try dsimp only at hSw); go_simp)⟩) hHeld ?_
  simp only [Act.put, List.setIfInBounds_toArray, List.set_cons_zero, List.set_cons_succ]
  refine wpAnyH_take (i := 7) (oi := { dst := some 11, op := Op.load 176 (Operand.tmp 1), type := 176, pos := "partition.go:80", after := #[{ on := 4, ground := Ground.guard }], guard := some (4, true) }) (v := .agg #[.int .i64 o.f, .int .i64 o.s]) rfl (by kernel_rfl) (by kernel_rfl) (by kernel_rfl) (fun _ _ _ h => h) (Or.inl ⟨by kernel_rfl, by (intro w hSw; (try dsimp only at hSw); go_simp)⟩) hHeld ?_
  simp only [Act.put, List.setIfInBounds_toArray, List.set_cons_zero, List.set_cons_succ]
  refine wpAnyH_ready (rs := [6]) (by kernel_rfl) (by simp) ?_
  refine AllReadyH.cons (o := { dst := some 10, op := Op.call { callee := Callee.value (Operand.func 156), args := #[Operand.tmp 9], argTypes := #[97] }, type := 176, pos := "partition.go:80", after := #[{ on := 5, ground := Ground.data }, { on := 4, ground := Ground.chain }, { on := 4, ground := Ground.guard }], guard := some (4, true) }) rfl (fun K hK => ?_) AllReadyH.nil
  go_simp
  refine (HP.out W.drew).mono ?_
  rintro r w1 ⟨rfl, hKc⟩
  have HO1 : Hid (BI w [(P, [.int .i64 p, .int .i64 n, .int .i64 f, .int .i64 7], 97), (O, [.int .i64 o.f, .int .i64 o.s], 176)] w1) := HO.out.kept (((Keeps.refl _ _).drew).trans hKc fun _ _ h => h)
  clear hKc
  refine hK.out _ _ (HS.out _ HO1.out.1) (fun hHeld => ?_)
  simp only [Act.put, List.setIfInBounds_toArray, List.set_cons_zero, List.set_cons_succ]
  refine wpAnyH_ready (rs := [8]) (by kernel_rfl) (by simp) ?_
  refine AllReadyH.cons (o := { dst := some 12, op := Op.call { callee := Callee.value (Operand.func 162), args := #[Operand.tmp 10, Operand.tmp 11], argTypes := #[176, 176] }, type := 4, pos := "partition.go:80", after := #[{ on := 6, ground := Ground.data }, { on := 7, ground := Ground.data }, { on := 6, ground := Ground.chain }, { on := 4, ground := Ground.guard }], guard := some (4, true) }) rfl (fun K hK => ?_) AllReadyH.nil
  go_simp
  refine (HM.out w1).mono ?_
  rintro r w2 ⟨rfl, hKc⟩
  have HO2 : Hid (BI w [(P, [.int .i64 p, .int .i64 n, .int .i64 f, .int .i64 7], 97), (O, [.int .i64 o.f, .int .i64 o.s], 176)] w2) := HO1.out.kept hKc
  clear hKc
  refine hK.out _ _ (HS.out _ HO2.out.1) (fun hHeld => ?_)
  simp only [Act.put, List.setIfInBounds_toArray, List.set_cons_zero, List.set_cons_succ]
  refine wpAnyH_take (i := 9) (oi := { dst := some 13, op := Op.pick (Operand.tmp 8) (Operand.tmp 12) (Operand.const (Value.bool false)), type := 4, pos := "partition.go:80", after := #[{ on := 4, ground := Ground.data }, { on := 8, ground := Ground.data }], guard := none }) (v := .bool ((Rgn.pg ⟨p, n, f, 7⟩).meets o)) rfl (by kernel_rfl) (by kernel_rfl) (by kernel_rfl) (fun _ _ _ h => h) (Or.inl ⟨by kernel_rfl, by (intro w hSw; (try dsimp only at hSw); go_simp)⟩) hHeld ?_
  simp only [Act.put, List.setIfInBounds_toArray, List.set_cons_zero, List.set_cons_succ]
  refine wpAnyH_take (i := 10) (oi := { dst := some 3, op := Op.assign (Operand.tmp 13), type := 4, pos := "partition.go:80", after := #[{ on := 9, ground := Ground.data }, { on := 8, ground := Ground.chain }, { on := 0, ground := Ground.phase }, { on := 1, ground := Ground.phase }, { on := 2, ground := Ground.phase }, { on := 3, ground := Ground.phase }, { on := 4, ground := Ground.phase }, { on := 5, ground := Ground.phase }, { on := 6, ground := Ground.phase }, { on := 7, ground := Ground.phase }, { on := 8, ground := Ground.phase }, { on := 9, ground := Ground.phase }], guard := none }) (v := .bool ((Rgn.pg ⟨p, n, f, 7⟩).meets o)) rfl (by kernel_rfl) (by kernel_rfl) (by kernel_rfl) (fun _ _ _ h => h) (Or.inl ⟨by kernel_rfl, by (intro w hSw; (try dsimp only at hSw); go_simp)⟩) hHeld ?_
  simp only [Act.put, List.setIfInBounds_toArray, List.set_cons_zero, List.set_cons_succ]
  refine wpAnyH_done (by kernel_rfl) ?_ _
  clear hHeld
  go_wp2
  go_ret
  exact ⟨rfl, HO2.out.2⟩

theorem beginClo (r : Rgn) (o : Rn) (O : Nat) (hg : 1 ≤ r.rights ∧ r.rights ≤ 7) (hr : r.pg.Ok) (ho : o.Ok) (w : World) (hE : Bls [(O, [.int .i64 o.f, .int .i64 o.s], 176)] w) :
    Calls Tryz.prog 161 #[r.v, .pointer (some ⟨O, 0, none⟩)] w fun e w' => e = .returned (.bool (r.runs o)) ∧ Keeps (fun _ => False) w w' := by
  obtain ⟨p, n, f, g⟩ := r
  dsimp only at hg
  have : g = 1 ∨ g = 2 ∨ g = 3 ∨ g = 4 ∨ g = 5 ∨ g = 6 ∨ g = 7 := by omega
  rcases this with rfl | rfl | rfl | rfl | rfl | rfl | rfl
  · exact beginClo1 p n f o O hr ho w hE
  · exact beginClo2 p n f o O hr ho w hE
  · exact beginClo3 p n f o O hr ho w hE
  · exact beginClo4 p n f o O hr ho w hE
  · exact beginClo5 p n f o O hr ho w hE
  · exact beginClo6 p n f o O hr ho w hE
  · exact beginClo7 p n f o O hr ho w hE
/-- A partition may run the word at which it begins. -/
def Par.begB (P : Par) : Bool := inR P.entry 0 4095 && P.rs.any (Rgn.runs ⟨P.entry / 16, 1⟩)
set_option maxHeartbeats 4000000 in
theorem canBegin_any (P : Par) (w : World) (hS : SegA Rgn.vs 4 w P.ra P.rs) (hlen : P.rs.length ≤ P.rc ∧ P.rc ≤ maxLen) (hr : ∀ r ∈ P.rs, (1 ≤ r.rights ∧ r.rights ≤ 7) ∧ r.pg.Ok) :
    Calls Tryz.prog 113 #[P.v] w fun e w' => e = .returned (.bool P.begB) ∧ Keeps (fun _ => False) w w' := by
  obtain ⟨name, en, ac, re, inp, ou, ra, rc, rs, pa, pc, ps⟩ := P
  dsimp only at hS hlen hr
  obtain ⟨B, hB⟩ : ∃ B, Par.begB ⟨name, en, ac, re, inp, ou, ra, rc, rs, pa, pc, ps⟩ = B := ⟨_, rfl⟩
  have HB : Hid (Par.begB ⟨name, en, ac, re, inp, ou, ra, rc, rs, pa, pc, ps⟩ = B) := hB
  rw [hB]
  clear hB
  have HC : Hid (∀ n a b w, Calls Tryz.prog 71 #[.int .i64 n, .int .i64 a, .int .i64 b] w fun e w' => e = .returned (.bool (inR n a b)) ∧ w' = w) := within_any
  obtain ⟨L, hL⟩ : ∃ L, rs.length = L := ⟨_, rfl⟩
  obtain ⟨M, hM⟩ : ∃ M, ps.length = M := ⟨_, rfl⟩
  obtain ⟨W, hW⟩ : ∃ W, W = w.alloc (.cells #[.string name, .int .i64 en, .int .i64 ac, .int .i64 re, .int .i64 inp, .int .i64 ou, .slice ra L rc, .slice pa M pc] 55) := ⟨_, rfl⟩
  obtain ⟨Q, hQ⟩ : ∃ Q, Q = w.heap.size := ⟨_, rfl⟩
  have hb : BI w [(Q, [.string name, .int .i64 en, .int .i64 ac, .int .i64 re, .int .i64 inp, .int .i64 ou, .slice ra L rc, .slice pa M pc], 55)] W := by rw [hW, hQ]; exact BI.box (fun b hb => by cases hb) _ _
  have HQ : Hid (BI w [(Q, [.string name, .int .i64 en, .int .i64 ac, .int .i64 re, .int .i64 inp, .int .i64 ou, .slice ra L rc, .slice pa M pc], 55)] W) := hb
  have c1 := (hb.1 _ (.head _)).cell (i := 1) rfl
  have c6 := (hb.1 _ (.head _)).cell (i := 6) rfl
  have HL : Hid (rs.length = L ∧ SegA Rgn.vs 4 w ra rs ∧ (rs.length ≤ rc ∧ rc ≤ maxLen) ∧ (∀ r ∈ rs, (1 ≤ r.rights ∧ r.rights ≤ 7) ∧ r.pg.Ok)) := ⟨hL, hS, hlen, hr⟩
  simp only [Par.v, hL, hM]
  clear hb hL hM hS hlen hr
  go_enter Tryz.func113, Tryz.ntmps113
  go_upto_region 1 with fail
  rw [← hW, ← hQ]
  clear hW hQ
  go_wp2_with fail
  refine (HC.out _ _ _ _).mono ?_
  rintro e w1 ⟨rfl, rfl⟩
  obtain ⟨b, hb⟩ : ∃ b, inR en 0 4095 = b := ⟨_, rfl⟩
  have HBb : Hid (inR en 0 4095 = b) := hb
  rw [hb]
  cases b with
  | false =>
    clear hb
    go_wp2
    go_ret
    refine ⟨?_, HQ.out.2⟩
    rw [← HB.out]
    unfold Par.begB
    dsimp only
    rw [HBb.out]
    rfl
  | true =>
    have hen : 0 ≤ en ∧ en ≤ 4095 := by unfold inR at hb; simpa using hb
    clear hb
    obtain ⟨z, hz⟩ : ∃ z, en / 16 = z := ⟨_, rfl⟩
    have q1 : en.tdiv 16 = z := by rw [Int.tdiv_eq_ediv_of_nonneg hen.1]; exact hz
    have hzb : 0 ≤ z ∧ z ≤ 255 := by omega
    have q2 : IntKind.i64.wrap z = z := by rw [IntKind.wrap_i64]; omega
    obtain ⟨W2, hW2⟩ : ∃ W2, W2 = w1.alloc (.cells #[.int .i64 z, .int .i64 1] 176) := ⟨_, rfl⟩
    obtain ⟨O, hO⟩ : ∃ O, O = w1.heap.size := ⟨_, rfl⟩
    have hb2 : BI w1 [(O, [.int .i64 z, .int .i64 1], 176), (Q, [.string name, .int .i64 en, .int .i64 ac, .int .i64 re, .int .i64 inp, .int .i64 ou, .slice ra L rc, .slice pa M pc], 55)] W2 := by rw [hW2, hO]; exact BI.box HQ.out.1 _ _
    have d6 := (hb2.1 _ (.tail _ (.head _))).cell (i := 6) rfl
    have kW : Keeps (fun _ => False) w W2 := HQ.out.2.trans hb2.2 fun _ _ h => h
    have HC : Hid (Calls Tryz.prog 160 #[.slice ra rs.length rc, .func (.func 161) #[] #[.pointer (some ⟨O, 0, none⟩)]] W2 fun e w' => e = .returned (.bool (rs.any (Rgn.runs ⟨z, 1⟩))) ∧ Keeps (fun _ => False) W2 w') := by
      refine containsFunc_rgn rs ra rc 161 _ (fun w' => Bls [(O, [.int .i64 z, .int .i64 1], 176)] w' ∧ SegA Rgn.vs 4 w' ra rs) _ (fun args w => enter_fn Tryz.func161 rfl rfl args w) (fun w w' h k => ⟨h.1.kept k, h.2.kept k fun _ _ _ h => h⟩) (fun w h => h.2) HL.out.2.2.1 (fun r hr1 w' h => ?_) W2 ⟨fun b hb => ?_, HL.out.2.1.kept kW fun _ _ _ h => h⟩
      · have := HL.out.2.2.2 r hr1
        exact beginClo r ⟨z, 1⟩ O this.1 this.2 (by unfold Rn.Ok I64; dsimp only; omega) w' h.1
      · rcases List.mem_cons.1 hb with rfl | hb
        · exact hb2.1 _ (.head _)
        · cases hb
    have HK : Hid (Keeps (fun _ => False) w W2) := kW
    have HF : Hid ((rs.any (Rgn.runs ⟨z, 1⟩)) = B) := by
      refine Hid.mkq ?_
      rw [← HB.out]
      unfold Par.begB
      dsimp only
      rw [HBb.out, hz, Bool.true_and]
    rw [HF.out, HL.out.1] at HC
    clear kW hb2 hz
    go_upto_region 4 with fail
    rw [← hW2, ← hO]
    clear hW2 hO c1 c6
    go_wp2_with fail
    refine HC.out.mono ?_
    rintro e w2 ⟨rfl, hK⟩
    have HK1 : Hid (Keeps (fun _ => False) w w2) := HK.out.trans hK fun _ _ h => h
    clear hK HC
    go_wp2
    go_ret
    exact ⟨rfl, HK1.out⟩
end Go.Proofs.YtfbapgcopidbpaaGreat
