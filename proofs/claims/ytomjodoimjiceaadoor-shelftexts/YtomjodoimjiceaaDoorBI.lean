import Derived.Test.YtomjodoimjiceaaDoorAI
namespace Go.Proofs.YtomjodoimjiceaaDoor.I
open Go.RowKit Go.Shelf
set_option linter.unusedVariables false
set_option maxRecDepth 6000

abbrev I64 (k : Int) : Prop := -9223372036854775808 ≤ k ∧ k ≤ 9223372036854775807

theorem keyed : Maps.Keyed Tryd.prog 3 := Maps.int_keyed Tryd.underlying3
theorem key_of {k : Int} (h : I64 k) : keyOf Tryd.prog 3 (.int .i64 k) = some (.int .i64 k) := by
  refine Maps.keyOf_int_mk Tryd.underlying3 ?_
  have h1 : IntKind.i64.min = -9223372036854775808 := rfl
  have h2 : IntKind.i64.max = 9223372036854775807 := rfl
  simp [Lit.wf, h1, h2]
  omega

/-- The builtins and the map's operations, where their run is known. -/
theorem wpList_lookup_run {ops : Array Oper} {rest : List Oper} {o : Oper} {a : Act} {Q : Exit → Act → World → Prop} {P : Program} {w : World} (hgd : o.guard = none) (m x : Operand) (t : TypeId)
    (ho : o.op = .lookup t m x false) (vm vx v' : Value) (hm : a.eval m = vm) (hx : a.eval x = vx)
    (hr : (Instr.lookup t vm vx false).run P w = .ok v' w) (h : wpList P ops Q rest (a.put o.dst v') w) : wpList P ops Q (o :: rest) a w :=
  wpList_plain hgd fun _ hK => by
    unfold Oper.wp execOp
    simp only [ho, hm, hx, hr, Sem.run_bind, Sem.run_pure, Result.andThen_ok]
    exact hK _ _ h

theorem wpList_update_run {ops : Array Oper} {rest : List Oper} {o : Oper} {a : Act} {Q : Exit → Act → World → Prop} {P : Program} {w w' : World} (hgd : o.guard = none) (m x v : Operand) (t : TypeId)
    (ho : o.op = .mapUpdate t m x v) (vm vx vv : Value) (hm : a.eval m = vm) (hx : a.eval x = vx) (hv : a.eval v = vv)
    (hr : (Instr.mapUpdate t vm vx vv).run P w = .ok () w') (h : wpList P ops Q rest (a.put o.dst undef) w') : wpList P ops Q (o :: rest) a w :=
  wpList_plain hgd fun _ hK => by
    unfold Oper.wp
    simp [execOp, ho, hm, hx, hv, hr, Result.andThen]
    exact hK _ _ h

theorem wpList_len_run {ops : Array Oper} {rest : List Oper} {o : Oper} {a : Act} {Q : Exit → Act → World → Prop} {P : Program} {w : World} (hgd : o.guard = none) (m : Operand) (t : TypeId)
    (ho : o.op = .call { callee := .builtin .len, args := #[m], argTypes := #[t] }) (vm v' : Value) (hm : a.eval m = vm)
    (hr : ∀ ty, (Builtin.len_ #[t] ty #[vm]).run P w = .ok v' w) (h : wpList P ops Q rest (a.put o.dst v') w) : wpList P ops Q (o :: rest) a w :=
  wpList_plain hgd fun _ hK => by
    unfold Oper.wp execOp
    simp only [ho, resolve, invoke, builtin, Sem.run_bind, Sem.run_pure, Result.andThen_ok, List.map_toArray, List.map_cons, List.map_nil, hm, hr]
    exact hK _ _ h

theorem find_walk (s m : Nat) (k : Int) (v : Value) (w : World) (c1 : w.cell? ⟨s, 1, none⟩ = some (.map (some m))) (HL : Hid ((Instr.lookup 83 (.map (some m)) (.int .i64 k) false).run Tryd.prog w = .ok v w)) :
    Calls Tryd.prog 34 #[ptr s, .int .i64 k] w fun r w' => r = .returned v ∧ w' = w := by
  go_enter Tryd.func34, Tryd.ntmps34
  go_wp2_with (at_lookup; refine wpList_lookup_run rfl (.tmp 10) (.tmp 11) 83 rfl (.map (some m)) (.int .i64 k) v rfl rfl HL.out ?_)
  go_ret
  exact ⟨rfl, rfl⟩

theorem zeroPP (w : World) : (zeroValue 78).run Tryd.prog w = .ok (.pointer none) w := by kernel_rfl

theorem find_none (s m : Nat) (e : N) (room : Nat) (xs : List N) (nw od : Nat → Nat) (k : Int) (w : World) (h : Sh Tryd.prog T w s m e room xs nw od) (hk : I64 k) (hn : ∀ x ∈ xs, x.key ≠ k) :
    Calls Tryd.prog 34 #[ptr s, .int .i64 k] w fun r w' => r = .returned (.pointer none) ∧ w' = w := by
  refine find_walk s m k _ w h.cells.2.1 (h.map.look_none keyed Tryd.underlying83 (zeroPP w) (key_of hk) ?_)
  intro p hp he
  obtain ⟨x, hx, rfl⟩ := List.mem_map.1 hp
  simp at he
  exact hn x hx he

theorem find_some (s m : Nat) (e x : N) (room : Nat) (A C : List N) (nw od : Nat → Nat) (w : World) (h : Sh Tryd.prog T w s m e room (A ++ x :: C) nw od) (hk : I64 x.key) :
    Calls Tryd.prog 34 #[ptr s, .int .i64 x.key] w fun r w' => r = .returned (ptr x.blk) ∧ w' = w := by
  refine find_walk s m x.key _ w h.cells.2.1 (h.map.look_some keyed Tryd.underlying83 (key_of hk) ?_)
  simp [mapOf]

theorem find_nil (k : Int) (w : World) : Calls Tryd.prog 34 #[.pointer none, .int .i64 k] w fun r w' => r = .returned (.pointer none) ∧ w' = w := by
  go_enter Tryd.func34, Tryd.ntmps34
  go_wp2
  go_ret
  exact ⟨rfl, rfl⟩

theorem told_some (b : Nat) (v : Value) (w : World) (c1 : w.cell? ⟨b, 1, none⟩ = some v) : Calls Tryd.prog 38 #[ptr b] w fun r w' => r = .returned (.tuple #[v, .bool true]) ∧ w' = w := by
  go_enter Tryd.func38, Tryd.ntmps38
  go_wp2
  go_ret2
  exact ⟨rfl, rfl⟩

theorem told_none (w : World) : Calls Tryd.prog 38 #[.pointer none] w fun r w' => r = .returned (.tuple #[.int .i64 0, .bool false]) ∧ w' = w := by
  go_enter Tryd.func38, Tryd.ntmps38
  go_wp2
  go_ret2
  exact ⟨rfl, rfl⟩

/-- One place more. -/
theorem perm_last {α : Type} (A : List α) (x : α) (C : List α) : (A ++ x :: C).Perm (A ++ C ++ [x]) := by
  rw [List.append_assoc]
  exact List.Perm.append_left A (List.perm_append_singleton x C).symm

set_option maxHeartbeats 400000 in
theorem renew_any (s m : Nat) (e x : N) (room : Nat) (A C : List N) (nw od : Nat → Nat) (w : World) (h : Sh Tryd.prog T w s m e room (A ++ x :: C) nw od) :
    Calls Tryd.prog 35 #[ptr s, ptr x.blk] w fun r w' => r = .returned (.tuple #[]) ∧ (∃ nw' od', Sh Tryd.prog T w' s m e room (A ++ C ++ [x]) nw' od') ∧ Keeps (Own s m e (A ++ x :: C)) w w' := by
  have HC : Hid (Calls _ _ _ _ _) := leave_any e x A C nw od w h.ring
  have HS : Hid (Sh Tryd.prog T w s m e room (A ++ x :: C) nw od) := h
  clear h
  go_enter Tryd.func35, Tryd.ntmps35
  go_wp2_with fail
  refine HC.out.mono ?_
  rintro r w1 ⟨rfl, ⟨nw1, od1, hR⟩, hK⟩
  have hS := HS.out
  have nd : (e.blk :: (A ++ x :: C).map N.blk).Nodup := hS.ring.nodup
  have hnx : ∀ z ∈ e :: (A ++ C), x.blk ≠ z.blk := by
    have h1 : (x.blk :: e.blk :: (A ++ C).map N.blk).Nodup := by
      refine (List.Perm.nodup_iff ?_).1 nd
      rw [List.map_append, List.map_cons, List.map_append]
      exact (List.Perm.cons _ List.perm_middle).trans (List.Perm.swap _ _ _)
    intro z hz he
    refine (List.nodup_cons.1 h1).1 ?_
    rw [he]
    rcases List.mem_cons.1 hz with h | h
    · simp [h]
    · exact List.mem_cons_of_mem _ (List.mem_map.2 ⟨z, h, rfl⟩)
  have hsub : ∀ z ∈ e :: (A ++ C), z ∈ e :: (A ++ x :: C) := by
    intro z hz; simp at hz ⊢; rcases hz with h | h | h <;> simp [h]
  have b1 : Blk w1 s [.int .i64 room, .map (some m), ptr e.blk] 85 := hS.blk.kept hK fun ⟨z, hz, he⟩ => hS.sx z (hsub z hz) he.symm
  have m1 : MapIs Tryd.prog 3 w1 m (mapOf (A ++ x :: C)) := hS.map.kept hK fun ⟨z, hz, he⟩ => hS.mx z (hsub z hz) he.symm
  have x1 := (hS.ring.nodes x (by simp)).kept hK fun ⟨z, hz, he⟩ => hnx z hz he
  have c2 := b1.cell (i := 2) rfl
  have HC2 : Hid (Calls _ _ _ _ _) := enter_any e x (A ++ C) nw1 od1 w1 _ _ hR x1 hnx
  have H1 : Hid (_ ∧ _ ∧ _ ∧ Keeps _ w w1) := ⟨b1, m1, hnx, hK⟩
  clear hS nd hsub b1 m1 x1 hnx hK hR HC
  go_wp2_with fail
  refine HC2.out.mono ?_
  rintro r w2 ⟨rfl, ⟨nw2, od2, hR2⟩, hK2⟩
  obtain ⟨b1, m1, hnx, hK⟩ := H1.out
  have H2 : Hid (Rg w2 82 e (A ++ C ++ [x]) nw2 od2 ∧ Blk w1 s [.int .i64 room, .map (some m), ptr e.blk] 85 ∧ MapIs Tryd.prog 3 w1 m (mapOf (A ++ x :: C)) ∧ Keeps (fun b => ∃ z ∈ e :: (A ++ C), b = z.blk) w w1 ∧ Keeps (fun b => ∃ z ∈ e :: (A ++ C ++ [x]), b = z.blk) w1 w2) := ⟨hR2, b1, m1, hK, hK2⟩
  clear H1 b1 m1 hnx hK hK2 hR2 HC2 c2
  go_wp2
  go_end0
  obtain ⟨hR2, b1, m1, hK, hK2⟩ := H2.out
  have hS := HS.out
  have hall : ∀ z ∈ e :: (A ++ C ++ [x]), z ∈ e :: (A ++ x :: C) := by
    intro z hz; simp at hz ⊢; rcases hz with h | h | h | h <;> simp [h]
  refine ⟨rfl, ⟨nw2, od2, ⟨b1.kept hK2 fun ⟨z, hz, he⟩ => hS.sx z (hall z hz) he.symm, (m1.perm ?_).kept hK2 fun ⟨z, hz, he⟩ => hS.mx z (hall z hz) he.symm, hR2, hS.sm, fun z hz => hS.sx z (hall z hz), fun z hz => hS.mx z (hall z hz), hS.lo, hS.hi, ?_⟩⟩, ?_⟩
  · exact (perm_last A x C).map _
  · have := hS.fits; simp at this ⊢; omega
  · refine (hK.mono fun b _ ⟨z, hz, he⟩ => .inr (.inr ⟨z, ?_, he⟩)).trans hK2 fun b _ ⟨z, hz, he⟩ => .inr (.inr ⟨z, hall z hz, he⟩)
    simp at hz ⊢; rcases hz with h | h | h <;> simp [h]

end Go.Proofs.YtomjodoimjiceaaDoor.I
