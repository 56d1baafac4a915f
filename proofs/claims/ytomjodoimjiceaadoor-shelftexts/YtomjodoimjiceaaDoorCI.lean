import Derived.Test.YtomjodoimjiceaaDoorBI
import Derived.StillTail
import Derived.StillTailTactics
namespace Go.Proofs.YtomjodoimjiceaaDoor.I
open Go.RowKit Go.Shelf
set_option linter.unusedVariables false
set_option maxRecDepth 6000

theorem Tryd.mixed : Tryd.prog.follows Departure.mixedOrders = true := by kernel_rfl

/-- A region whose last operations must come last, each in its turn; those ahead of them only read. -/
theorem region_tail {id : Nat} {Q : Exit → Act → World → Prop} {a : Act} {w : World} {l : List Oper} (n : Nat) (hB : Region.lexTailB .any l.toArray n = true)
    (h : wpStill Tryd.prog l.toArray (w.drewN 1) (fun a' => wpList Tryd.prog l.toArray Q (l.drop n) a' (w.drewN 1)) (l.take n) a) : (Code.region id l.toArray true).wp Tryd.prog Q a w :=
  wp_region_still_tail n Tryd.mixed hB h

theorem wpList_delete_run {ops : Array Oper} {rest : List Oper} {o : Oper} {a : Act} {Q : Exit → Act → World → Prop} {P : Program} {w w' : World} (hgd : o.guard = none) (m x : Operand) (t k : TypeId)
    (ho : o.op = .call { callee := .builtin .delete, args := #[m, x], argTypes := #[t, k] }) (vm vx v' : Value) (hm : a.eval m = vm) (hx : a.eval x = vx)
    (hr : ∀ ty, (Builtin.delete_ #[t, k] ty #[vm, vx]).run P w = .ok v' w') (h : wpList P ops Q rest (a.put o.dst v') w') : wpList P ops Q (o :: rest) a w :=
  wpList_plain hgd fun _ hK => by
    unfold Oper.wp execOp
    simp only [ho, resolve, invoke, builtin, Sem.run_bind, Sem.run_pure, Result.andThen_ok, List.map_toArray, List.map_cons, List.map_nil, hm, hx, hr]
    exact hK _ _ h

set_option maxHeartbeats 400000 in
theorem remove_any (s m : Nat) (e x : N) (room : Nat) (A C : List N) (nw od : Nat → Nat) (w : World) (h : Sh Tryd.prog T w s m e room (A ++ x :: C) nw od) (hk : I64 x.key) :
    Calls Tryd.prog 37 #[ptr s, ptr x.blk] w fun r w' => r = .returned (.tuple #[]) ∧ (∃ nw' od', Sh Tryd.prog T w' s m e room (A ++ C) nw' od') ∧ Keeps (Own s m e (A ++ x :: C)) w w' ∧ w'.cell? ⟨x.blk, 0, none⟩ = some (.int .i64 x.key) := by
  have c1 := h.cells.2.1
  have hx := h.ring.nodes x (by simp)
  have k0 := hx.cell (i := 0) rfl
  have hm1 : MapIs Tryd.prog 3 (w.drewN 1) m (mapOf A ++ (.int .i64 x.key, ptr x.blk) :: mapOf C) := by
    have := (h.drewN 1).map
    simp [mapOf] at this ⊢
    exact this
  obtain ⟨w1, hr, hm2, hK1⟩ := hm1.drop keyed Tryd.underlying83 (key_of hk)
  have HD : Hid (∀ ty, (Builtin.delete_ #[83, 3] ty #[.map (some m), .int .i64 x.key]).run Tryd.prog (w.drewN 1) = .ok (.tuple #[]) w1) := hr
  have hR1 : Rg w1 82 e (A ++ x :: C) nw od := (h.drewN 1).ring.kept hK1 fun z hz he => h.mx z hz he
  have b1 : Blk w1 s [.int .i64 room, .map (some m), ptr e.blk] 85 := (h.drewN 1).blk.kept hK1 h.sm
  have HC : Hid (Calls _ _ _ _ _) := leave_any e x A C nw od w1 hR1
  have hnx : ∀ z ∈ e :: (A ++ C), x.blk ≠ z.blk := by
    have nd := h.ring.nodup
    have h1 : (x.blk :: e.blk :: (A ++ C).map N.blk).Nodup := by
      refine (List.Perm.nodup_iff ?_).1 nd
      rw [List.map_append, List.map_cons, List.map_append]
      exact (List.Perm.cons _ List.perm_middle).trans (List.Perm.swap _ _ _)
    intro z hz he
    refine (List.nodup_cons.1 h1).1 ?_
    rw [he]
    rcases List.mem_cons.1 hz with h | h
    · simp [h]
    · exact List.mem_cons_of_mem _ (List.mem_map.2 ⟨z, h, rfl⟩)
  have HH : Hid (Sh Tryd.prog T w s m e room (A ++ x :: C) nw od ∧ Blk w1 s [.int .i64 room, .map (some m), ptr e.blk] 85 ∧ MapIs Tryd.prog 3 w1 m (mapOf A ++ mapOf C) ∧ Keeps (fun b => b = m) w w1 ∧ Rg w1 82 e (A ++ x :: C) nw od ∧ ∀ z ∈ e :: (A ++ C), x.blk ≠ z.blk) :=
    ⟨h, b1, hm2, ((Keeps.refl _ w).drewN 1).trans hK1 (fun _ _ h => h), hR1, hnx⟩
  clear h hx hm1 hr hm2 hK1 hR1 b1 hnx hk
  go_enter Tryd.func37, Tryd.ntmps37
  go_wp2_with fail
  refine region_tail 9 (by kernel_rfl) ?_
  simp only [List.take_succ_cons, List.take_zero, List.drop_succ_cons, List.drop_zero]
  repeat still_step
  refine wpStill_nil ?_
  go_wp2_with (at_delete; refine wpList_delete_run rfl (.tmp 7) (.tmp 12) 83 3 rfl (.map (some m)) (.int .i64 x.key) (.tuple #[]) rfl rfl HD.out ?_; refine Hid.out ?_)
  unfold Hid
  clear c1 k0
  go_wp2_with fail
  refine HC.out.mono ?_
  rintro r w2 ⟨rfl, ⟨nw2, od2, hR2⟩, hK2⟩
  have H2 : Hid (Rg w2 82 e (A ++ C) nw2 od2 ∧ Keeps (fun b => ∃ z ∈ e :: (A ++ C), b = z.blk) w1 w2) := ⟨hR2, hK2⟩
  clear hR2 hK2 HC HD
  go_wp2
  go_end0
  obtain ⟨hS, b1, m1, hK1, hR1, hnx⟩ := HH.out
  obtain ⟨hR2, hK2⟩ := H2.out
  have hall : ∀ z ∈ e :: (A ++ C), z ∈ e :: (A ++ x :: C) := by
    intro z hz; simp at hz ⊢; rcases hz with h | h | h <;> simp [h]
  refine ⟨rfl, ⟨nw2, od2, ⟨b1.kept hK2 fun ⟨z, hz, he⟩ => hS.sx z (hall z hz) he.symm, ?_, hR2, hS.sm, fun z hz => hS.sx z (hall z hz), fun z hz => hS.mx z (hall z hz), hS.lo, hS.hi, ?_⟩⟩, ?_, ?_⟩
  · have : mapOf (A ++ C) = mapOf A ++ mapOf C := by simp [mapOf]
    show MapIs Tryd.prog 3 w2 m (mapOf (A ++ C))
    rw [this]
    exact m1.kept hK2 fun ⟨z, hz, he⟩ => hS.mx z (hall z hz) he.symm
  · have := hS.fits; simp at this ⊢; omega
  · exact (hK1.mono fun b _ he => .inr (.inl he)).trans hK2 fun b _ ⟨z, hz, he⟩ => .inr (.inr ⟨z, hall z hz, he⟩)
  · exact ((hR1.nodes x (by simp)).kept hK2 fun ⟨z, hz, he⟩ => hnx z hz he).cell rfl

set_option maxHeartbeats 400000 in
theorem add_any (s m : Nat) (e : N) (room : Nat) (xs : List N) (nw od : Nat → Nat) (k : Int) (n : Int) (w : World) (h : Sh Tryd.prog T w s m e room xs nw od) (hk : I64 k) (hn : ∀ x ∈ xs, x.key ≠ k) (hf : xs.length < room)
    :
    Calls Tryd.prog 36 #[ptr s, .int .i64 k, (.int .i64 n)] w fun r w' => r = .returned (.tuple #[]) ∧ (∃ nw' od', Sh Tryd.prog T w' s m e room (xs ++ [⟨w.heap.size, k, (.int .i64 n)⟩]) nw' od') ∧ Keeps (Own s m e xs) w w' := by
  obtain ⟨w1, hw1⟩ : ∃ w1, w1 = w.alloc (.cells #[.int .i64 k, (.int .i64 n), .pointer none, .pointer none] 82) := ⟨_, rfl⟩
  have hK1 : Keeps (fun _ => False) w w1 := by rw [hw1]; exact (Keeps.refl _ w).alloc _
  have hp1 : Blk w1 w.heap.size [.int .i64 k, (.int .i64 n), .pointer none, .pointer none] 82 := by rw [hw1]; exact Blk.new w _ 82
  have h1 := h.kept hK1 fun _ _ h => h
  have hlt : ∀ b, Own s m e xs b → b < w.heap.size := by
    rintro b (rfl | rfl | ⟨z, hz, rfl⟩)
    · exact h.blk.lt
    · exact h.map.lt
    · exact (h.ring.nodes z hz).lt
  have hroom : (mapOf xs).length < maxLen := by
    have := h.hi; unfold mapOf maxLen; simp; omega
  obtain ⟨w2, hr, hm2, hK2⟩ := h1.map.store keyed Tryd.underlying83 (v := ptr w.heap.size) (key_of hk) hroom (by
    intro p hp he
    obtain ⟨x, hx, rfl⟩ := List.mem_map.1 hp
    simp at he
    exact hn x hx he)
  have c1 := h1.cells.2.1
  rw [hw1] at c1
  have hR2 : Rg w2 82 e xs nw od := h1.ring.kept hK2 fun z hz he => h.mx z hz he
  have b2 : Blk w2 s [.int .i64 room, .map (some m), ptr e.blk] 85 := h1.blk.kept hK2 h.sm
  have p2 : Blk w2 w.heap.size [.int .i64 k, (.int .i64 n), .pointer none, .pointer none] 82 := hp1.kept hK2 fun he => by have := hlt m (.inr (.inl rfl)); omega
  have c2 := b2.cell (i := 2) rfl
  have hnx : ∀ z ∈ e :: xs, w.heap.size ≠ z.blk := fun z hz he => by have := hlt z.blk (.inr (.inr ⟨z, hz, rfl⟩)); omega
  have HC : Hid (Calls Tryd.prog 53 #[ptr w.heap.size, ptr e.blk] w2 _) := enter_any e ⟨w.heap.size, k, (.int .i64 n)⟩ xs nw od w2 _ _ hR2 p2 hnx
  have HU : Hid ((Instr.mapUpdate 83 (.map (some m)) (.int .i64 k) (ptr w.heap.size)).run Tryd.prog w1 = .ok () w2) := hr
  have HH : Hid (Sh Tryd.prog T w s m e room xs nw od ∧ Blk w2 s [.int .i64 room, .map (some m), ptr e.blk] 85 ∧ MapIs Tryd.prog 3 w2 m ((.int .i64 k, ptr w.heap.size) :: mapOf xs) ∧ Keeps (fun b => b = m) w w2 ∧ (∀ z ∈ e :: xs, w.heap.size ≠ z.blk) ∧ (∀ b, Own s m e xs b → b < w.heap.size) ∧ xs.length < room) :=
    ⟨h, b2, hm2, (hK1.mono fun b _ h => h.elim).trans hK2 (fun _ _ h => h), hnx, hlt, hf⟩
  clear h h1 hp1 hK1 hlt hroom hr hm2 hK2 hR2 b2 p2 hnx hn hf hk
  have HW : Hid (w1 = _) := hw1
  clear hw1
  go_enter Tryd.func36, Tryd.ntmps36
  go_wp2_with (at_mapUpdate; rw [← HW.out]; refine wpList_update_run rfl (.tmp 15) (.tmp 16) (.tmp 17) 83 rfl (.map (some m)) (.int .i64 k) (ptr w.heap.size) rfl rfl rfl HU.out ?_; refine Hid.out ?_)
  unfold Hid
  clear c1
  go_wp2_with fail
  refine HC.out.mono ?_
  rintro r w3 ⟨rfl, ⟨nw2, od2, hR3⟩, hK3⟩
  have H3 : Hid (Rg w3 82 e (xs ++ [⟨w.heap.size, k, (.int .i64 n)⟩]) nw2 od2 ∧ Keeps (fun b => ∃ z ∈ e :: (xs ++ [⟨w.heap.size, k, (.int .i64 n)⟩]), b = z.blk) w2 w3) := ⟨hR3, hK3⟩
  clear hR3 hK3 HC HU c2
  go_wp2
  go_end0
  obtain ⟨hS, b2, m2, hK2, hnx, hlt, hf⟩ := HH.out
  obtain ⟨hR3, hK3⟩ := H3.out
  have hcase : ∀ z ∈ e :: (xs ++ [(⟨w.heap.size, k, (.int .i64 n)⟩ : N)]), z ∈ e :: xs ∨ z = ⟨w.heap.size, k, (.int .i64 n)⟩ := by
    intro z hz; simp at hz ⊢; rcases hz with h | h | h <;> simp [h]
  have sx : ∀ z ∈ e :: (xs ++ [(⟨w.heap.size, k, (.int .i64 n)⟩ : N)]), z.blk ≠ s := by
    intro z hz
    rcases hcase z hz with h | rfl
    · exact hS.sx z h
    · intro he; have := hlt s (.inl rfl); simp at he; omega
  have mx : ∀ z ∈ e :: (xs ++ [(⟨w.heap.size, k, (.int .i64 n)⟩ : N)]), z.blk ≠ m := by
    intro z hz
    rcases hcase z hz with h | rfl
    · exact hS.mx z h
    · intro he; have := hlt m (.inr (.inl rfl)); simp at he; omega
  refine ⟨rfl, ⟨nw2, od2, ⟨b2.kept hK3 fun ⟨z, hz, he⟩ => sx z hz he.symm, ?_, hR3, hS.sm, sx, mx, hS.lo, hS.hi, ?_⟩⟩, ?_⟩
  · show MapIs Tryd.prog 3 w3 m (mapOf (xs ++ [⟨w.heap.size, k, (.int .i64 n)⟩]))
    refine (m2.perm ?_).kept hK3 fun ⟨z, hz, he⟩ => mx z hz he.symm
    have : mapOf (xs ++ [⟨w.heap.size, k, (.int .i64 n)⟩]) = mapOf xs ++ [(.int .i64 k, ptr w.heap.size)] := by simp [mapOf]
    rw [this]
    exact (List.perm_append_singleton _ _).symm
  · simp; omega
  · refine (hK2.mono fun b _ he => .inr (.inl he)).trans hK3 fun b hb ⟨z, hz, he⟩ => ?_
    rcases hcase z hz with h | rfl
    · exact .inr (.inr ⟨z, h, he⟩)
    · simp at he; omega

end Go.Proofs.YtomjodoimjiceaaDoor.I
