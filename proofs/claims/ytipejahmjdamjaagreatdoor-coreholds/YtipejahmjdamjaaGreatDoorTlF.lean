import Derived.Test.YtipejahmjdamjaaGreatDoorTlB
import Derived.StillTail
import Derived.StillTailTactics
namespace Go.Proofs.YtipejahmjdamjaaGreatDoor.Tl
open Go.RowKit Go.Shelf
set_option linter.unusedVariables false
set_option maxRecDepth 6000

theorem Tryz.mixed : Tryz.prog.follows Departure.mixedOrders = true := by kernel_rfl

/-- A region whose last operations must come last, each in its turn; those ahead of them only read. -/
theorem region_tail {id : Nat} {Q : Exit → Act → World → Prop} {a : Act} {w : World} {l : List Oper} (n : Nat) (hB : Region.lexTailB .any l.toArray n = true)
    (h : wpStill Tryz.prog l.toArray (w.drewN 1) (fun a' => wpList Tryz.prog l.toArray Q (l.drop n) a' (w.drewN 1)) (l.take n) a) : (Code.region id l.toArray true).wp Tryz.prog Q a w :=
  wp_region_still_tail n Tryz.mixed hB h

theorem wpList_delete_run {ops : Array Oper} {rest : List Oper} {o : Oper} {a : Act} {Q : Exit → Act → World → Prop} {P : Program} {w w' : World} (hgd : o.guard = none) (m x : Operand) (t k : TypeId)
    (ho : o.op = .call { callee := .builtin .delete, args := #[m, x], argTypes := #[t, k] }) (vm vx v' : Value) (hm : a.eval m = vm) (hx : a.eval x = vx)
    (hr : ∀ ty, (Builtin.delete_ #[t, k] ty #[vm, vx]).run P w = .ok v' w') (h : wpList P ops Q rest (a.put o.dst v') w') : wpList P ops Q (o :: rest) a w :=
  wpList_plain hgd fun _ hK => by
    unfold Oper.wp execOp
    simp only [ho, resolve, invoke, builtin, Sem.run_bind, Sem.run_pure, Result.andThen_ok, List.map_toArray, List.map_cons, List.map_nil, hm, hx, hr]
    exact hK _ _ h

set_option maxHeartbeats 400000 in
theorem remove_any (s m : Nat) (e x : N) (room : Nat) (A C : List N) (nw od : Nat → Nat) (w : World) (h : Sh Tryz.prog T w s m e room (A ++ x :: C) nw od) (hk : I64 x.key) :
    Calls Tryz.prog 173 #[ptr s, ptr x.blk] w fun r w' => r = .returned (.tuple #[]) ∧ (∃ nw' od', Sh Tryz.prog T w' s m e room (A ++ C) nw' od') ∧ Keeps (Own s m e (A ++ x :: C)) w w' ∧ w'.cell? ⟨x.blk, 0, none⟩ = some (.int .i64 x.key) := by
  have c1 := h.cells.2.1
  have hx := h.ring.nodes x (by simp)
  have k0 := hx.cell (i := 0) rfl
  have hm1 : MapIs Tryz.prog 3 (w.drewN 1) m (mapOf A ++ (.int .i64 x.key, ptr x.blk) :: mapOf C) := by
    have := (h.drewN 1).map
    simp [mapOf] at this ⊢
    exact this
  obtain ⟨w1, hr, hm2, hK1⟩ := hm1.drop keyed Tryz.underlying169 (key_of hk)
  have HD : Hid (∀ ty, (Builtin.delete_ #[169, 3] ty #[.map (some m), .int .i64 x.key]).run Tryz.prog (w.drewN 1) = .ok (.tuple #[]) w1) := hr
  have hR1 : Rg w1 168 e (A ++ x :: C) nw od := (h.drewN 1).ring.kept hK1 fun z hz he => h.mx z hz he
  have b1 : Blk w1 s [.int .i64 room, .map (some m), ptr e.blk] 171 := (h.drewN 1).blk.kept hK1 h.sm
  have HC : Hid (Calls _ _ _ _ _) := leave_any e x A C nw od w1 hR1
  have hnx : ∀ z ∈ e :: (A ++ C), x.blk ≠ z.blk := by
    have nd := h.ring.nodup
    have h1 : (x.blk :: e.blk :: (A ++ C).map N.blk).Nodup := by
      refine (List.Perm.nodup_iff ?_).1 nd
      rw [List.map_append, List.map_cons, List.map_append]
      exact (List.Perm.cons _ List.perm_middle).trans (List.Perm.swap _ _ _)
    intro z hz he
    refine (List.nodup_cons.1 h1).1 ?_
    rw [he]
    rcases List.mem_cons.1 hz with h | h
    · simp [h]
    · exact List.mem_cons_of_mem _ (List.mem_map.2 ⟨z, h, rfl⟩)
  have HH : Hid (Sh Tryz.prog T w s m e room (A ++ x :: C) nw od ∧ Blk w1 s [.int .i64 room, .map (some m), ptr e.blk] 171 ∧ MapIs Tryz.prog 3 w1 m (mapOf A ++ mapOf C) ∧ Keeps (fun b => b = m) w w1 ∧ Rg w1 168 e (A ++ x :: C) nw od ∧ ∀ z ∈ e :: (A ++ C), x.blk ≠ z.blk) :=
    ⟨h, b1, hm2, ((Keeps.refl _ w).drewN 1).trans hK1 (fun _ _ h => h), hR1, hnx⟩
  clear h hx hm1 hr hm2 hK1 hR1 b1 hnx hk
  go_enter Tryz.func173, Tryz.ntmps173
  go_wp2_with fail
  refine region_tail 9 (by kernel_rfl) ?_
  simp only [List.take_succ_cons, List.take_zero, List.drop_succ_cons, List.drop_zero]
  repeat still_step
  refine wpStill_nil ?_
  go_wp2_with (at_delete; refine wpList_delete_run rfl (.tmp 7) (.tmp 12) 169 3 rfl (.map (some m)) (.int .i64 x.key) (.tuple #[]) rfl rfl HD.out ?_; refine Hid.out ?_)
  unfold Hid
  clear c1 k0
  go_wp2_with fail
  refine HC.out.mono ?_
  rintro r w2 ⟨rfl, ⟨nw2, od2, hR2⟩, hK2⟩
  have H2 : Hid (Rg w2 168 e (A ++ C) nw2 od2 ∧ Keeps (fun b => ∃ z ∈ e :: (A ++ C), b = z.blk) w1 w2) := ⟨hR2, hK2⟩
  clear hR2 hK2 HC HD
  go_wp2
  go_end0
  obtain ⟨hS, b1, m1, hK1, hR1, hnx⟩ := HH.out
  obtain ⟨hR2, hK2⟩ := H2.out
  have hall : ∀ z ∈ e :: (A ++ C), z ∈ e :: (A ++ x :: C) := by
    intro z hz; simp at hz ⊢; rcases hz with h | h | h <;> simp [h]
  refine ⟨rfl, ⟨nw2, od2, ⟨b1.kept hK2 fun ⟨z, hz, he⟩ => hS.sx z (hall z hz) he.symm, ?_, hR2, hS.sm, fun z hz => hS.sx z (hall z hz), fun z hz => hS.mx z (hall z hz), hS.lo, hS.hi, ?_⟩⟩, ?_, ?_⟩
  · have : mapOf (A ++ C) = mapOf A ++ mapOf C := by simp [mapOf]
    show MapIs Tryz.prog 3 w2 m (mapOf (A ++ C))
    rw [this]
    exact m1.kept hK2 fun ⟨z, hz, he⟩ => hS.mx z (hall z hz) he.symm
  · have := hS.fits; simp at this ⊢; omega
  · exact (hK1.mono fun b _ he => .inr (.inl he)).trans hK2 fun b _ ⟨z, hz, he⟩ => .inr (.inr ⟨z, hall z hz, he⟩)
  · exact ((hR1.nodes x (by simp)).kept hK2 fun ⟨z, hz, he⟩ => hnx z hz he).cell rfl

set_option maxHeartbeats 1000000 in
theorem add_any (s m : Nat) (e : N) (room : Nat) (xs : List N) (nw od : Nat → Nat) (k : Int) (l : Lf) (w : World) (h : Sh Tryz.prog T w s m e room xs nw od) (hk : I64 k) (hn : ∀ x ∈ xs, x.key ≠ k) (hf : xs.length < room)
    :
    Calls Tryz.prog 172 #[ptr s, .int .i64 k, l.v] w fun r w' => r = .returned (.tuple #[]) ∧ (∃ nw' od', Sh Tryz.prog T w' s m e room (xs ++ [⟨w.heap.size + 1, k, l⟩]) nw' od') ∧ Keeps (Own s m e xs) w w' := by
  obtain ⟨w1, hw1⟩ : ∃ w1, w1 = (w.alloc (.cells #[.int .i64 l.p, .int .i64 l.f, .int .i64 l.r] 64)).alloc (.cells #[.int .i64 k, .int .i64 l.p, .int .i64 l.f, .int .i64 l.r, .pointer none, .pointer none] 168) := ⟨_, rfl⟩
  have hK1 : Keeps (fun _ => False) w w1 := by rw [hw1]; exact ((Keeps.refl _ w).alloc _).alloc _
  have hp1 : Blk w1 (w.heap.size + 1) [.int .i64 k, .int .i64 l.p, .int .i64 l.f, .int .i64 l.r, .pointer none, .pointer none] 168 := by rw [hw1, show w.heap.size + 1 = (w.alloc (.cells #[.int .i64 l.p, .int .i64 l.f, .int .i64 l.r] 64)).heap.size by simp]; exact Blk.new _ _ 168
  have h1 := h.kept hK1 fun _ _ h => h
  have hlt : ∀ b, Own s m e xs b → b < w.heap.size := by
    rintro b (rfl | rfl | ⟨z, hz, rfl⟩)
    · exact h.blk.lt
    · exact h.map.lt
    · exact (h.ring.nodes z hz).lt
  have hroom : (mapOf xs).length < maxLen := by
    have := h.hi; unfold mapOf maxLen; simp; omega
  obtain ⟨w2, hr, hm2, hK2⟩ := h1.map.store keyed Tryz.underlying169 (v := ptr (w.heap.size + 1)) (key_of hk) hroom (by
    intro p hp he
    obtain ⟨x, hx, rfl⟩ := List.mem_map.1 hp
    simp at he
    exact hn x hx he)
  have c1 := h1.cells.2.1
  rw [hw1] at c1
  have hR2 : Rg w2 168 e xs nw od := h1.ring.kept hK2 fun z hz he => h.mx z hz he
  have b2 : Blk w2 s [.int .i64 room, .map (some m), ptr e.blk] 171 := h1.blk.kept hK2 h.sm
  have p2 : Blk w2 (w.heap.size + 1) [.int .i64 k, .int .i64 l.p, .int .i64 l.f, .int .i64 l.r, .pointer none, .pointer none] 168 := hp1.kept hK2 fun he => by have := hlt m (.inr (.inl rfl)); omega
  have c2 := b2.cell (i := 2) rfl
  have hnx : ∀ z ∈ e :: xs, w.heap.size + 1 ≠ z.blk := fun z hz he => by have := hlt z.blk (.inr (.inr ⟨z, hz, rfl⟩)); omega
  have HC : Hid (Calls Tryz.prog 199 #[ptr (w.heap.size + 1), ptr e.blk] w2 _) := enter_any e ⟨w.heap.size + 1, k, l⟩ xs nw od w2 _ _ hR2 p2 hnx
  have HU : Hid ((Instr.mapUpdate 169 (.map (some m)) (.int .i64 k) (ptr (w.heap.size + 1))).run Tryz.prog w1 = .ok () w2) := hr
  have HH : Hid (Sh Tryz.prog T w s m e room xs nw od ∧ Blk w2 s [.int .i64 room, .map (some m), ptr e.blk] 171 ∧ MapIs Tryz.prog 3 w2 m ((.int .i64 k, ptr (w.heap.size + 1)) :: mapOf xs) ∧ Keeps (fun b => b = m) w w2 ∧ (∀ z ∈ e :: xs, w.heap.size + 1 ≠ z.blk) ∧ (∀ b, Own s m e xs b → b < w.heap.size) ∧ xs.length < room) :=
    ⟨h, b2, hm2, (hK1.mono fun b _ h => h.elim).trans hK2 (fun _ _ h => h), hnx, hlt, hf⟩
  clear h h1 hp1 hK1 hlt hroom hr hm2 hK2 hR2 b2 p2 hnx hn hf hk
  have HW : Hid (w1 = _) := hw1
  clear hw1
  go_enter Tryz.func172, Tryz.ntmps172
  go_wp2_with (at_mapUpdate; rw [← HW.out]; refine wpList_update_run rfl (.tmp 15) (.tmp 16) (.tmp 17) 169 rfl (.map (some m)) (.int .i64 k) (ptr (w.heap.size + 1)) rfl rfl rfl HU.out ?_; refine Hid.out ?_)
  unfold Hid
  clear c1
  go_wp2_with fail
  refine HC.out.mono ?_
  rintro r w3 ⟨rfl, ⟨nw2, od2, hR3⟩, hK3⟩
  have H3 : Hid (Rg w3 168 e (xs ++ [⟨w.heap.size + 1, k, l⟩]) nw2 od2 ∧ Keeps (fun b => ∃ z ∈ e :: (xs ++ [⟨w.heap.size + 1, k, l⟩]), b = z.blk) w2 w3) := ⟨hR3, hK3⟩
  clear hR3 hK3 HC HU c2
  go_wp2
  go_end0
  obtain ⟨hS, b2, m2, hK2, hnx, hlt, hf⟩ := HH.out
  obtain ⟨hR3, hK3⟩ := H3.out
  have hcase : ∀ z ∈ e :: (xs ++ [(⟨w.heap.size + 1, k, l⟩ : N)]), z ∈ e :: xs ∨ z = ⟨w.heap.size + 1, k, l⟩ := by
    intro z hz; simp at hz ⊢; rcases hz with h | h | h <;> simp [h]
  have sx : ∀ z ∈ e :: (xs ++ [(⟨w.heap.size + 1, k, l⟩ : N)]), z.blk ≠ s := by
    intro z hz
    rcases hcase z hz with h | rfl
    · exact hS.sx z h
    · intro he; have := hlt s (.inl rfl); simp at he; omega
  have mx : ∀ z ∈ e :: (xs ++ [(⟨w.heap.size + 1, k, l⟩ : N)]), z.blk ≠ m := by
    intro z hz
    rcases hcase z hz with h | rfl
    · exact hS.mx z h
    · intro he; have := hlt m (.inr (.inl rfl)); simp at he; omega
  refine ⟨rfl, ⟨nw2, od2, ⟨b2.kept hK3 fun ⟨z, hz, he⟩ => sx z hz he.symm, ?_, hR3, hS.sm, sx, mx, hS.lo, hS.hi, ?_⟩⟩, ?_⟩
  · show MapIs Tryz.prog 3 w3 m (mapOf (xs ++ [⟨w.heap.size + 1, k, l⟩]))
    refine (m2.perm ?_).kept hK3 fun ⟨z, hz, he⟩ => mx z hz he.symm
    have : mapOf (xs ++ [⟨w.heap.size + 1, k, l⟩]) = mapOf xs ++ [(.int .i64 k, ptr (w.heap.size + 1))] := by simp [mapOf]
    rw [this]
    exact (List.perm_append_singleton _ _).symm
  · simp; omega
  · refine (hK2.mono fun b _ he => .inr (.inl he)).trans hK3 fun b hb ⟨z, hz, he⟩ => ?_
    rcases hcase z hz with h | rfl
    · exact .inr (.inr ⟨z, h, he⟩)
    · simp at he; omega

end Go.Proofs.YtipejahmjdamjaaGreatDoor.Tl
namespace Go.Proofs.YtipejahmjdamjaaGreatDoor.Tl
open Go.RowKit Go.Shelf
set_option linter.unusedVariables false

abbrev Lf.none : Lf := ⟨0, 0, 0⟩

/-- A leaf's block is written over, cell by cell. -/
theorem _root_.Go.Proofs.YtipejahmjdamjaaGreatDoor.Blk.setLeaf {w : World} {b : Nat} {l0 : Lf} (h : Blk w b l0.vs 64) (l : Lf) : Blk (((w.setCell ⟨b, 0, .none⟩ (.int .i64 l.p)).setCell ⟨b, 1, .none⟩ (.int .i64 l.f)).setCell ⟨b, 2, .none⟩ (.int .i64 l.r)) b l.vs 64 :=
  ((h.setCell 0 _).setCell 1 _).setCell 2 _

theorem _root_.Go.Proofs.YtipejahmjdamjaaGreatDoor.Keeps.setLeaf {S : Nat → Prop} {w w' : World} (h : Keeps S w w') (b : Nat) (l : Lf) (hb : b < w.heap.size → S b) : Keeps S w (((w'.setCell ⟨b, 0, .none⟩ (.int .i64 l.p)).setCell ⟨b, 1, .none⟩ (.int .i64 l.f)).setCell ⟨b, 2, .none⟩ (.int .i64 l.r)) :=
  ((h.setCell _ _ hb).setCell _ _ hb).setCell _ _ hb

theorem own_sub {s m : Nat} {e : N} {xs ys : List N} (h : ∀ x ∈ ys, x ∈ xs) {b : Nat} (hb : Own s m e ys b) : Own s m e xs b := by
  rcases hb with h1 | h1 | ⟨z, hz, h1⟩
  · exact .inl h1
  · exact .inr (.inl h1)
  · refine .inr (.inr ⟨z, ?_, h1⟩)
    rcases List.mem_cons.1 hz with h2 | h2
    · simp [h2]
    · exact List.mem_cons_of_mem _ (h z h2)

set_option maxHeartbeats 400000 in
theorem get_in (s m : Nat) (e x : N) (room : Nat) (A C : List N) (nw od : Nat → Nat) (w : World) (h : Sh Tryz.prog T w s m e room (A ++ x :: C) nw od) (hk : I64 x.key) :
    Calls Tryz.prog 200 #[ptr s, .int .i64 x.key] w fun r w' => r = .returned (.tuple #[x.thing.v, .bool true]) ∧ (∃ nw' od', Sh Tryz.prog T w' s m e room (A ++ C ++ [x]) nw' od') ∧ Keeps (Own s m e (A ++ x :: C)) w w' := by
  obtain ⟨W, hW⟩ : ∃ W, W = w.alloc (.cells #[.int .i64 0, .int .i64 0, .int .i64 0] 64) := ⟨_, rfl⟩
  have hKW : Keeps (fun _ => False) w W := by rw [hW]; exact (Keeps.refl _ w).alloc _
  have hB : Blk W w.heap.size Lf.none.vs 64 := by rw [hW]; exact Blk.new w _ 64
  have h0 := h.kept hKW fun _ _ h => h
  have hO : ¬ Own s m e (A ++ x :: C) w.heap.size := fun ho => by have := h.lt _ ho; omega
  have H1 : Hid (Calls _ _ _ _ _) := find_some s m e x room A C nw od W h0 hk
  have H2 : Hid (Calls _ _ _ _ _) := renew_any s m e x room A C nw od W h0
  obtain ⟨k, hkk⟩ : ∃ k, k = x.key := ⟨_, rfl⟩
  rw [← hkk] at H1 ⊢
  have HW : Hid (W = _ ∧ Keeps (fun _ => False) w W ∧ Blk W w.heap.size Lf.none.vs 64 ∧ ¬ Own s m e (A ++ x :: C) w.heap.size) := ⟨hW, hKW, hB, hO⟩
  clear h hk hkk h0 hKW hW hB hO
  go_enter Tryz.func200, Tryz.ntmps200
  go_wp2_with fail
  rw [← HW.out.1]
  refine H1.out.mono ?_
  rintro r w1 ⟨rfl, rfl⟩
  clear H1
  go_wp2_with fail
  refine H2.out.mono ?_
  rintro r w2 ⟨rfl, ⟨nw', od', hS⟩, hK⟩
  have hx := hS.ring.nodes x (by simp)
  have H3 : Hid (Calls _ _ _ _ _) := told_some x.blk x.thing w2 (hx.cell rfl) (hx.cell rfl) (hx.cell rfl)
  have HS : Hid (Sh Tryz.prog T w2 s m e room (A ++ C ++ [x]) nw' od' ∧ Keeps (Own s m e (A ++ x :: C)) w w2 ∧ Blk w2 w.heap.size Lf.none.vs 64) := ⟨hS, (HW.out.2.1.mono fun _ _ h => h.elim).trans hK fun _ _ h => h, HW.out.2.2.1.kept hK HW.out.2.2.2⟩
  clear hS hK H2 hx
  go_wp2_with fail
  refine H3.out.mono ?_
  rintro r w3 ⟨rfl, hK⟩
  have hB3 : Blk w3 w.heap.size Lf.none.vs 64 := HS.out.2.2.kept hK fun h => h
  have HB : Hid (Blk w3 w.heap.size Lf.none.vs 64) := hB3
  have c0 := hB3.cell (i := 0) rfl
  have c1 := hB3.cell (i := 1) rfl
  have c2 := hB3.cell (i := 2) rfl
  have f0 := hB3.frozen 0
  have f1 := hB3.frozen 1
  have f2 := hB3.frozen 2
  have HT : Hid (Sh Tryz.prog T w3 s m e room (A ++ C ++ [x]) nw' od' ∧ Keeps (Own s m e (A ++ x :: C)) w w3) := ⟨HS.out.1.kept hK fun _ _ h => h, HS.out.2.1.trans hK fun _ _ h => h.elim⟩
  clear H3 hK HS hB3
  go_wp2
  refine bodyPost_ret (results_cell_tmp rfl _ _ _ x.thing.v rfl (load_leaf (HB.out.setLeaf x.thing))) rfl ?_
  have hK4 := (Keeps.refl (fun b => b = w.heap.size) w3).setLeaf w.heap.size x.thing (fun _ => rfl)
  refine ⟨rfl, ⟨_, _, HT.out.1.kept hK4 fun b hb he => ?_⟩, HT.out.2.trans hK4 fun b hb he => by omega⟩
  subst he
  refine HW.out.2.2.2 (own_sub (fun z hz => ?_) hb)
  simp at hz ⊢; rcases hz with h | h | h <;> simp [h]

set_option maxHeartbeats 400000 in
theorem get_out (s m : Nat) (e : N) (room : Nat) (xs : List N) (nw od : Nat → Nat) (k : Int) (w : World) (h : Sh Tryz.prog T w s m e room xs nw od) (hk : I64 k) (hn : ∀ x ∈ xs, x.key ≠ k) :
    Calls Tryz.prog 200 #[ptr s, .int .i64 k] w fun r w' => r = .returned (.tuple #[Lf.none.v, .bool false]) ∧ Keeps (fun _ => False) w w' := by
  obtain ⟨W, hW⟩ : ∃ W, W = w.alloc (.cells #[.int .i64 0, .int .i64 0, .int .i64 0] 64) := ⟨_, rfl⟩
  have hKW : Keeps (fun _ => False) w W := by rw [hW]; exact (Keeps.refl _ w).alloc _
  have hB : Blk W w.heap.size Lf.none.vs 64 := by rw [hW]; exact Blk.new w _ 64
  have h0 := h.kept hKW fun _ _ h => h
  have H1 : Hid (Calls _ _ _ _ _) := find_none s m e room xs nw od k W h0 hk hn
  have H3 : Hid (Calls _ _ _ _ _) := told_none W
  have HW : Hid (W = _ ∧ Keeps (fun _ => False) w W ∧ Blk W w.heap.size Lf.none.vs 64) := ⟨hW, hKW, hB⟩
  clear h hk hn h0 hKW hW hB
  go_enter Tryz.func200, Tryz.ntmps200
  go_wp2_with fail
  rw [← HW.out.1]
  refine H1.out.mono ?_
  rintro r w1 ⟨rfl, rfl⟩
  clear H1
  go_wp2_with fail
  refine H3.out.mono ?_
  rintro r w3 ⟨rfl, hK⟩
  have hB3 : Blk w3 w.heap.size Lf.none.vs 64 := HW.out.2.2.kept hK fun h => h
  have HB : Hid (Blk w3 w.heap.size Lf.none.vs 64) := hB3
  have c0 := hB3.cell (i := 0) rfl
  have c1 := hB3.cell (i := 1) rfl
  have c2 := hB3.cell (i := 2) rfl
  have f0 := hB3.frozen 0
  have f1 := hB3.frozen 1
  have f2 := hB3.frozen 2
  have HK : Hid (Keeps (fun _ => False) w w3) := HW.out.2.1.trans hK fun _ _ h => h
  clear H3 hK hB3
  go_wp2
  refine bodyPost_ret (results_cell_tmp rfl _ _ _ Lf.none.v rfl (load_leaf (HB.out.setLeaf Lf.none))) rfl ?_
  exact ⟨rfl, HK.out.setLeaf w.heap.size Lf.none (fun h => by omega)⟩

theorem len_in (s m : Nat) (L : Nat) (w : World) (c1 : w.cell? ⟨s, 1, none⟩ = some (.map (some m))) (HL : Hid (∀ ty, (Builtin.len_ #[169] ty #[.map (some m)]).run Tryz.prog w = .ok (.int .i64 L) w)) :
    Calls Tryz.prog 98 #[ptr s] w fun r w' => r = .returned (.int .i64 L) ∧ w' = w := by
  go_enter Tryz.func98, Tryz.ntmps98
  go_wp2_with (at_len; refine wpList_len_run rfl (.tmp 8) 169 rfl (.map (some m)) (.int .i64 L) rfl HL.out ?_)
  go_ret
  exact ⟨rfl, rfl⟩

end Go.Proofs.YtipejahmjdamjaaGreatDoor.Tl
namespace Go.Proofs.YtipejahmjdamjaaGreatDoor.Tl
open Go.RowKit Go.Shelf
set_option linter.unusedVariables false

set_option maxHeartbeats 400000 in
theorem put_in (s m : Nat) (e x : N) (room : Nat) (A C : List N) (nw od : Nat → Nat) (l : Lf) (w : World) (h : Sh Tryz.prog T w s m e room (A ++ x :: C) nw od) (hk : I64 x.key) :
    Calls Tryz.prog 124 #[ptr s, .int .i64 x.key, l.v] w fun r w' => r = .returned (.tuple #[.int .i64 0, .bool false]) ∧ (∃ nw' od', Sh Tryz.prog T w' s m e room (A ++ C ++ [{ x with thing := l }]) nw' od') ∧ Keeps (Own s m e (A ++ x :: C)) w w' := by
  obtain ⟨W, hW⟩ : ∃ W, W = w.alloc (.cells #[.int .i64 l.p, .int .i64 l.f, .int .i64 l.r] 64) := ⟨_, rfl⟩
  have hKW : Keeps (fun _ => False) w W := by rw [hW]; exact (Keeps.refl _ w).alloc _
  have hB : Blk W w.heap.size l.vs 64 := by rw [hW]; exact Blk.new w _ 64
  have h0 := h.kept hKW fun _ _ h => h
  have hx := h0.ring.nodes x (by simp)
  have f1 := hx.frozen 1
  have f2 := hx.frozen 2
  have f3 := hx.frozen 3
  have d1 := hx.cell (i := 1) rfl
  have d2 := hx.cell (i := 2) rfl
  have d3 := hx.cell (i := 3) rfl
  have v0 := hB.cell (i := 0) rfl
  have v1 := hB.cell (i := 1) rfl
  have v2 := hB.cell (i := 2) rfl
  have H1 : Hid (Calls _ _ _ _ _) := find_some s m e x room A C nw od W h0 hk
  have H2 : Hid (Calls Tryz.prog 171 #[ptr s, ptr x.blk] _ _) := renew_any s m e { x with thing := l } room A C nw od _ (h0.setThing l)
  obtain ⟨k, hkk⟩ : ∃ k, k = x.key := ⟨_, rfl⟩
  rw [← hkk] at H1 ⊢
  have HE : Hid (k = x.key ∧ W = _ ∧ Keeps (fun _ => False) w W) := ⟨hkk, hW, hKW⟩
  clear h hk hkk hx h0 hKW hW hB
  go_enter Tryz.func124, Tryz.ntmps124
  go_wp2_with fail
  rw [← HE.out.2.1]
  refine H1.out.mono ?_
  rintro r w1 ⟨rfl, rfl⟩
  clear H1
  go_wp2_with fail
  refine H2.out.mono ?_
  rintro r w2 ⟨rfl, hS, hK⟩
  have HS : Hid ((∃ nw' od', Sh Tryz.prog T w2 s m e room (A ++ C ++ [{ x with thing := l }]) nw' od') ∧ Keeps (Own s m e (A ++ { x with thing := l } :: C)) _ w2) := ⟨hS, hK⟩
  clear hS hK H2 f1 d1 f2 f3 d2 d3 v0 v1 v2
  go_wp2
  go_ret2
  refine ⟨rfl, by rw [HE.out.1]; exact HS.out.1, ?_⟩
  have hK := HS.out.2
  have hx : w1.heap.size < w1.heap.size ∨ True := .inr trivial
  refine ((((HE.out.2.2.mono fun _ _ h => h.elim).setCell _ _ ?_).setCell _ _ ?_).setCell _ _ ?_).trans hK ?_
  · exact fun _ => .inr (.inr ⟨x, by simp, rfl⟩)
  · exact fun _ => .inr (.inr ⟨x, by simp, rfl⟩)
  · exact fun _ => .inr (.inr ⟨x, by simp, rfl⟩)
  rintro b _ (rfl | rfl | ⟨z, hz, rfl⟩)
  · exact .inl rfl
  · exact .inr (.inl rfl)
  · simp at hz
    rcases hz with h | h | h | h
    · exact .inr (.inr ⟨e, by simp, by rw [h]⟩)
    · exact .inr (.inr ⟨z, by simp [h], rfl⟩)
    · exact .inr (.inr ⟨x, by simp, by rw [h]⟩)
    · exact .inr (.inr ⟨z, by simp [h], rfl⟩)

set_option maxHeartbeats 1000000 in
theorem put_new (s m : Nat) (e : N) (room : Nat) (xs : List N) (nw od : Nat → Nat) (k : Int) (l : Lf) (w : World) (h : Sh Tryz.prog T w s m e room xs nw od) (hk : I64 k) (hn : ∀ x ∈ xs, x.key ≠ k) (hf : xs.length < room) :
    Calls Tryz.prog 124 #[ptr s, .int .i64 k, l.v] w fun r w' => r = .returned (.tuple #[.int .i64 0, .bool false]) ∧ (∃ b nw' od', w.heap.size ≤ b ∧ Sh Tryz.prog T w' s m e room (xs ++ [⟨b, k, l⟩]) nw' od') ∧ Keeps (Own s m e xs) w w' := by
  obtain ⟨W, hW⟩ : ∃ W, W = w.alloc (.cells #[.int .i64 l.p, .int .i64 l.f, .int .i64 l.r] 64) := ⟨_, rfl⟩
  have hKW : Keeps (fun _ => False) w W := by rw [hW]; exact (Keeps.refl _ w).alloc _
  have hB : Blk W w.heap.size l.vs 64 := by rw [hW]; exact Blk.new w _ 64
  have h0 := h.kept hKW fun _ _ h => h
  have v0 := hB.cell (i := 0) rfl
  have v1 := hB.cell (i := 1) rfl
  have v2 := hB.cell (i := 2) rfl
  have HW : Hid (W = _ ∧ Keeps (fun _ => False) w W) := ⟨hW, hKW⟩
  have H1 : Hid (Calls _ _ _ _ _) := find_none s m e room xs nw od k W h0 hk hn
  have hL : (mapOf xs).length = xs.length := by simp [mapOf]
  have H2 : Hid (∀ q, Calls Tryz.prog 172 #[ptr s, .int .i64 k, l.v] (W.drewN q) _) := fun q => add_any s m e room xs nw od k l (W.drewN q) (h0.drewN q) hk hn hf
  have hl : ∀ ty q, (Builtin.len_ #[169] ty #[.map (some m)]).run Tryz.prog (W.drewN q) = .ok (.int .i64 xs.length) (W.drewN q) := fun ty q => by
    have := (h0.drewN q).map.len (ty := ty) Tryz.underlying169
    rw [hL] at this
    exact this
  have c0 := h0.cells.1
  have c1 := h0.cells.2.1
  obtain ⟨L, hLL⟩ : ∃ L, L = xs.length := ⟨_, rfl⟩
  rw [← hLL] at hl hf
  have hf' : (L : Int) < room := by omega
  clear h hk hn hL hLL hf h0 hKW hW hB
  go_enter Tryz.func124, Tryz.ntmps124
  go_wp2_with fail
  rw [← HW.out.1]
  refine H1.out.mono ?_
  rintro r w1 ⟨rfl, rfl⟩
  clear H1
  go_wp2_with fail
  go_quiet (fail)
  go_wp2_with fail
  refine (H2.out _).mono ?_
  rintro r w2 ⟨rfl, hS, hK⟩
  have HS : Hid ((∃ b nw' od', w.heap.size ≤ b ∧ Sh Tryz.prog T w2 s m e room (xs ++ [⟨b, k, l⟩]) nw' od') ∧ Keeps (Own s m e xs) w w2) := ⟨by obtain ⟨nw', od', hS⟩ := hS; exact ⟨_, nw', od', by have := HW.out.2.size; simp; omega, hS⟩, (HW.out.2.mono fun _ _ h => h.elim).trans hK.fromDrewN fun _ _ h => h⟩
  clear hS hK H2 c0 c1 hl v0 v1 v2
  go_wp2
  go_ret2
  exact ⟨rfl, HS.out⟩

set_option maxHeartbeats 1000000 in
theorem put_full (s m : Nat) (e x : N) (room : Nat) (xs : List N) (nw od : Nat → Nat) (k : Int) (l : Lf) (w : World) (h : Sh Tryz.prog T w s m e room (x :: xs) nw od) (hk : I64 k) (hkx : I64 x.key) (hn : ∀ z ∈ x :: xs, z.key ≠ k) (hf : xs.length + 1 = room) :
    Calls Tryz.prog 124 #[ptr s, .int .i64 k, l.v] w fun r w' => r = .returned (.tuple #[.int .i64 x.key, .bool true]) ∧ (∃ b nw' od', w.heap.size ≤ b ∧ Sh Tryz.prog T w' s m e room (xs ++ [⟨b, k, l⟩]) nw' od') ∧ Keeps (Own s m e (x :: xs)) w w' := by
  obtain ⟨W, hW⟩ : ∃ W, W = w.alloc (.cells #[.int .i64 l.p, .int .i64 l.f, .int .i64 l.r] 64) := ⟨_, rfl⟩
  have hKW : Keeps (fun _ => False) w W := by rw [hW]; exact (Keeps.refl _ w).alloc _
  have hB : Blk W w.heap.size l.vs 64 := by rw [hW]; exact Blk.new w _ 64
  have h0 := h.kept hKW fun _ _ h => h
  have hBO : ¬ Own s m e (x :: xs) w.heap.size := fun ho => by have := h.lt _ ho; omega
  have HB : Hid (Blk W w.heap.size l.vs 64 ∧ ¬ Own s m e (x :: xs) w.heap.size) := ⟨hB, hBO⟩
  have HW : Hid (W = _ ∧ Keeps (fun _ => False) w W) := ⟨hW, hKW⟩
  have H1 : Hid (Calls _ _ _ _ _) := find_none s m e room (x :: xs) nw od k W h0 hk hn
  have hL : (mapOf (x :: xs)).length = room := by simp [mapOf]; omega
  have H2 : Hid (∀ q, Calls Tryz.prog 173 #[ptr s, ptr x.blk] (W.drewN q) _) := fun q => remove_any s m e x room [] xs nw od (W.drewN q) (h0.drewN q) hkx
  have hl : ∀ ty q, (Builtin.len_ #[169] ty #[.map (some m)]).run Tryz.prog (W.drewN q) = .ok (.int .i64 room) (W.drewN q) := fun ty q => by
    have := (h0.drewN q).map.len (ty := ty) Tryz.underlying169
    rw [hL] at this
    exact this
  have c0 := h0.cells.1
  have c1 := h0.cells.2.1
  have c2 := h0.cells.2.2
  have en : nw e.blk = x.blk := h.ring.chain.1
  have c3 := (h0.ring.nodes e (by simp)).cell (i := 5) rfl
  rw [en] at c3
  have hxo : ¬ Own s m e xs x.blk := by
    rintro (he | he | ⟨z, hz, he⟩)
    · exact h.sx x (by simp) he
    · exact h.mx x (by simp) he
    · have nd := h.ring.nodup
      rw [List.map_cons] at nd
      rcases List.mem_cons.1 hz with h' | h'
      · rw [h'] at he; rw [he] at nd; simp at nd
      · have := (List.nodup_cons.1 (List.nodup_cons.1 nd).2).1
        exact this (by rw [he]; exact List.mem_map.2 ⟨z, h', rfl⟩)
  have HXO : Hid (¬ Own s m e xs x.blk) := hxo
  have HX : Hid ((∀ z ∈ xs, z.key ≠ k) ∧ I64 k ∧ xs.length < room ∧ ∀ b, Own s m e (x :: xs) b → b < w.heap.size) := ⟨fun z hz => hn z (by simp [hz]), hk, by omega, h.lt⟩
  clear h hk hkx hn hL hf en hxo h0 hKW hW hB hBO
  go_enter Tryz.func124, Tryz.ntmps124
  go_wp2_with fail
  rw [← HW.out.1]
  refine H1.out.mono ?_
  rintro r w1 ⟨rfl, rfl⟩
  clear H1
  go_wp2_with fail
  go_quiet (fail)
  go_wp2_with fail
  refine (H2.out _).mono ?_
  rintro r w2 ⟨rfl, ⟨nw2, od2, hS⟩, hK, kx⟩
  have HK : Hid (Keeps (Own s m e (x :: xs)) w w2) := (HW.out.2.mono fun _ _ h => h.elim).trans hK.fromDrewN fun _ _ h => h
  have hB2 : Blk w2 w.heap.size l.vs 64 := HB.out.1.kept hK.fromDrewN HB.out.2
  have v0 := hB2.cell (i := 0) rfl
  have v1 := hB2.cell (i := 1) rfl
  have v2 := hB2.cell (i := 2) rfl
  have hk2 : x.blk < w2.heap.size := Nat.lt_of_lt_of_le (HX.out.2.2.2 x.blk (.inr (.inr ⟨x, by simp, rfl⟩))) HK.out.size
  have H3 : Hid (Calls Tryz.prog 172 #[ptr s, .int .i64 k, l.v] w2 _) := add_any s m e room xs nw2 od2 k l w2 hS HX.out.2.1 HX.out.1 HX.out.2.2.1
  have hxo := HXO.out
  have HK2 : Hid (w2.cell? ⟨x.blk, 0, none⟩ = some (.int .i64 x.key) ∧ x.blk < w2.heap.size ∧ ¬ Own s m e xs x.blk) := ⟨kx, hk2, hxo⟩
  clear hS hK H2 c0 c1 c2 c3 hl kx hk2 hxo hB2
  go_wp2_with fail
  refine H3.out.mono ?_
  rintro r w3 ⟨rfl, ⟨nw3, od3, hS3⟩, hK3⟩
  have k3 : w3.cell? ⟨x.blk, 0, none⟩ = some (.int .i64 x.key) := by
    rw [World.cell?_of_block (w := w2) (hK3.block x.blk HK2.out.2.1 HK2.out.2.2)]
    exact HK2.out.1
  have HS : Hid ((∃ b nw' od', w.heap.size ≤ b ∧ Sh Tryz.prog T w3 s m e room (xs ++ [⟨b, k, l⟩]) nw' od') ∧ Keeps (Own s m e xs) w2 w3) := ⟨⟨_, nw3, od3, Nat.le_succ_of_le HK.out.size, hS3⟩, hK3⟩
  clear hS3 hK3 H3 v0 v1 v2
  go_wp2
  go_ret2
  refine ⟨rfl, HS.out.1, HK.out.trans HS.out.2 ?_⟩
  rintro b _ (rfl | rfl | ⟨z, hz, rfl⟩)
  · exact .inl rfl
  · exact .inr (.inl rfl)
  · simp at hz
    rcases hz with h | h
    · exact .inr (.inr ⟨e, by simp, by rw [h]⟩)
    · exact .inr (.inr ⟨z, by simp [h], rfl⟩)

end Go.Proofs.YtipejahmjdamjaaGreatDoor.Tl
namespace Go.Proofs.YtipejahmjdamjaaGreatDoor.Tl
open Go.RowKit Go.Shelf
set_option linter.unusedVariables false

set_option maxHeartbeats 1000000 in
theorem clear_walk (s e : Nat) (u1 u2 u3 : Value) (w W1 : World) (hW : W1 = (w.alloc (.map #[] 0)).setCell ⟨s, 1, none⟩ (.map (some w.heap.size)))
    (hs : s < w.heap.size) (d1 : w.cell? ⟨s, 1, none⟩ = some u1) (f1 : w.frozen? ⟨s, 1, none⟩ = false) (c2 : W1.cell? ⟨s, 2, none⟩ = some (ptr e)) (d2 : W1.cell? ⟨e, 4, none⟩ = some u2) (d3 : W1.cell? ⟨e, 5, none⟩ = some u3)
    (f2 : W1.frozen? ⟨e, 4, none⟩ = false) (f3 : W1.frozen? ⟨e, 5, none⟩ = false) (hse : s ≠ e) :
    Calls Tryz.prog 95 #[ptr s] w fun r w' => r = .returned (.tuple #[]) ∧ w' = ((W1.setCell ⟨e, 4, none⟩ (ptr e)).setCell ⟨e, 5, none⟩ (ptr e)).drew := by
  have HW : Hid (W1 = _) := hW
  clear hW
  have d1' : (w.alloc (.map #[] 0)).cell? ⟨s, 1, none⟩ = some u1 := by
    rw [World.cell?_of_block (w := w) (Below.heap_alloc w _ s hs)]; exact d1
  have f1' : (w.alloc (.map #[] 0)).frozen? ⟨s, 1, none⟩ = false := by
    rw [World.frozen?_of_block (w := w) (Below.heap_alloc w _ s hs)]; exact f1
  have hmk : (Instr.makeMap 169 none).run Tryz.prog w = .ok (.map (some w.heap.size)) (w.alloc (.map #[] 0)) := run_makeMap 169 w
  clear d1 f1 hs
  go_enter Tryz.func95, Tryz.ntmps95
  go_wp2_with fail
  rw [← HW.out]
  go_region
  go_wp2
  go_end0
  exact ⟨rfl, rfl⟩

theorem clear_any (s : Nat) (e : N) (mv u2 u3 : Value) (room : Nat) (w : World) (h : Blk w s [.int .i64 room, mv, ptr e.blk] 171) (he : Blk w e.blk [.int .i64 e.key, .int .i64 e.thing.p, .int .i64 e.thing.f, .int .i64 e.thing.r, u2, u3] 168) (hne : s ≠ e.blk) (lo : 1 ≤ room) (hi : room ≤ 4096) :
    Calls Tryz.prog 95 #[ptr s] w fun r w' => r = .returned (.tuple #[]) ∧ (∃ nw od, Sh Tryz.prog T w' s w.heap.size e room [] nw od) ∧ Keeps (fun b => b = s ∨ b = e.blk) w w' := by
  obtain ⟨W0, hW0⟩ : ∃ W0, W0 = w.alloc (.map #[] 0) := ⟨_, rfl⟩
  obtain ⟨W1, hW1⟩ : ∃ W1, W1 = W0.setCell ⟨s, 1, none⟩ (.map (some w.heap.size)) := ⟨_, rfl⟩
  have hs0 : Blk W0 s [.int .i64 room, mv, ptr e.blk] 171 := by rw [hW0]; exact h.alloc _
  have he0 : Blk W0 e.blk [.int .i64 e.key, .int .i64 e.thing.p, .int .i64 e.thing.f, .int .i64 e.thing.r, u2, u3] 168 := by rw [hW0]; exact he.alloc _
  have hm0 : MapIs Tryz.prog 3 W0 w.heap.size [] := by rw [hW0]; exact MapIs.new _ _ w
  have hs1 : Blk W1 s [.int .i64 room, .map (some w.heap.size), ptr e.blk] 171 := by rw [hW1]; exact hs0.setCell 1 _
  have he1 : Blk W1 e.blk [.int .i64 e.key, .int .i64 e.thing.p, .int .i64 e.thing.f, .int .i64 e.thing.r, u2, u3] 168 := by rw [hW1]; exact he0.setCell_ne (fun h => hne h.symm) _
  have hm1 : MapIs Tryz.prog 3 W1 w.heap.size [] := by rw [hW1]; exact hm0.setCell (fun h' => by have := h.lt; simp at h'; omega) _
  have hlt := h.lt
  have hle := he.lt
  refine (clear_walk s e.blk mv u2 u3 w W1 (by rw [hW1, hW0]) hlt (h.cell rfl) (h.frozen 1) (hs1.cell rfl) (he1.cell rfl) (he1.cell rfl) (he1.frozen 4) (he1.frozen 5) hne).mono ?_
  rintro r w' ⟨rfl, rfl⟩
  refine ⟨rfl, ⟨fun _ => e.blk, fun _ => e.blk, ⟨((hs1.setCell_ne (a := ⟨e.blk, 4, none⟩) hne _).setCell_ne (a := ⟨e.blk, 5, none⟩) hne _).drew, ?_, ⟨⟨rfl, rfl⟩, by simp, ?_⟩, ?_, ?_, ?_, lo, hi, by simp⟩⟩, ?_⟩
  · show MapIs Tryz.prog 3 _ w.heap.size []
    exact ((hm1.setCell (a := ⟨e.blk, 4, none⟩) (fun h' => by simp at h'; omega) _).setCell (a := ⟨e.blk, 5, none⟩) (fun h' => by simp at h'; omega) _).kept (S := fun _ => False) ((Keeps.refl _ _).drew) fun h => h
  · intro z hz
    simp at hz
    subst hz
    exact ((he1.setCell 4 (ptr z.blk)).setCell 5 (ptr z.blk)).drew
  · omega
  · intro z hz; simp at hz; subst hz; exact fun h => hne h.symm
  · intro z hz; simp at hz; subst hz; intro h'; omega
  · have hK1 : Keeps (fun b => b = s ∨ b = e.blk) w W1 := by
      rw [hW1, hW0]
      exact ((Keeps.refl _ w).alloc _).setCell _ _ fun _ => .inl rfl
    exact ((hK1.setCell _ _ fun _ => .inr rfl).setCell _ _ fun _ => .inr rfl).drew

set_option maxHeartbeats 400000 in
theorem new_in (room : Nat) (w : World) (lo : 1 ≤ room) (hi : room ≤ 4096) :
    Calls Tryz.prog 68 #[.int .i64 room] w fun r w' => r = .returned (.tuple #[ptr (w.heap.size + 1), .int .i64 0]) ∧ (∃ m e nw od, w.heap.size ≤ m ∧ w.heap.size ≤ e.blk ∧ Sh Tryz.prog T w' (w.heap.size + 1) m e room [] nw od) ∧ Keeps (fun _ => False) w w' := by
  obtain ⟨W0, hW0⟩ : ∃ W0, W0 = w.alloc (.cells #[.int .i64 0, .int .i64 0, .int .i64 0, .int .i64 0, .pointer none, .pointer none] 168) := ⟨_, rfl⟩
  obtain ⟨W1, hW1⟩ : ∃ W1, W1 = W0.alloc (.cells #[.int .i64 room, .map none, ptr w.heap.size] 171) := ⟨_, rfl⟩
  have hz : W0.heap.size = w.heap.size + 1 := by rw [hW0]; simp
  have he1 : Blk W1 w.heap.size [.int .i64 0, .int .i64 0, .int .i64 0, .int .i64 0, .pointer none, .pointer none] 168 := by
    rw [hW1]; refine Blk.alloc ?_ _; rw [hW0]; exact Blk.new w _ 168
  have hs1 : Blk W1 (w.heap.size + 1) [.int .i64 room, .map none, ptr w.heap.size] 171 := by
    rw [hW1, ← hz]; exact Blk.new W0 _ 171
  have hK1 : Keeps (fun _ => False) w W1 := by rw [hW1, hW0]; exact ((Keeps.refl _ w).alloc _).alloc _
  have H1 : Hid (Calls _ _ _ _ _) := clear_any (w.heap.size + 1) ⟨w.heap.size, 0, Lf.none⟩ (.map none) _ _ room W1 hs1 he1 (by simp) lo hi
  have HK : Hid (Keeps (fun _ => False) w W1) := hK1
  have HZ : Hid (W0.heap.size = w.heap.size + 1) := hz
  have HW : Hid (W1 = (w.alloc (.cells #[.int .i64 0, .int .i64 0, .int .i64 0, .int .i64 0, .pointer none, .pointer none] 168)).alloc (.cells #[.int .i64 room, .map none, ptr w.heap.size] 171)) := by rw [← hW0]; exact hW1
  have h1 : ¬ ((room : Int) < 1) := by omega
  have h2 : ¬ ((room : Int) > 4096) := by omega
  clear hW0 hW1 hz he1 hs1 hK1 lo hi
  go_enter Tryz.func68, Tryz.ntmps68
  go_wp2_with fail
  rw [← HW.out]
  refine H1.out.mono ?_
  rintro r w2 ⟨rfl, ⟨nw, od, hS⟩, hK⟩
  have HS : Hid ((∃ m e nw od, w.heap.size ≤ m ∧ w.heap.size ≤ e.blk ∧ Sh Tryz.prog T w2 (w.heap.size + 1) m e room [] nw od) ∧ Keeps (fun _ => False) w w2) :=
    ⟨⟨_, _, nw, od, HK.out.size, Nat.le_refl _, hS⟩, HK.out.trans hK (by
      rintro b hb (h | h)
      · omega
      · first | omega | (simp at h; omega))⟩
  clear hS hK H1 HW
  go_wp2
  go_ret2
  exact ⟨rfl, HS.out⟩

theorem new_out (room : Int) (w : World) (h : room < 1 ∨ 4096 < room) :
    Calls Tryz.prog 68 #[.int .i64 room] w fun r w' => r = .returned (.tuple #[.pointer none, .int .i64 60]) ∧ w' = w := by
  by_cases h1 : room < 1
  · clear h
    go_enter Tryz.func68, Tryz.ntmps68
    go_wp2
    go_ret2
    exact ⟨rfl, rfl⟩
  · have h2 : 4096 < room := by omega
    clear h
    go_enter Tryz.func68, Tryz.ntmps68
    go_wp2
    go_ret2
    exact ⟨rfl, rfl⟩

end Go.Proofs.YtipejahmjdamjaaGreatDoor.Tl
