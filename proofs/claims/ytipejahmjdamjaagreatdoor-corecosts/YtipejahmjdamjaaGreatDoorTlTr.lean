import Derived.Test.YtipejahmjdamjaaGreatDoorTlMa
import Derived.Deep.RegionHeld3
namespace Go.Proofs.YtipejahmjdamjaaGreatDoor.Tl
open Go.RowKit Go.Shelf
set_option linter.unusedVariables false
set_option maxRecDepth 6000

theorem newT_any (w : World) : Calls Tryz.prog 39 #[] w fun r w' => ∃ t, r = .returned (ptr t) ∧ (∃ F, Tl w' t [] F ∧ ∀ b, F b → w.heap.size ≤ b) ∧ Keeps (fun _ => False) w w' := by
  have H1 : Hid (Calls Tryz.prog 68 #[.int .i64 4] w _) := new_any 4 w (by omega) (by omega)
  go_enter Tryz.func39, Tryz.ntmps39
  go_wp2_with fail
  refine H1.out.mono ?_
  rintro r w1 ⟨rfl, ⟨F, hS, hF⟩, hK⟩
  have HS : Hid (Sf w1 (w.heap.size + 1) 4 [] F ∧ (∀ b, F b → w.heap.size ≤ b) ∧ Keeps (fun _ => False) w w1) := ⟨hS, hF, hK⟩
  clear hS hF hK H1
  go_wp2
  go_ret
  obtain ⟨hS, hF, hK⟩ := HS.out
  have hK1 : Keeps (fun _ => False) w1 (w1.alloc (.cells #[ptr (w.heap.size + 1)] 126)) := (Keeps.refl _ w1).alloc _
  refine ⟨w1.heap.size, rfl, ⟨fun b => w.heap.size ≤ b ∧ b < w1.heap.size + 1, ⟨w.heap.size + 1, F, Blk.new w1 _ 126, hS.kept hK1 fun _ _ h => h, fun h => ?_, ⟨hK.size, by omega⟩, fun b hb => ⟨hF b hb, ?_⟩, fun b hb => ?_⟩, fun b hb => hb.1⟩, hK.trans hK1 fun _ _ h => h⟩
  · have := hS.lt _ h; omega
  · have := hS.lt _ hb; omega
  · simp; exact hb.2

theorem lay_any (t : Nat) (ls : List Lf) (F : Nat → Prop) (l : Lf) (w : World) (h : Tl w t ls F) (hp : I64 l.p) :
    Calls Tryz.prog 87 #[ptr t, l.v] w fun r w' => r = .returned (.tuple #[]) ∧ NowT w w' t (putT l ls) F := by
  have h4 := h.le
  obtain ⟨s, F0, h1, h2, h3, h4', h5, h6⟩ := h
  obtain ⟨W, hW⟩ : ∃ W, W = w.alloc (.cells #[.int .i64 l.p, .int .i64 l.f, .int .i64 l.r] 64) := ⟨_, rfl⟩
  have hB : Blk W w.heap.size l.vs 64 := by rw [hW]; exact Blk.new w _ 64
  have v0 := hB.cell (i := 0) rfl
  have v1 := hB.cell (i := 1) rfl
  have v2 := hB.cell (i := 2) rfl
  have hKW : Keeps (fun _ => False) w W := by rw [hW]; exact (Keeps.refl _ w).alloc _
  have HW : Hid (W = _ ∧ Keeps (fun _ => False) w W) := ⟨hW, hKW⟩
  have h1' : Blk W t [ptr s] 126 := h1.kept hKW fun h => h
  have h2' : Sf W s 4 (kv ls) F0 := h2.kept hKW fun _ _ h => h
  have c0 := h1'.cell (i := 0) rfl
  have hKd : Keeps (fun _ => False) W (W.drewN 1) := (Keeps.refl _ W).drewN 1
  have H1 : Hid (Calls _ _ _ _ _) := put_any s 4 (kv ls) F0 l.p l (W.drewN 1) (h2'.kept hKd fun _ _ h => h) hp
  rw [put_kv l h4] at H1
  clear hKd
  have HH : Hid (Blk W t [ptr s] 126 ∧ ¬ F0 t ∧ F t ∧ (∀ b, F0 b → F b) ∧ ∀ b, F b → b < w.heap.size) := ⟨h1', h3, h4', h5, h6⟩
  clear hW hKW hB h1' h2' h1 h2 h3 h4 h4' h5 h6
  go_enter Tryz.func87, Tryz.ntmps87
  go_wp2_with fail
  rw [← HW.out.1]
  refine region_tail 7 (by kernel_rfl) ?_
  simp only [List.take_succ_cons, List.take_zero, List.drop_succ_cons, List.drop_zero]
  repeat still_step
  refine wpStill_nil ?_
  go_wp2_with fail
  refine H1.out.mono ?_
  rintro r w1 ⟨rfl, hN⟩
  have HN : Hid (Now (W.drewN 1) w1 s 4 (kv (putT l ls)) F0) := hN
  clear hN H1 c0 v0 v1 v2
  go_wp2
  go_end0
  obtain ⟨h1, h3, h4, h5, h6⟩ := HH.out
  exact ⟨rfl, nowT_of (HW.out.2.drewN 1) h1 h3 h4 h5 h6 HN.out⟩

theorem flush_any (t : Nat) (ls : List Lf) (F : Nat → Prop) (w : World) (h : Tl w t ls F) :
    Calls Tryz.prog 58 #[ptr t] w fun r w' => r = .returned (.tuple #[]) ∧ NowT w w' t [] F := by
  obtain ⟨s, F0, h1, h2, h3, h4, h5, h6⟩ := h
  have c0 := h1.cell (i := 0) rfl
  have H1 : Hid (Calls _ _ _ _ _) := clear_all s 4 (kv ls) F0 w h2
  have HH : Hid (Blk w t [ptr s] 126 ∧ ¬ F0 t ∧ F t ∧ (∀ b, F0 b → F b) ∧ ∀ b, F b → b < w.heap.size) := ⟨h1, h3, h4, h5, h6⟩
  clear h1 h2 h3 h4 h5 h6
  go_enter Tryz.func58, Tryz.ntmps58
  go_wp2_with fail
  refine H1.out.mono ?_
  rintro r w1 ⟨rfl, hN⟩
  have HN : Hid (Now w w1 s 4 (kv []) F0) := hN
  clear hN H1 c0
  go_wp2
  go_end0
  obtain ⟨h1, h3, h4, h5, h6⟩ := HH.out
  exact ⟨rfl, nowT_of (Keeps.refl _ w) h1 h3 h4 h5 h6 HN.out⟩

theorem nowT_same {w w' : World} {t : Nat} {ls : List Lf} {F : Nat → Prop} (h : Tl w t ls F) (hK : Keeps (fun _ => False) w w') : NowT w w' t ls F :=
  ⟨⟨F, h.kept hK fun _ _ h => h, fun b hb => .inl hb⟩, hK.mono fun _ _ h => h.elim⟩

theorem putT_no (t : Nat) (ls : List Lf) (F : Nat → Prop) (l : Lf) (w : World) (h : Tl w t ls F) (hm : mayB l = false) :
    Calls Tryz.prog 175 #[ptr t, l.v] w fun r w' => r = .returned (.int .i64 80) ∧ NowT w w' t ls F := by
  obtain ⟨W, hW⟩ : ∃ W, W = w.alloc (.cells #[.int .i64 l.p, .int .i64 l.f, .int .i64 l.r] 64) := ⟨_, rfl⟩
  have hB : Blk W w.heap.size l.vs 64 := by rw [hW]; exact Blk.new w _ 64
  have v0 := hB.cell (i := 0) rfl
  have v1 := hB.cell (i := 1) rfl
  have v2 := hB.cell (i := 2) rfl
  have hKW : Keeps (fun _ => False) w W := by rw [hW]; exact (Keeps.refl _ w).alloc _
  have HW : Hid (W = _ ∧ Keeps (fun _ => False) w W ∧ Tl w t ls F) := ⟨hW, hKW, h⟩
  have H1 : Hid (Calls _ _ _ _ _) := mayBe_any l W
  rw [hm] at H1
  clear hW hKW hB h hm
  go_enter Tryz.func175, Tryz.ntmps175
  go_wp2_with fail
  rw [← HW.out.1]
  refine H1.out.mono ?_
  rintro r w1 ⟨rfl, hK⟩
  have HK : Hid (Keeps (fun _ => False) W w1) := hK
  clear hK v0 v1 v2 H1
  go_wp2
  go_ret
  exact ⟨rfl, nowT_same HW.out.2.2 (HW.out.2.1.trans HK.out fun _ _ h => h)⟩

theorem mayB_p {l : Lf} (h : mayB l = true) : I64 l.p := by
  simp [mayB, inB] at h
  exact ⟨by omega, by omega⟩

theorem NowT.first {w w1 w' : World} {t : Nat} {ls : List Lf} {F : Nat → Prop} (hK : Keeps (fun _ => False) w w1) (h6 : ∀ b, F b → b < w.heap.size) (h : NowT w1 w' t ls F) : NowT w w' t ls F := by
  obtain ⟨⟨F', h1, h2⟩, h3⟩ := h
  refine ⟨⟨F', h1, fun b hb => ?_⟩, (hK.mono fun _ _ h => h.elim).trans h3 fun _ _ h => h⟩
  rcases h2 b hb with h | h
  · exact .inl h
  · exact .inr (by have := hK.size; omega)

theorem putT_yes (t : Nat) (ls : List Lf) (F : Nat → Prop) (l : Lf) (w : World) (h : Tl w t ls F) (hm : mayB l = true) :
    Calls Tryz.prog 175 #[ptr t, l.v] w fun r w' => r = .returned (.int .i64 0) ∧ NowT w w' t (putT l ls) F := by
  obtain ⟨W, hW⟩ : ∃ W, W = w.alloc (.cells #[.int .i64 l.p, .int .i64 l.f, .int .i64 l.r] 64) := ⟨_, rfl⟩
  have hB : Blk W w.heap.size l.vs 64 := by rw [hW]; exact Blk.new w _ 64
  have v0 := hB.cell (i := 0) rfl
  have v1 := hB.cell (i := 1) rfl
  have v2 := hB.cell (i := 2) rfl
  have hKW : Keeps (fun _ => False) w W := by rw [hW]; exact (Keeps.refl _ w).alloc _
  have HW : Hid (W = _ ∧ Keeps (fun _ => False) w W ∧ Tl w t ls F ∧ Blk W w.heap.size l.vs 64 ∧ I64 l.p) := ⟨hW, hKW, h, hB, mayB_p hm⟩
  have H1 : Hid (Calls _ _ _ _ _) := mayBe_any l W
  rw [hm] at H1
  clear hW hKW hB h hm
  go_enter Tryz.func175, Tryz.ntmps175
  go_wp2_with fail
  rw [← HW.out.1]
  refine H1.out.mono ?_
  rintro r w1 ⟨rfl, hK⟩
  have hKw : Keeps (fun _ => False) w w1 := HW.out.2.1.trans hK fun _ _ h => h
  have HK : Hid (Keeps (fun _ => False) w w1) := hKw
  have H2 : Hid (Calls _ _ _ _ _) := lay_any t ls F l w1 (HW.out.2.2.1.kept hKw fun _ _ h => h) HW.out.2.2.2.2
  have hB1 : Blk w1 w.heap.size l.vs 64 := HW.out.2.2.2.1.kept hK fun h => h
  clear hK v0 v1 v2 H1 hKw
  have v0 := hB1.cell (i := 0) rfl
  have v1 := hB1.cell (i := 1) rfl
  have v2 := hB1.cell (i := 2) rfl
  clear hB1
  go_wp2_with fail
  refine H2.out.mono ?_
  rintro r w2 ⟨rfl, hN⟩
  have HN : Hid (NowT w1 w2 t (putT l ls) F) := hN
  clear hN v0 v1 v2 H2
  go_wp2
  go_ret
  exact ⟨rfl, HN.out.first HK.out HW.out.2.2.1.lt⟩

theorem nowT_mk {w w' : World} {t s : Nat} {ls : List Lf} {F F0 F' : Nat → Prop} (h1 : Blk w' t [ptr s] 126) (h3 : ¬ F0 t) (h4 : F t) (h5 : ∀ b, F0 b → F b) (h6 : ∀ b, F b → b < w.heap.size)
    (hS : Sf w' s 4 (kv ls) F') (hF : ∀ b, F' b → F0 b ∨ w.heap.size ≤ b) (hK : Keeps F w w') : NowT w w' t ls F := by
  refine ⟨⟨fun b => (F b ∨ w.heap.size ≤ b) ∧ b < w'.heap.size, ⟨s, F', h1, hS, ?_, ⟨.inl h4, Nat.lt_of_lt_of_le (h6 t h4) hK.size⟩, fun b hb => ⟨?_, hS.lt b hb⟩, fun b hb => hb.2⟩, fun b hb => hb.1⟩, hK⟩
  · intro hb
    rcases hF t hb with h | h
    · exact h3 h
    · have := h6 t h4; omega
  · rcases hF b hb with h | h
    · exact .inl (h5 b h)
    · exact .inr h

set_option maxHeartbeats 400000 in
theorem findT_any (t : Nat) (ls : List Lf) (F : Nat → Prop) (p : Int) (w : World) (h : Tl w t ls F) (hp : I64 p) :
    Calls Tryz.prog 174 #[ptr t, .int .i64 p] w fun r w' => r = .returned (.tuple #[((findT p ls).getD Lf.none).v, .bool (findT p ls).isSome]) ∧ NowT w w' t (touchT p ls) F := by
  obtain ⟨s, F0, h1, h2, h3, h4', h5, h6⟩ := h
  obtain ⟨W, hW⟩ : ∃ W, W = w.alloc (.cells #[.int .i64 0, .int .i64 0, .int .i64 0] 64) := ⟨_, rfl⟩
  have hB : Blk W w.heap.size Lf.none.vs 64 := by rw [hW]; exact Blk.new w _ 64
  have hKW : Keeps (fun _ => False) w W := by rw [hW]; exact (Keeps.refl _ w).alloc _
  have HW : Hid (W = _ ∧ Keeps (fun _ => False) w W ∧ Blk W w.heap.size Lf.none.vs 64) := ⟨hW, hKW, hB⟩
  have h1' : Blk W t [ptr s] 126 := h1.kept hKW fun h => h
  have h2' : Sf W s 4 (kv ls) F0 := h2.kept hKW fun _ _ h => h
  have c0 := h1'.cell (i := 0) rfl
  rw [hW] at c0
  have H1 : Hid (Calls _ _ _ _ _) := get_any s 4 (kv ls) F0 p W h2' hp
  rw [look_kv, touch_kv] at H1
  have HH : Hid (Blk W t [ptr s] 126 ∧ ¬ F0 t ∧ F t ∧ (∀ b, F0 b → F b) ∧ ∀ b, F b → b < w.heap.size) := ⟨h1', h3, h4', h5, h6⟩
  clear hW hKW hB h1' h2' h1 h2 h3 h4' h5 h6
  obtain ⟨x, hx⟩ : ∃ x, x = (findT p ls).getD Lf.none := ⟨_, rfl⟩
  rw [← hx] at H1 ⊢
  clear hx
  go_enter Tryz.func174, Tryz.ntmps174
  go_wp2_with fail
  rw [← HW.out.1]
  refine H1.out.mono ?_
  rintro r w1 ⟨rfl, hN⟩
  have HN : Hid (Now W w1 s 4 (kv (touchT p ls)) F0) := hN
  have hB1 : Blk w1 w.heap.size Lf.none.vs 64 := HW.out.2.2.kept hN.2 fun h => by have := HH.out.2.2.2.2 _ (HH.out.2.2.2.1 _ h); omega
  have HB : Hid (Blk w1 w.heap.size Lf.none.vs 64) := hB1
  clear hN H1 c0
  have c0 := hB1.cell (i := 0) rfl
  have c1 := hB1.cell (i := 1) rfl
  have c2 := hB1.cell (i := 2) rfl
  have f0 := hB1.frozen 0
  have f1 := hB1.frozen 1
  have f2 := hB1.frozen 2
  clear hB1
  go_wp2
  refine bodyPost_ret (results_cell_tmp rfl _ _ _ x.v rfl (load_leaf (HB.out.setLeaf x))) rfl ?_
  obtain ⟨h1, h3, h4, h5, h6⟩ := HH.out
  obtain ⟨⟨F', hN1, hN2⟩, hK⟩ := HN.out
  have hz := HW.out.2.2.lt
  have hK4 := (Keeps.refl (fun b => b = w.heap.size) w1).setLeaf w.heap.size x (fun _ => rfl)
  refine ⟨rfl, nowT_mk ((h1.kept hK h3).kept hK4 ?_) h3 h4 h5 h6 (hN1.kept hK4 fun b hb he => ?_) (fun b hb => ?_) ?_⟩
  · have := h6 t h4; omega
  · rcases hN2 b hb with h | h
    · have := h6 b (h5 b h); omega
    · omega
  · rcases hN2 b hb with h | h
    · exact .inl h
    · exact .inr (by omega)
  · exact ((HW.out.2.1.mono fun _ _ h => h.elim).trans hK fun b _ hb => h5 b hb).trans hK4 fun b hb he => by omega

end Go.Proofs.YtipejahmjdamjaaGreatDoor.Tl
namespace Go.Proofs.YtipejahmjdamjaaGreatDoor.Tl
open Go.RowKit Go.Shelf
set_option linter.unusedVariables false

/-! ### A region in a round by the laws of one that is in none -/
section
variable {P : Program} {ops : Array Oper} {Q : Exit → Act → World → Prop} {md : Region.Mode} {S : World → Prop}

theorem rowsIn_round {n l : Nat} {row : String} {args : Array Value} {w : World} {R : Value → World → Prop} (h : Rows P row args w R) : RowsIn (Fence.wide.inRound l) n P row args w R :=
  fun c cs _ => let ⟨v, w', r, s⟩ := h c cs; ⟨v, w', r, stepsIn_wide.2 s⟩

theorem wpOp_inRound {n l i : Nat} {a : Act} {w : World} {K K' : Act → World → Prop} (hnd : ∀ o, ops[i]? = some o → ∀ c, o.op ≠ .defer c) (hQ : ¬ LetsOut Q) (hK : ∀ a w, K a w → K' a w)
    (h : wpOp P ops Q i K a w) : wpOpIn (Fence.wide.inRound l) n P ops Q i K' a w := by
  unfold wpOp at h
  unfold wpOpIn
  cases ho : ops[i]? with
  | none => rw [ho] at h; exact hK _ _ h
  | some o =>
    rw [ho] at h
    simp only at h ⊢
    split
    · rename_i hw
      rw [if_pos hw] at h
      rcases h with h | h
      · refine ⟨fun f _ => trivial, ?_⟩
        rw [Oper.semAt_plain _ _ _ (hnd o ho)]
        unfold Oper.wp at h
        revert h
        generalize (execOp a.eval o).run P w = r
        intro h
        cases r with
        | ok x w' =>
          cases x with
          | value v => exact hK _ _ h
          | skip => exact hK _ _ h
          | defer d => exact hK _ _ h
          | enter f args =>
            refine ⟨fun h => by simp [Fence.inRound, Fence.wide] at h, ?_⟩
            refine (CallsIn.inRound l (callsIn_wide.2 h)).mono ?_
            intro e w2 he
            cases e with
            | returned v => exact hK _ _ he
            | panicked c => exact he
            | outgrown => exact he
          | row r args =>
            refine ⟨fun h => by simp [Fence.inRound, Fence.wide] at h, ?_⟩
            exact (rowsIn_round h).mono fun v w2 hv => hK _ _ hv
          | _ => exact h.elim
        | halt x w' =>
          cases x <;> exact h
      · exact absurd h.2 hQ
    · rename_i hw
      rw [if_neg hw] at h
      exact ⟨fun f _ => trivial, hK _ _ h⟩

theorem wpAny_inRound {n l : Nat} (hnd : ∀ (i : Nat) (o : Oper), ops[i]? = some o → ∀ (c : Call), o.op ≠ .defer c) (hQ : ¬ LetsOut Q) : ∀ (fuel : Nat) (listed : Array Bool) (a : Act) (w : World), wpAny P md ops Q fuel listed a w → wpAnyIn (Fence.wide.inRound l) n P md ops Q fuel listed a w
  | 0, _, _, _, h => h
  | fuel + 1, listed, a, w, h => ⟨h.1, fun i hi => wpOp_inRound (hnd i) hQ (wpAny_inRound hnd hQ fuel _) (h.2 i hi)⟩

/-- The beginning of such a walk. -/
theorem region_inRound {n l id : Nat} {a : Act} {w : World} (hm : P.follows .mixedOrders = true) (hnd : ∀ (i : Nat) (o : Oper), ops[i]? = some o → ∀ (c : Call), o.op ≠ .defer c) (hQ : ¬ LetsOut Q) (S : World → Prop) (hS : S w.drew)
    (h : S w.drew → wpAnyH P .any ops Q S ops.size (Array.replicate ops.size false) a w.drew) : (Code.region id ops true).wpIn (Fence.wide.inRound l) n P Q a w :=
  wpIn_region_any hm (wpAny_inRound hnd hQ _ _ _ _ (wpAny_of_held _ _ _ _ (h hS)))
end

end Go.Proofs.YtipejahmjdamjaaGreatDoor.Tl
