import Derived.Test.YtffhkapegmnklaaJ
namespace Go.Proofs.Ytffhkapegmnklaa
open Go.RowKit Go.Shelf
attribute [local go_sem] Oper.semAt_some
set_option linter.unusedVariables false

/-! ### A nil shelf with texts -/
theorem nfind (k : Int) (w : World) : Calls Try.prog 28 #[.pointer none, .int .i64 k] w fun r w' => r = .returned (.pointer none) ∧ w' = w := by
  go_enter Try.func28, Try.ntmps28
  go_wp2
  go_ret
  exact ⟨rfl, rfl⟩
theorem ntold (w : World) : Calls Try.prog 30 #[.pointer none] w fun r w' => r = .returned (.tuple #[.string ⟨#[]⟩, .bool false]) ∧ w' = w := by
  go_enter Try.func30, Try.ntmps30
  go_wp2
  go_ret2
  exact ⟨rfl, rfl⟩
theorem nget (k : Int) (w : World) : Calls Try.prog 8 #[.pointer none, .int .i64 k] w fun r w' => r = .returned (.tuple #[.string ⟨#[]⟩, .bool false]) ∧ w' = w := by
  have H1 : Hid (Calls _ _ _ _ _) := nfind k w
  have H2 : Hid (Calls _ _ _ _ _) := ntold w
  go_enter Try.func8, Try.ntmps8
  go_wp2_with fail
  refine H1.out.mono ?_
  rintro r w1 ⟨rfl, rfl⟩
  go_wp2_with fail
  refine H2.out.mono ?_
  rintro r w1 ⟨rfl, rfl⟩
  go_wp2
  go_ret2
  exact ⟨rfl, rfl⟩
theorem npeek (k : Int) (w : World) : Calls Try.prog 9 #[.pointer none, .int .i64 k] w fun r w' => r = .returned (.tuple #[.string ⟨#[]⟩, .bool false]) ∧ w' = w := by
  have H1 : Hid (Calls _ _ _ _ _) := nfind k w
  have H2 : Hid (Calls _ _ _ _ _) := ntold w
  go_enter Try.func9, Try.ntmps9
  go_wp2_with fail
  refine H1.out.mono ?_
  rintro r w1 ⟨rfl, rfl⟩
  go_wp2_with fail
  refine H2.out.mono ?_
  rintro r w1 ⟨rfl, rfl⟩
  go_wp2
  go_ret2
  exact ⟨rfl, rfl⟩
theorem nput (k : Int) (t : ByteArray) (w : World) : Calls Try.prog 10 #[.pointer none, .int .i64 k, .string t] w fun r w' => r = .returned (.tuple #[.int .i64 0, .bool false]) ∧ w' = w := by
  go_enter Try.func10, Try.ntmps10
  go_wp2
  go_ret2
  exact ⟨rfl, rfl⟩
theorem nclear (w : World) : Calls Try.prog 11 #[.pointer none] w fun r w' => r = .returned (.tuple #[]) ∧ w' = w := by
  go_enter Try.func11, Try.ntmps11
  go_wp2
  refine bodyPost_ret (results_none rfl _ _ _) rfl ?_
  exact ⟨rfl, rfl⟩
theorem nall (w : World) : Calls Try.prog 12 #[.pointer none] w fun r w' => r = .returned (.func (.func 33) #[] #[.pointer (some ⟨w.heap.size, 0, none⟩)]) ∧ w' = w.alloc (.cells #[.pointer none] 23) := by
  go_enter Try.func12, Try.ntmps12
  go_wp2
  go_ret
  exact ⟨rfl, rfl⟩
theorem ndrop (k : Int) (w : World) : Calls Try.prog 13 #[.pointer none, .int .i64 k] w fun r w' => r = .returned (.bool false) ∧ w' = w := by
  have H1 : Hid (Calls _ _ _ _ _) := nfind k w
  go_enter Try.func13, Try.ntmps13
  go_wp2_with fail
  refine H1.out.mono ?_
  rintro r w1 ⟨rfl, rfl⟩
  go_wp2
  go_ret
  exact ⟨rfl, rfl⟩
theorem nroom (w : World) : Calls Try.prog 14 #[.pointer none] w fun r w' => r = .returned (.int .i64 0) ∧ w' = w := by
  go_enter Try.func14, Try.ntmps14
  go_wp2
  go_ret
  exact ⟨rfl, rfl⟩
theorem nlen (w : World) : Calls Try.prog 15 #[.pointer none] w fun r w' => r = .returned (.int .i64 0) ∧ w' = w := by
  go_enter Try.func15, Try.ntmps15
  go_wp2
  go_ret
  exact ⟨rfl, rfl⟩
theorem nitems (w : World) : Calls Try.prog 34 #[.pointer none] w fun r w' => r = .returned (.slice none 0 0) ∧ w' = w := by
  go_enter Try.func34, Try.ntmps34
  go_wp2
  go_ret
  exact ⟨rfl, rfl⟩
set_option maxHeartbeats 1000000 in
theorem nall1 (B1 l : Nat) (w : World) (p1 : w.cell? ⟨B1, 0, none⟩ = some (.pointer none)) : Calls Try.prog 33 #[.func (.yield l) #[] #[], .pointer (some ⟨B1, 0, none⟩)] w fun r w' => (∃ v, r = .returned v) ∧ w' = w := by
  have H1 : Hid (Calls _ _ _ _ _) := nitems w
  go_enter Try.func33, Try.ntmps33
  go_wp2_with fail
  refine H1.out.mono ?_
  rintro r w1 ⟨rfl, rfl⟩
  clear H1 p1
  go_wp2
  go_loopw [8] (fun i wr => i = .int .i64 0 ∧ wr = w1) (fun _ _ => 0)
  case atStart => exact ⟨rfl, rfl⟩
  case round =>
    obtain ⟨rfl, rfl⟩ := hrel
    go_wp2
    go_end0
    exact ⟨⟨_, rfl⟩, rfl⟩

/-- A range over an iterator that tells nothing. -/
theorem range_none {F : Fence} {n : Nat} {P : Program} {g : Operand} {ps : Array Tmp} {assign body : Code} {Q : Exit → Act → World → Prop} {a : Act} {w : World}
    (hro : F.round = none) (h1 : 1 ≤ n) {gf : Nat} {lb : Array Value} (hg : a.eval g = .func (.func gf) #[] lb) (hFg : F.fn gf) (eg : ∀ args w, (callFunc gf args).run P w = .ok (.enter gf args) w)
    (hseq : ∀ l W, Keeps (fun _ => False) w W → CallsIn F (n - 1) P gf (#[.func (.yield l) #[] #[]] ++ lb) W fun e W' => (∃ v, e = .returned v) ∧ W' = W)
    (hdone : ∀ W, Keeps (fun _ => False) w W → W.heap[w.heap.size]? = some (.deferred (some [])) → Q .normal { a with defers := { target := .collected w.heap.size, args := #[] } :: a.defers } W) :
    (Code.rangeFunc g ps assign body).wpIn F n P Q a w := by
  refine wpIn_rangeFunc fun fn hfn => ?_
  rw [hro]
  obtain ⟨B, hB⟩ : ∃ B, B = w.heap.size := ⟨_, rfl⟩
  rw [← hB] at hdone
  obtain ⟨rec, hrec⟩ : ∃ rec : LoopState → Option Code → Loop, rec = fun st pe => { state := st, pending := pe, fn, tmps := a.tmps, params := ps, assign, body, defers := B } := ⟨_, rfl⟩
  obtain ⟨W1, hW1⟩ : ∃ W1, (w.alloc (.deferred (some []))).alloc (.loop (rec .ready none)) = W1 := ⟨_, rfl⟩
  have hK0 : Keeps (fun _ => False) w W1 := by rw [← hW1]; exact ((Keeps.refl _ w).alloc _).alloc _
  have hL1 : W1.heap[B + 1]? = some (.loop (rec .ready none)) := by
    have := World.alloc_heap_new (w.alloc (.deferred (some []))) (.loop (rec .ready none))
    rw [World.size_alloc, ← hB, hW1] at this
    exact this
  have hD1 : W1.heap[B]? = some (.deferred (some [])) := by
    rw [← hW1, hB]; exact (Below.heap_alloc _ _ _ (by simp)).trans (World.alloc_heap_new w _)
  refine ⟨B + 1, [{ target := .collected B, args := #[] }], W1, { target := .fn (.func gf) lb, args := #[.func (.yield (B + 1)) #[] #[]] }, W1, gf,
    #[.func (.yield (B + 1)) #[] #[]] ++ lb, W1, ?_, ?_, ?_, ?_, fun _ => h1, ?_⟩
  · rw [← hW1, hrec, hB]; exact run_enterLoop_outer _ _ _ _ _
  · simp only [resolve, hg]
    simp [go_sem]
  · intro f' hf'; simp [Target.leads] at hf'; subst hf'; exact hFg
  · simp [invoke, go_sem, eg]
  refine (hseq (B + 1) W1 hK0).mono ?_
  rintro e W2 ⟨⟨v, rfl⟩, rfl⟩
  refine ⟨none, _, by have := run_endLoop (P := P) hL1 (by rw [hrec]; simp); rw [hrec] at this; exact this, hdone _ ?_ ((World.putObj_heap_other (by omega)).trans hD1)⟩
  exact hK0.trans (keeps_put W2 B (B + 1) _ (.inr rfl)) fun b hb h => by omega

theorem results_tmp_val {P : Program} {fn : Func} {t : Tmp} (h : fn.results = #[.tmp t]) (tmps : Array Value) (w : World) (v : Value) (hv : tmps.getD t undef = v) : (results fn tmps).run P w = .ok v w := by
  rw [← hv]; exact results_tmp h tmps P w

theorem func_nil29 (f : Fn) (a b : Array Value) (w : World) : (binOp .eql 29 (.func f a b) .nilFunc).run Try.prog w = .ok (.bool false) w := by kernel_rfl
theorem func_nil44 (f : Fn) (a b : Array Value) (w : World) : (binOp .eql 44 (.func f a b) .nilFunc).run Try.prog w = .ok (.bool false) w := by kernel_rfl

set_option maxHeartbeats 2000000 in
theorem none_any (w : World) : Calls Try.prog 3 #[] w fun r w' => r = .returned (.bool true) ∧ Keeps (fun _ => False) w w' := by
  have H0 : Hid (Calls _ _ _ _ _) := awake_any w
  refine (callsIn_wide (n := 8)).1 ?_
  refine callsIn_of_wp_marks Try.func3 rfl trivial ?_ rfl
  refine wpIn_wide.2 ?_
  simp only [Try.ntmps3, List.size_toArray, List.length_nil, Nat.reduceSub, Array.replicate_succ, Array.replicate_zero, List.push_toArray, List.append_toArray, List.nil_append, List.cons_append]
  go_wp2_with fail
  refine H0.out.mono ?_
  rintro r w1 ⟨rfl, hK1⟩
  have HK : Hid (Keeps (fun _ => False) w w1) := hK1
  have H1 : Hid (Calls _ _ _ _ _) := nget 1 w1
  have H2 : Hid (Calls _ _ _ _ _) := npeek 1 w1
  have H3 : Hid (∀ t, Calls _ _ _ _ _) := fun t => nput 1 t w1
  have H4 : Hid (Calls _ _ _ _ _) := nclear w1
  have H5 : Hid (Calls _ _ _ _ _) := nall w1
  clear hK1 H0
  go_wp2_with fail
  refine H1.out.mono ?_
  rintro r w2 ⟨rfl, rfl⟩
  go_wp2_with fail
  refine H2.out.mono ?_
  rintro r w3 ⟨rfl, rfl⟩
  go_wp2_with fail
  refine (H3.out _).mono ?_
  rintro r w4 ⟨rfl, rfl⟩
  go_wp2_with fail
  refine H4.out.mono ?_
  rintro r w5 ⟨rfl, rfl⟩
  go_wp2_with fail
  refine H5.out.mono ?_
  rintro r w6 ⟨rfl, hw6⟩
  have hB6 : Blk w6 w5.heap.size [.pointer none] 23 := by rw [hw6]; exact Blk.new w5 _ 23
  have hK6 : Keeps (fun _ => False) w w6 := by rw [hw6]; exact HK.out.alloc _
  have HB : Hid (Blk w6 w5.heap.size [.pointer none] 23 ∧ Keeps (fun _ => False) w w6) := ⟨hB6, hK6⟩
  revert HB
  generalize w5.heap.size = B1
  intro HB
  clear H1 H2 H3 H4 H5 HK hw6 hB6 hK6
  have hfn := func_nil29 (.func 33) #[] #[.pointer (some ⟨B1, 0, none⟩)] w6
  go_wp2
  clear hfn
  refine (wpIn_wide (n := 8)).1 ?_
  refine range_none rfl (by omega) (gf := 33) (lb := #[.pointer (some ⟨B1, 0, none⟩)]) rfl trivial (enters_of Try.func33 (by kernel_rfl) rfl) ?seq ?done
  case seq =>
    intro l W hK
    refine callsIn_wide.2 (nall1 B1 l W ?_)
    have hb := (HB.out.1.alloc (.cells #[.int .i64 0] 3)).kept hK fun h => h
    exact hb.cell rfl
  case done =>
    intro W hK hD
    have hn := ((Blk.new w6 #[.int .i64 0] 3).kept hK fun h => h).cell (i := 0) rfl
    have HD : Hid (Keeps (fun _ => False) w W ∧ ∃ D, W.heap[D]? = some (.deferred (some [])) ∧ w.heap.size ≤ D ∧ D = (w6.alloc (.cells #[.int .i64 0] 3)).heap.size) :=
      ⟨(HB.out.2.alloc _).trans hK fun _ _ h => h, _, hD, (HB.out.2.alloc _).size, rfl⟩
    have H1 : Hid (Calls _ _ _ _ _) := ndrop 1 W
    have H2 : Hid (Calls _ _ _ _ _) := nroom W
    have H3 : Hid (Calls _ _ _ _ _) := nlen W
    clear hK hD
    gi_wp2
    go_wp2_with fail
    refine H1.out.mono ?_
    rintro r W2 ⟨rfl, rfl⟩
    go_wp2_with fail
    refine H2.out.mono ?_
    rintro r W2 ⟨rfl, rfl⟩
    go_wp2_with fail
    refine H3.out.mono ?_
    rintro r W2 ⟨rfl, rfl⟩
    go_wp2
    obtain ⟨hK, D, hD, hlt, hDe⟩ := HD.out
    rw [World.size_alloc] at hDe
    rw [hDe] at hD hlt
    refine ⟨by simp, .inl ⟨_, _, rfl, run_takeDeferred hD, ?_⟩⟩
    refine ⟨.bool true, results_tmp_val (t := 0) rfl _ _ _ rfl, rfl, ?_⟩
    have hKf : Keeps (· = w6.heap.size + 1) W2 (W2.putObj (w6.heap.size + 1) (.deferred none)) := ⟨rfl, rfl, rfl, by simp, fun k _ hn => World.putObj_heap_other hn⟩
    exact hK.trans hKf fun b hb he => by omega

end Go.Proofs.Ytffhkapegmnklaa
