import Derived.Test.YtljhdijledclhaaKd
namespace Go.Proofs.Ytljhdijledclhaa
open Go.RowKit Go.Shelf
attribute [local go_sem] Oper.semAt_some
attribute [local go_sem] func_nil57 func_nil58
set_option linter.unusedVariables false

/-- One of the two captured memories is nil. -/
def Nul (B1 B2 : Nat) (W : World) : Prop := ∃ p1 p2, W.cell? ⟨B1, 0, none⟩ = some (.pointer p1) ∧ W.cell? ⟨B2, 0, none⟩ = some (.pointer p2) ∧ (p1 = none ∨ (∃ x, p1 = some x) ∧ p2 = none)

theorem differ_none (n : Nat) (B1 B2 : Nat) :
    Tells Fence.wide n Try.prog 54 #[.pointer (some ⟨B1, 0, none⟩), .pointer (some ⟨B2, 0, none⟩)] encD (fun _ => Nul B1 B2) (fun _ _ _ => False) (fun _ _ _ => False) (fun s _ => s) (fun s => s = 0) (0 : Nat) := by
  intro l J Jx W hgood hskip hdrew hyield h0
  obtain ⟨p1, p2, q1, q2, hp⟩ := hgood _ _ h0
  have HJ : Hid (J 0 W) := h0
  clear hgood hskip hdrew hyield h0
  refine callsIn_of_wp Try.func54 rfl trivial ?_ rfl
  refine wpIn_wide.2 ?_
  simp only [Try.ntmps54, List.size_toArray, List.length_cons, List.length_nil, Nat.reduceAdd, Nat.reduceSub, Array.replicate_succ, Array.replicate_zero, List.push_toArray, List.append_toArray, List.nil_append, List.cons_append]
  rcases hp with rfl | ⟨⟨x, rfl⟩, rfl⟩
  · go_wp2
    refine bodyPost_ret (results_none rfl _ _ _) rfl ?_
    exact ⟨⟨_, rfl⟩, .inl ⟨0, rfl, HJ.out⟩⟩
  · go_wp2
    refine bodyPost_ret (results_none rfl _ _ _) rfl ?_
    exact ⟨⟨_, rfl⟩, .inl ⟨0, rfl, HJ.out⟩⟩

def AlnI (w W : World) : Prop := Keeps (fun _ => False) w W ∧ Blk W (w.heap.size + 1) [.slice none 0 0] 62

set_option maxRecDepth 20000 in
set_option maxHeartbeats 4000000 in
theorem along_none (B1 B2 N : Nat) (w : World) (hq : Nul B1 B2 w) (hN : 1 ≤ N) :
    Calls Try.prog 24 #[.func (.func 54) #[] #[.pointer (some ⟨B1, 0, none⟩), .pointer (some ⟨B2, 0, none⟩)], .int .i64 N] w fun e w' => e = .returned (.slice none 0 0) ∧ Keeps (fun _ => False) w w' := by
  have HQ : Hid (∀ W, Keeps (fun _ => False) w W → Nul B1 B2 W) := fun W hK => by
    obtain ⟨p1, p2, q1, q2, hp⟩ := hq
    exact ⟨p1, p2, cell_kept' q1 hK fun e => e, cell_kept' q2 hK fun e => e, hp⟩
  have hN1 : ¬ ((N : Int) < 1) := by omega
  have HN0 : Hid (1 ≤ N) := hN
  clear hq hN
  refine (callsIn_wide (n := 8)).1 ?_
  refine callsIn_of_wp_marks Try.func24 rfl trivial ?_ rfl
  refine wpIn_wide.2 ?_
  simp only [Try.ntmps24, List.size_toArray, List.length_cons, List.length_nil, Nat.reduceAdd, Nat.reduceSub, Array.replicate_succ, Array.replicate_zero, List.push_toArray, List.append_toArray, List.nil_append, List.cons_append]
  go_wp2
  refine (wpIn_wide (n := 8)).1 ?_
  have h0 : AlnI w ((w.alloc (Obj.cells #[Value.int IntKind.i64 ↑N] 3)).alloc (Obj.cells #[Value.slice none 0 0] 62)) := by
    have e1 := Blk.new w #[Value.int IntKind.i64 ↑N] 3
    have e2 := Blk.new (w.alloc (Obj.cells #[Value.int IntKind.i64 ↑N] 3)) #[Value.slice none 0 0] 62
    rw [World.size_alloc] at e2
    exact ⟨((Keeps.refl _ w).alloc _).alloc _, e2⟩
  have hsz : ((w.alloc (Obj.cells #[Value.int IntKind.i64 ↑N] 3)).alloc (Obj.cells #[Value.slice none 0 0] 62)).heap.size = w.heap.size + 2 := by simp
  revert h0 hsz
  generalize (w.alloc (Obj.cells #[Value.int IntKind.i64 ↑N] 3)).alloc (Obj.cells #[Value.slice none 0 0] 62) = W0
  intro h0 hsz
  have HZ : Hid (W0.heap.size = w.heap.size + 2) := hsz
  have kp : ∀ (s : Nat) W W', Keeps (fun k => k = W0.heap.size ∨ k = W0.heap.size + 1) W W' → AlnI w W → AlnI w W' := fun s W W' hK h => ⟨h.1.trans hK fun b hb e => by have := HZ.out; rcases e with e | e <;> omega, h.2.kept hK fun e => by have := HZ.out; rcases e with e | e <;> omega⟩
  refine range_live (σ := Nat) (α := Nat) rfl (by omega) (gf := 54) (lb := #[.pointer (some ⟨B1, 0, none⟩), .pointer (some ⟨B2, 0, none⟩)]) rfl trivial (enters_of Try.func54 (by kernel_rfl) rfl)
    (differ_none 7 B1 B2) (fun _ => rfl) (fun _ => AlnI w) (fun _ _ => False) kp
    (fun s x W W' hK hi ht => ht.elim)
    (fun _ _ _ _ h => h) (fun s W hi => HQ.out W hi.1)
    (fun s s' W hi hs => hs.elim)
    h0
    (fun x => { tmps := #[Value.func (Fn.func 54) #[] #[Value.pointer (some { block := B1, off := 0 }), Value.pointer (some { block := B2, off := 0 })],
          Value.int IntKind.i64 ↑N, undef, Value.pointer (some { block := w.heap.size, off := 0 }),
          Value.slice none 0 0, Value.pointer (some { block := w.heap.size + 1, off := 0 }), .int .i64 (x : Int),
          Value.func (Fn.func 54) #[] #[Value.pointer (some { block := B1, off := 0 }), Value.pointer (some { block := B2, off := 0 })],
          Value.bool false, undef, Value.int IntKind.i64 ↑N, Value.bool false, undef,
          Value.func (Fn.func 54) #[] #[Value.pointer (some { block := B1, off := 0 }), Value.pointer (some { block := B2, off := 0 })],
          .int .i64 (x : Int), undef, undef, undef, undef, undef, undef, undef, undef, undef], defers := [] }) ?assign ?body ?done ?stop
  case assign =>
    intro l x W K hK
    unfold encD
    gi_wp2
    exact hK
  case body =>
    rintro l s x W hlt hi h
    exact h.elim
  case done =>
    rintro s W hf hi hD
    have c5 := hi.2.cell (i := 0) rfl
    have HK : Hid (Keeps (fun _ => False) w W) := hi.1
    clear hi kp h0
    gi_wp2
    go_wp2
    have hKf : Keeps (· = W0.heap.size) W (W.putObj W0.heap.size (.deferred none)) := ⟨rfl, rfl, rfl, by simp, fun k _ hn => World.putObj_heap_other hn⟩
    refine ⟨by simp, .inl ⟨_, _, rfl, run_takeDeferred hD, ?_⟩⟩
    have hz := HZ.out
    exact ⟨_, results_tmp rfl _ _ _, rfl, HK.out.trans hKf fun b hb e => by omega⟩
  case stop =>
    rintro c W h _
    exact h.elim

end Go.Proofs.Ytljhdijledclhaa
