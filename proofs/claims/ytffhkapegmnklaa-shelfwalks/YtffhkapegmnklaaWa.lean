import Derived.Test.YtffhkapegmnklaaWn
namespace Go.Proofs.Ytffhkapegmnklaa
open Go.RowKit Go.Shelf
attribute [local go_sem] Oper.semAt_some
set_option linter.unusedVariables false

set_option maxRecDepth 20000 in
set_option maxHeartbeats 2000000 in
theorem wk_long (room stop other : Int) (a1 : Option Addr) (n1 c1 : Nat) (w : World) (h1 : (n1 : Int) ≤ 9223372036854775807) (hb1 : (n1 : Int) > 2147483647) :
    Calls Try.prog 5 #[.int .i64 room, .slice a1 n1 c1, .int .i64 stop, .int .i64 other] w fun r w' => r = .returned (.bool true) ∧ Keeps (fun _ => False) w w' := by
  refine (callsIn_wide (n := 8)).1 ?_
  refine callsIn_of_wp_marks Try.func5 rfl trivial ?_ rfl
  refine wpIn_wide.2 ?_
  simp only [Try.ntmps5, List.size_toArray, List.length_cons, List.length_nil, Nat.reduceAdd, Nat.reduceSub, Array.replicate_succ, Array.replicate_zero, List.push_toArray, List.append_toArray, List.nil_append, List.cons_append]
  go_wp2
  refine ⟨.bool true, results_cell_val rfl _ _ (w.heap.size + 1) (.bool true) rfl (by simp [go_sem]), rfl, ?_⟩
  exact ((Keeps.refl _ w).alloc _).alloc _

set_option maxRecDepth 20000 in
set_option maxHeartbeats 2000000 in
theorem wk_room (room stop other : Int) (a1 : Option Addr) (n1 c1 : Nat) (w : World) (h1 : (n1 : Int) ≤ 2147483647) (hb : room < 1 ∨ 4096 < room) :
    Calls Try.prog 5 #[.int .i64 room, .slice a1 n1 c1, .int .i64 stop, .int .i64 other] w fun r w' => r = .returned (.bool true) ∧ Keeps (fun _ => False) w w' := by
  have H1 : Hid (∀ w, Calls Try.prog 16 #[.int .i64 room] w _) := fun w => new_out room w hb
  have H2 : Hid (∀ w, Calls Try.prog 7 #[] w _) := fun w => awake_any w
  have HR : Hid (Blk ((w.alloc (.cells #[.int .i64 stop] 3)).alloc (.cells #[.bool false] 4)) (w.heap.size + 1) [.bool false] 4) := by
    have := Blk.new (w.alloc (.cells #[.int .i64 stop] 3)) #[.bool false] 4
    rw [World.size_alloc] at this
    exact this
  rcases hb with hb | hb
  all_goals
    refine (callsIn_wide (n := 8)).1 ?_
    refine callsIn_of_wp_marks Try.func5 rfl trivial ?_ rfl
    refine wpIn_wide.2 ?_
    simp only [Try.ntmps5, List.size_toArray, List.length_cons, List.length_nil, Nat.reduceAdd, Nat.reduceSub, Array.replicate_succ, Array.replicate_zero, List.push_toArray, List.append_toArray, List.nil_append, List.cons_append]
    go_wp2_with fail
    refine (H1.out _).mono ?_
    rintro r w1 ⟨rfl, hw⟩
    have hR1 : Hid (Blk w1 (w.heap.size + 1) [.bool false] 4 ∧ Keeps (fun _ => False) w w1) := by rw [hw]; exact ⟨HR.out, ((Keeps.refl _ w).alloc _).alloc _⟩
    clear hw
    go_wp2_with fail
    refine (H2.out _).mono ?_
    rintro r w4 ⟨rfl, hK⟩
    have hR4 := (hR1.out.1.alloc (.cells #[.pointer none] 35)).kept hK fun h => h
    have HK : Hid (Keeps (fun _ => False) w w4) := (hR1.out.2.alloc _).trans hK fun _ _ h => h
    have c0 := hR4.cell (i := 0) rfl
    have f0 := hR4.frozen 0
    have HR5 : Hid (Blk (w4.setCell ⟨w.heap.size + 1, 0, none⟩ (.bool true)) (w.heap.size + 1) [.bool true] 4) := hR4.setCell 0 _
    clear hR4 hK
    go_wp2
    have hc := HR5.out.cell (i := 0) rfl
    refine ⟨.bool true, results_cell_val rfl _ _ (w.heap.size + 1) (.bool true) rfl (by simp [go_sem, hc]), rfl, ?_⟩
    exact HK.out.setCell _ _ fun h => by simp at h; omega

/-- Where the law stands: the shelf behind its box, the number at which a range stops, the answer's block. -/
structure Wk (w W : World) (S9 s rm : Nat) (stop : Int) (kvs : List (Int × Value)) : Prop where
  ex : ∃ F : Nat → Prop, Sf W s rm kvs F ∧ ∀ b, F b → w.heap.size + 2 ≤ b ∧ b ≠ S9
  st : Blk W w.heap.size [.int .i64 stop] 3
  r : Blk W (w.heap.size + 1) [.bool false] 4
  b9 : Blk W S9 [ptr s] 35
  lo : w.heap.size + 2 ≤ S9
  k : Keeps (fun _ => False) w W

section
variable {w W W' : World} {S9 s rm : Nat} {stop : Int} {kvs : List (Int × Value)}
theorem Wk.grown (h : Wk w W S9 s rm stop kvs) (hK : Keeps (fun _ => False) W W') : Wk w W' S9 s rm stop kvs := by
  obtain ⟨F, h1, h2⟩ := h.ex
  exact ⟨⟨F, h1.kept hK fun _ _ h => h, h2⟩, h.st.kept hK fun h => h, h.r.kept hK fun h => h, h.b9.kept hK fun h => h, h.lo, h.k.trans hK fun _ _ h => h⟩
theorem Wk.moved (h : Wk w W S9 s rm stop kvs) {F : Nat → Prop} (hF : ∀ b, F b → w.heap.size + 2 ≤ b ∧ b ≠ S9) (hK : Keeps F W W') {kvs' : List (Int × Value)} {F' : Nat → Prop} (hS : Sf W' s rm kvs' F') (hF' : ∀ b, F' b → F b ∨ W.heap.size ≤ b) : Wk w W' S9 s rm stop kvs' := by
  have hb := h.b9.lt
  refine ⟨⟨F', hS, fun b hb' => ?_⟩, h.st.kept hK fun hf => by have := hF _ hf; omega, h.r.kept hK fun hf => by have := hF _ hf; omega, h.b9.kept hK fun hf => (hF _ hf).2 rfl, h.lo, h.k.trans hK fun b hb hf => by have := hF _ hf; omega⟩
  rcases hF' b hb' with h' | h'
  · exact hF b h'
  · have := h.lo; exact ⟨by omega, by omega⟩
theorem Wk.put (h : Wk w W S9 s rm stop kvs) (k n : Int) (hk : I64 k) : Calls Try.prog 20 #[ptr s, .int .i64 k, .int .i64 n] W fun e W' => RetW e ∧ Wk w W' S9 s rm stop (putL rm k (.int .i64 n) kvs) := by
  obtain ⟨F, h1, h2⟩ := h.ex
  refine (put_any s rm kvs F k n W h1 hk).mono ?_
  rintro e W' ⟨he, ⟨⟨F', hS, hF⟩, hK⟩⟩
  exact ⟨⟨_, he⟩, h.moved h2 hK hS hF⟩
end

end Go.Proofs.Ytffhkapegmnklaa
