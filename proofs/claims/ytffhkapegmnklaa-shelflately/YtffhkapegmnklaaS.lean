import Derived.Test.YtffhkapegmnklaaR
import Derived.Deep.RegionHeld3
namespace Go.Proofs.Ytffhkapegmnklaa
open Go.RowKit Go.Shelf
attribute [local go_sem] Oper.semAt_some
set_option linter.unusedVariables false

/-- These answers can be read at this address. -/
def SegB (w : World) (a : Option Addr) (n : Nat) : Prop := n = 0 ∨ ∃ g o, a = some ⟨g, o, none⟩ ∧ ∀ j, j < n → ∃ b, w.cell? ⟨g, o + j, none⟩ = some (.bool b)

set_option maxRecDepth 20000 in
set_option maxHeartbeats 2000000 in
theorem lt_long (room : Int) (a1 a2 : Option Addr) (n1 n2 c1 c2 : Nat) (w : World) (h1 : (n1 : Int) ≤ 9223372036854775807) (h2 : (n2 : Int) ≤ 9223372036854775807) (hb1 : (n1 : Int) > 2147483647) :
    Calls Try.prog 4 #[.int .i64 room, .slice a1 n1 c1, .slice a2 n2 c2] w fun r w' => r = .returned (.bool true) ∧ Keeps (fun _ => False) w w' := by
  refine (callsIn_wide (n := 8)).1 ?_
  refine callsIn_of_wp_marks Try.func4 rfl trivial ?_ rfl
  refine wpIn_wide.2 ?_
  simp only [Try.ntmps4, List.size_toArray, List.length_cons, List.length_nil, Nat.reduceAdd, Nat.reduceSub, Array.replicate_succ, Array.replicate_zero, List.push_toArray, List.append_toArray, List.nil_append, List.cons_append]
  go_wp2
  refine ⟨.bool true, results_cell_val rfl _ _ w.heap.size (.bool true) rfl (by simp [go_sem]), rfl, ?_⟩
  exact (Keeps.refl _ w).alloc _

set_option maxRecDepth 20000 in
set_option maxHeartbeats 2000000 in
theorem lt_room (room : Int) (a1 a2 : Option Addr) (n1 n2 c1 c2 : Nat) (w : World) (h1 : (n1 : Int) ≤ 2147483647) (h2 : (n2 : Int) ≤ 9223372036854775807) (hb : room < 1 ∨ 4096 < room) :
    Calls Try.prog 4 #[.int .i64 room, .slice a1 n1 c1, .slice a2 n2 c2] w fun r w' => r = .returned (.bool true) ∧ Keeps (fun _ => False) w w' := by
  have H1 : Hid (∀ w, Calls Try.prog 16 #[.int .i64 room] w _) := fun w => new_out room w hb
  have H2 : Hid (∀ w, Calls Try.prog 7 #[] w _) := fun w => awake_any w
  have HR : Hid (Blk _ w.heap.size [.bool false] 4) := Blk.new w #[.bool false] 4
  rcases hb with hb | hb
  all_goals
    refine (callsIn_wide (n := 8)).1 ?_
    refine callsIn_of_wp_marks Try.func4 rfl trivial ?_ rfl
    refine wpIn_wide.2 ?_
    simp only [Try.ntmps4, List.size_toArray, List.length_cons, List.length_nil, Nat.reduceAdd, Nat.reduceSub, Array.replicate_succ, Array.replicate_zero, List.push_toArray, List.append_toArray, List.nil_append, List.cons_append]
    go_wp2_with fail
    refine (H1.out _).mono ?_
    rintro r w1 ⟨rfl, hw⟩
    have hR1 : Hid (Blk w1 w.heap.size [.bool false] 4 ∧ Keeps (fun _ => False) w w1) := by rw [hw]; exact ⟨HR.out, (Keeps.refl _ w).alloc _⟩
    clear hw
    go_wp2_with fail
    refine (H2.out _).mono ?_
    rintro r w4 ⟨rfl, hK⟩
    have hR4 := hR1.out.1.kept hK fun h => h
    have HK : Hid (Keeps (fun _ => False) w w4) := hR1.out.2.trans hK fun _ _ h => h
    have c0 := hR4.cell (i := 0) rfl
    have f0 := hR4.frozen 0
    have HR5 : Hid (Blk (w4.setCell ⟨w.heap.size, 0, none⟩ (.bool true)) w.heap.size [.bool true] 4) := hR4.setCell 0 _
    clear hR4 hK
    go_wp2
    have hc := HR5.out.cell (i := 0) rfl
    refine ⟨.bool true, results_cell_val rfl _ _ w.heap.size (.bool true) rfl (by simp [go_sem, hc]), rfl, ?_⟩
    exact HK.out.setCell _ _ fun h => by simp at h

/-- Where the law's loop stands: the shelf, the uses' row, the answer's block. -/
structure Lt (w W : World) (s rm : Nat) (o : Value) (us : List Int) (kvs : List (Int × Value)) : Prop where
  ex : ∃ F : Nat → Prop, Sf W s rm kvs F ∧ (∀ b, F b → w.heap.size < b) ∧ ∀ b, o.ownBlock = some b → ¬ F b
  th : Things kvs
  eq : keysL kvs = latelyL us rm
  row : W.ownsRow 0 3 1 o us.length (ivs us)
  ob : ∀ b, o.ownBlock = some b → w.heap.size < b
  r : Blk W w.heap.size [.bool false] 4
  k : Keeps (fun _ => False) w W

section
variable {w W W' : World} {s rm : Nat} {o : Value} {us : List Int} {kvs : List (Int × Value)}
theorem Lt.grown (h : Lt w W s rm o us kvs) (hK : Keeps (fun _ => False) W W') : Lt w W' s rm o us kvs := by
  obtain ⟨F, h1, h2, h3⟩ := h.ex
  exact ⟨⟨F, h1.kept hK fun _ _ h => h, h2, h3⟩, h.th, h.eq, owns_kept h.row hK fun _ _ h => h, h.ob, h.r.kept hK fun h => h, h.k.trans hK fun _ _ h => h⟩

/-- A step on the shelf. -/
theorem Lt.step (h : Lt w W s rm o us kvs) {kvs' : List (Int × Value)} {Pe : Ending → Prop} {f : Nat} {args : Array Value}
    (hc : ∀ F, Sf W s rm kvs F → Calls Try.prog f args W fun e W' => Pe e ∧ Now W W' s rm kvs' F) (ht : Things kvs') :
    Calls Try.prog f args W fun e W' => Pe e ∧ (∃ F : Nat → Prop, Sf W' s rm kvs' F ∧ (∀ b, F b → w.heap.size < b) ∧ ∀ b, o.ownBlock = some b → ¬ F b) ∧ W'.ownsRow 0 3 1 o us.length (ivs us) ∧ Blk W' w.heap.size [.bool false] 4 ∧ Keeps (fun _ => False) w W' := by
  obtain ⟨F, h1, h2, h3⟩ := h.ex
  refine (hc F h1).mono ?_
  rintro e W' ⟨hp, ⟨⟨F', hS, hF⟩, hK⟩⟩
  refine ⟨hp, ⟨F', hS, fun b hb => ?_, fun b hb hf => ?_⟩, owns_kept h.row hK fun b hb hf => h3 b hb hf, h.r.kept hK fun hf => ?_, h.k.trans hK fun b hb hf => ?_⟩
  · rcases hF b hb with h' | h'
    · exact h2 b h'
    · have := h.r.lt; omega
  · rcases hF b hf with h' | h'
    · exact h3 b hb h'
    · have := (h.row.lt b hb).2; omega
  · have := h2 _ hf; omega
  · have := h2 _ hf; omega

/-- One use more. -/
theorem Lt.use {us : List Int} {kvs' : List (Int × Value)} {x : Int} {o' : Value} (hx : ∃ F : Nat → Prop, Sf W s rm kvs' F ∧ (∀ b, F b → w.heap.size < b) ∧ ∀ b, o.ownBlock = some b → ¬ F b) (ht : Things kvs')
    (he : keysL kvs' = latelyL (us ++ [x]) rm) (ho : ∀ b, o.ownBlock = some b → w.heap.size < b) (hr : Blk W w.heap.size [.bool false] 4) (hk : Keeps (fun _ => False) w W) (hrow : W'.ownsRow 0 3 1 o' (us.length + 1) (ivs us ++ [.int .i64 x])) (hG : Grew W o W' o') :
    Lt w W' s rm o' (us ++ [x]) kvs' := by
  obtain ⟨F, h1, h2, h3⟩ := hx
  have hno : ∀ b, F b → ¬ (some b = o.ownBlock) := fun b hb he => h3 b he.symm hb
  refine ⟨⟨F, h1.kept hG.keeps hno, h2, fun b hb hf => ?_⟩, ht, he, ?_, fun b hb => ?_, hr.kept hG.keeps fun he => ?_, hk.trans hG.keeps fun b hb he => ?_⟩
  · rcases hG.fresh with h | ⟨k', h, h5⟩
    · rw [h] at hb; exact h3 b hb hf
    · rw [h] at hb; cases hb; have := h1.lt _ hf; omega
  · have e1 : ivs (us ++ [x]) = ivs us ++ [.int .i64 x] := by simp [ivs]
    rw [e1, List.length_append]
    exact hrow
  · rcases hG.fresh with h | ⟨k', h, h5⟩
    · rw [h] at hb; exact ho b hb
    · rw [h] at hb; cases hb; have := hr.lt; omega
  · have := ho _ he.symm; omega
  · have := ho _ he.symm; omega
end

abbrev RetL (e : Ending) : Prop := ∃ v, e = .returned v

theorem things_touch {k : Int} {ks : List (Int × Value)} (h : Things ks) : Things (touch k ks) := by
  unfold touch
  cases hl : look k ks with
  | none => exact h
  | some v =>
    intro p hp
    rcases List.mem_append.1 hp with hp | hp
    · exact h p (List.mem_filter.1 hp).1
    · simp at hp
      rw [hp]
      unfold look at hl
      obtain ⟨q, hq, he⟩ := Option.map_eq_some_iff.1 hl
      rw [← he]
      exact h q (List.mem_of_find?_eq_some hq)

theorem look_lately {rm : Nat} {us : List Int} {kvs : List (Int × Value)} (h : keysL kvs = latelyL us rm) (k : Int) : decide (k ∈ latelyL us rm) = (look k kvs).isSome := by
  rw [look_iff, ← h]
  congr 1
  simp [keysL]

end Go.Proofs.Ytffhkapegmnklaa
