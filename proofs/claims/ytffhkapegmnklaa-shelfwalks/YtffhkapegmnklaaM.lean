import Derived.Test.YtffhkapegmnklaaL
namespace Go.Proofs.Ytffhkapegmnklaa
open Go.RowKit Go.Shelf
attribute [local go_sem] Oper.semAt_some
set_option linter.unusedVariables false

theorem obj_kept {S : Nat → Prop} {w w' : World} {d : Nat} {o : Obj} (h : w.heap[d]? = some o) (hK : Keeps S w w') (hn : ¬ S d) : w'.heap[d]? = some o :=
  (hK.block d (Array.getElem?_eq_some_iff.1 h).1 hn).trans h

theorem results_cell_val {P : Program} {fn : Func} {p : Tmp} {ty : TypeId} (h : fn.results = #[.cell p ty]) (tmps : Array Value) (w : World) (g : Nat) (v : Value)
    (hp : tmps.getD p undef = .pointer (some ⟨g, 0, none⟩)) (hl : (loadVar ty ⟨g, 0, none⟩).run P w = .ok v w) : (results fn tmps).run P w = .ok v w := by
  have hp' : tmps[p]?.getD undef = .pointer (some ⟨g, 0, none⟩) := by simpa using hp
  simp [results, h, hp', asAddr, hl]

set_option maxRecDepth 20000 in
set_option maxHeartbeats 2000000 in
theorem apart_long (room : Int) (a1 a2 : Option Addr) (n1 n2 c1 c2 : Nat) (w : World) (h1 : (n1 : Int) ≤ 9223372036854775807) (h2 : (n2 : Int) ≤ 9223372036854775807) (hb : (n1 : Int) > 2147483647 ∨ (n2 : Int) > 2147483647) :
    Calls Try.prog 6 #[.int .i64 room, .slice a1 n1 c1, .slice a2 n2 c2] w fun r w' => r = .returned (.bool true) ∧ Keeps (fun _ => False) w w' := by
  by_cases hb1 : (n1 : Int) > 2147483647
  · clear hb
    refine (callsIn_wide (n := 8)).1 ?_
    refine callsIn_of_wp_marks Try.func6 rfl trivial ?_ rfl
    refine wpIn_wide.2 ?_
    simp only [Try.ntmps6, List.size_toArray, List.length_cons, List.length_nil, Nat.reduceAdd, Nat.reduceSub, Array.replicate_succ, Array.replicate_zero, List.push_toArray, List.append_toArray, List.nil_append, List.cons_append]
    go_wp2
    refine ⟨.bool true, results_cell_val rfl _ _ w.heap.size (.bool true) rfl (by simp [go_sem]), rfl, ?_⟩
    exact (Keeps.refl _ w).alloc _
  · have hb2 : (n2 : Int) > 2147483647 := by omega
    clear hb
    refine (callsIn_wide (n := 8)).1 ?_
    refine callsIn_of_wp_marks Try.func6 rfl trivial ?_ rfl
    refine wpIn_wide.2 ?_
    simp only [Try.ntmps6, List.size_toArray, List.length_cons, List.length_nil, Nat.reduceAdd, Nat.reduceSub, Array.replicate_succ, Array.replicate_zero, List.push_toArray, List.append_toArray, List.nil_append, List.cons_append]
    go_wp2
    refine ⟨.bool true, results_cell_val rfl _ _ w.heap.size (.bool true) rfl (by simp [go_sem]), rfl, ?_⟩
    exact (Keeps.refl _ w).alloc _

set_option maxRecDepth 20000 in
set_option maxHeartbeats 2000000 in
theorem apart_room (room : Int) (a1 a2 : Option Addr) (n1 n2 c1 c2 : Nat) (w : World) (h1 : (n1 : Int) ≤ 2147483647) (h2 : (n2 : Int) ≤ 2147483647) (hb : room < 1 ∨ 4096 < room) :
    Calls Try.prog 6 #[.int .i64 room, .slice a1 n1 c1, .slice a2 n2 c2] w fun r w' => r = .returned (.bool true) ∧ Keeps (fun _ => False) w w' := by
  have H1 : Hid (∀ w, Calls Try.prog 16 #[.int .i64 room] w _) := fun w => new_out room w hb
  have H2 : Hid (∀ w, Calls Try.prog 7 #[] w _) := fun w => awake_any w
  have hR := Blk.new w #[.bool false] 4
  have HR : Hid (Blk _ w.heap.size [.bool false] 4) := hR
  clear hR
  by_cases hb1 : room < 1
  · clear hb
    refine (callsIn_wide (n := 8)).1 ?_
    refine callsIn_of_wp_marks Try.func6 rfl trivial ?_ rfl
    refine wpIn_wide.2 ?_
    simp only [Try.ntmps6, List.size_toArray, List.length_cons, List.length_nil, Nat.reduceAdd, Nat.reduceSub, Array.replicate_succ, Array.replicate_zero, List.push_toArray, List.append_toArray, List.nil_append, List.cons_append]
    go_wp2_with fail
    refine (H1.out _).mono ?_
    rintro r w1 ⟨rfl, hw⟩
    have hR1 : Hid (Blk w1 w.heap.size [.bool false] 4 ∧ Keeps (fun _ => False) w w1) := by rw [hw]; exact ⟨HR.out, (Keeps.refl _ w).alloc _⟩
    clear hw
    go_wp2_with fail
    refine (H1.out _).mono ?_
    rintro r w2 ⟨rfl, rfl⟩
    go_wp2_with fail
    refine (H1.out _).mono ?_
    rintro r w3 ⟨rfl, rfl⟩
    go_wp2_with fail
    refine (H2.out _).mono ?_
    rintro r w4 ⟨rfl, hK⟩
    have hR4 := hR1.out.1.kept hK fun h => h
    have HK : Hid (Keeps (fun _ => False) w w4) := hR1.out.2.trans hK fun _ _ h => h
    have c0 := hR4.cell (i := 0) rfl
    have f0 := hR4.frozen 0
    have HR5 : Hid (Blk (w4.setCell ⟨w.heap.size, 0, none⟩ (.bool true)) w.heap.size [.bool true] 4) := hR4.setCell 0 _
    clear hR4 hK
    go_wp2
    have hc := HR5.out.cell (i := 0) rfl
    refine ⟨.bool true, results_cell_val rfl _ _ w.heap.size (.bool true) rfl (by simp [go_sem, hc]), rfl, ?_⟩
    exact HK.out.setCell _ _ fun h => by simp at h
  · have hb2 : 4096 < room := by omega
    clear hb
    refine (callsIn_wide (n := 8)).1 ?_
    refine callsIn_of_wp_marks Try.func6 rfl trivial ?_ rfl
    refine wpIn_wide.2 ?_
    simp only [Try.ntmps6, List.size_toArray, List.length_cons, List.length_nil, Nat.reduceAdd, Nat.reduceSub, Array.replicate_succ, Array.replicate_zero, List.push_toArray, List.append_toArray, List.nil_append, List.cons_append]
    go_wp2_with fail
    refine (H1.out _).mono ?_
    rintro r w1 ⟨rfl, hw⟩
    have hR1 : Hid (Blk w1 w.heap.size [.bool false] 4 ∧ Keeps (fun _ => False) w w1) := by rw [hw]; exact ⟨HR.out, (Keeps.refl _ w).alloc _⟩
    clear hw
    go_wp2_with fail
    refine (H1.out _).mono ?_
    rintro r w2 ⟨rfl, rfl⟩
    go_wp2_with fail
    refine (H1.out _).mono ?_
    rintro r w3 ⟨rfl, rfl⟩
    go_wp2_with fail
    refine (H2.out _).mono ?_
    rintro r w4 ⟨rfl, hK⟩
    have hR4 := hR1.out.1.kept hK fun h => h
    have HK : Hid (Keeps (fun _ => False) w w4) := hR1.out.2.trans hK fun _ _ h => h
    have c0 := hR4.cell (i := 0) rfl
    have f0 := hR4.frozen 0
    have HR5 : Hid (Blk (w4.setCell ⟨w.heap.size, 0, none⟩ (.bool true)) w.heap.size [.bool true] 4) := hR4.setCell 0 _
    clear hR4 hK
    go_wp2
    have hc := HR5.out.cell (i := 0) rfl
    refine ⟨.bool true, results_cell_val rfl _ _ w.heap.size (.bool true) rfl (by simp [go_sem, hc]), rfl, ?_⟩
    exact HK.out.setCell _ _ fun h => by simp at h

end Go.Proofs.Ytffhkapegmnklaa
