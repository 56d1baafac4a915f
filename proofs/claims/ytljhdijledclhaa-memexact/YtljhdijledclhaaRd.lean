import Derived.Test.YtljhdijledclhaaRb
import Derived.Deep.RegionHeld2
namespace Go.Proofs.Ytljhdijledclhaa
open Go.RowKit
set_option linter.unusedVariables false
set_option linter.unusedSimpArgs false

theorem hk {P : Program} {md : Region.Mode} {ops : Array Oper} {Q : Exit → Act → World → Prop} {S : World → Prop} {oi : Oper} {fuel : Nat} {listed : Array Bool} {a : Act} {w : World} (i : Nat) (v : Value) (hS : S w) (h : wpAnyH P md ops Q S fuel (listed.setIfInBounds i true) (a.put oi.dst v) w)
    (hi : ops[i]? = some oi := by (simp only [List.getElem?_toArray, List.getElem?_cons_succ, List.getElem?_cons_zero]; exact rfl))
    (hs : Region.noSelect ops = true := by kernel_rfl) (hf : Region.free md ops listed i = true := by kernel_rfl) (hc : (Region.ready md ops listed).contains i = true := by kernel_rfl)
    (hQ : ∀ c a w, Q (.panic c) (a.put oi.dst v) w → Q (.panic c) a w := by exact fun _ _ _ h => h) (hg : Region.wanted oi (yielded ops a.tmps) = true := by kernel_rfl)
    (hr : ∀ w, S w → (execOp a.eval oi).run P w = .ok (.value v) w := by (intro w hSw; (try dsimp only at hSw); go_simp; try omega)) : wpAnyH P md ops Q S (fuel + 1) listed a w :=
  wpAnyH_take hi hs hf hc hQ (Or.inl ⟨hg, hr⟩) hS h
theorem hn {P : Program} {md : Region.Mode} {ops : Array Oper} {Q : Exit → Act → World → Prop} {S : World → Prop} {oi : Oper} {fuel : Nat} {listed : Array Bool} {a : Act} {w : World} (i : Nat) (hS : S w) (h : wpAnyH P md ops Q S fuel (listed.setIfInBounds i true) (a.put oi.dst undef) w)
    (hi : ops[i]? = some oi := by (simp only [List.getElem?_toArray, List.getElem?_cons_succ, List.getElem?_cons_zero]; exact rfl))
    (hs : Region.noSelect ops = true := by kernel_rfl) (hf : Region.free md ops listed i = true := by kernel_rfl) (hc : (Region.ready md ops listed).contains i = true := by kernel_rfl)
    (hQ : ∀ c a w, Q (.panic c) (a.put oi.dst undef) w → Q (.panic c) a w := by exact fun _ _ _ h => h) (hg : Region.wanted oi (yielded ops a.tmps) = false := by kernel_rfl) : wpAnyH P md ops Q S (fuel + 1) listed a w :=
  wpAnyH_take hi hs hf hc hQ (Or.inr ⟨hg, rfl⟩) hS h

theorem wp_append_run {o : Oper} {a : Act} {K : Act → World → Prop} {Q : Exit → Act → World → Prop} {P : Program} {w : World} (s x : Operand) (t k : TypeId)
    (ho : o.op = .call { callee := .builtin .append, args := #[s, x], argTypes := #[t, k] }) (vs vx v' : Value) (w' : World) (hs : a.eval s = vs) (hx : a.eval x = vx)
    (hr : ∀ ty, (Builtin.append_ #[t, k] ty #[vs, vx]).run P w = .ok v' w') (h : K (a.put o.dst v') w') : Oper.wp P o a w K Q := by
  unfold Oper.wp execOp
  simp only [ho, resolve, invoke, builtin, Sem.run_bind, Sem.run_pure, Result.andThen_ok, List.map_toArray, List.map_cons, List.map_nil, hs, hx, hr]
  exact h

set_option maxHeartbeats 400000 in
theorem new_out (n : Int) (w : World) (h : ¬ (1 ≤ n ∧ n ≤ 1024)) :
    Calls Try.prog 14 #[.int .i64 n] w fun e w' => e = .returned (.tuple #[.pointer none, .int .i64 50]) ∧ w' = w := by
  by_cases h1 : n < 1
  · clear h
    go_enter Try.func14, Try.ntmps14
    go_wp2
    go_ret2
    exact ⟨rfl, rfl⟩
  · have h2 : (1024 : Int) < n := by omega
    clear h
    go_enter Try.func14, Try.ntmps14
    go_wp2
    go_ret2
    exact ⟨rfl, rfl⟩

set_option maxHeartbeats 400000 in
theorem rnew_out (n : Int) (w : World) (h : ¬ (1 ≤ n ∧ n ≤ 1024)) :
    Calls Try.prog 28 #[.int .i64 n] w fun e w' => e = .returned (.tuple #[.pointer none, .int .i64 50]) ∧ w' = w := by
  by_cases h1 : n < 1
  · clear h
    go_enter Try.func28, Try.ntmps28
    go_wp2
    go_ret2
    exact ⟨rfl, rfl⟩
  · have h2 : (1024 : Int) < n := by omega
    clear h
    go_enter Try.func28, Try.ntmps28
    go_wp2
    go_ret2
    exact ⟨rfl, rfl⟩

theorem Rm.mk' {w : World} {b g : Nat} {xs : List UInt32} (hne : b ≠ g) (hb : Blk w b [.slice (some ⟨g, 0, none⟩) xs.length xs.length] 98) (hg : Blk w g (wvs xs) 26) (hs : xs.length ≤ 16384) : Rm w b g xs :=
  ⟨hne, ⟨_, Nat.le_refl _, hb⟩, ⟨[], by rw [List.append_nil]; exact hg⟩, hs⟩

set_option maxRecDepth 20000 in
set_option maxHeartbeats 400000 in
theorem rnew_walk (n : Nat) (w W1 : World) (N : Nat) (hn1 : (n : Int) ≤ 1024) (hn2 : ¬ ((n : Int) < 1)) (HM : Hid ((Instr.makeSlice 27 (.int .i64 (16 * (n : Int))) (.int .i64 (16 * (n : Int)))).run Try.prog w = .ok (.slice (some ⟨w.heap.size, 0, none⟩) N N) W1)) :
    Calls Try.prog 28 #[.int .i64 n] w fun e w' => e = .returned (.tuple #[.pointer (some ⟨W1.heap.size, 0, none⟩), .int .i64 0]) ∧ w' = W1.alloc (.cells #[.slice (some ⟨w.heap.size, 0, none⟩) N N] 98) := by
  have hw : IntKind.i64.wrap (16 * (n : Int)) = 16 * (n : Int) := by rw [IntKind.wrap_i64]; omega
  go_enter Try.func28, Try.ntmps28
  go_wp2_with (refine wpList_make_run rfl (.tmp 11) (.tmp 11) 27 rfl (.int .i64 (16 * (n : Int))) (.int .i64 (16 * (n : Int))) _ W1 rfl rfl HM.out ?_)
  go_ret2
  exact ⟨rfl, rfl⟩

theorem rnew_in (n : Nat) (w : World) (h1 : 1 ≤ n) (h2 : n ≤ 1024) :
    Calls Try.prog 28 #[.int .i64 n] w fun e w' => e = .returned (.tuple #[.pointer (some ⟨w.heap.size + 1, 0, none⟩), .int .i64 0]) ∧ Rm w' (w.heap.size + 1) w.heap.size (List.replicate (n * 16) 0) ∧ Keeps (fun _ => False) w w' := by
  have hm := run_make_words (w := w) (n * 16) (by omega)
  rw [show ((n * 16 : Nat) : Int) = 16 * (n : Int) by omega] at hm
  refine (rnew_walk n w _ (n * 16) (by omega) (by omega) hm).mono ?_
  rintro e w' ⟨rfl, rfl⟩
  rw [World.size_alloc]
  refine ⟨rfl, Rm.mk' (by omega) ?_ ?_ (by simp; omega), ((Keeps.refl _ w).alloc _).alloc _⟩
  · have hB := Blk.new (w.alloc (.cells (wvs (List.replicate (n * 16) 0)).toArray 26)) #[.slice (some ⟨w.heap.size, 0, none⟩) (n * 16) (n * 16)] 98
    rw [World.size_alloc] at hB
    rw [List.length_replicate]
    exact hB
  · exact (Blk.new w _ 26).alloc _

set_option maxHeartbeats 400000 in
theorem rframes_any (b g : Nat) (xs : List UInt32) (n : Nat) (w : World) (h : Rm w b g xs) (hn : xs.length = n * 16) :
    Calls Try.prog 50 #[.pointer (some ⟨b, 0, none⟩)] w fun e w' => e = .returned (.int .i64 n) ∧ w' = w := by
  obtain ⟨c, hc, hb⟩ := h.blk
  have cb := hb.cell (i := 0) rfl
  have hs := h.small
  obtain ⟨N, hN⟩ : ∃ N, N = xs.length := ⟨_, rfl⟩
  rw [← hN] at cb hn
  have hq : IntKind.i64.wrap (Int.tdiv (N : Int) 16) = n := by
    rw [IntKind.wrap_i64, Int.tdiv_eq_ediv_of_nonneg (by omega)]; omega
  have hq2 : (N : Int) / 16 = n := by omega
  have hq3 : Int.tdiv (N : Int) 16 = n := by rw [Int.tdiv_eq_ediv_of_nonneg (by omega)]; omega
  have hn2 : (n : Int) ≤ 1024 := by omega
  clear h hb hc hs hN hn
  go_enter Try.func50, Try.ntmps50
  go_wp2
  go_ret
  exact ⟨rfl, rfl⟩

set_option maxRecDepth 20000 in
set_option maxHeartbeats 1000000 in
theorem rclone_any (b g : Nat) (xs : List UInt32) (w : World) (h : Rm w b g xs) (h0 : xs ≠ []) :
    Calls Try.prog 30 #[.pointer (some ⟨b, 0, none⟩)] w fun e w' => e = .returned (.pointer (some ⟨w.heap.size, 0, none⟩)) ∧ Rm w' w.heap.size (w.heap.size + 1) xs ∧ Keeps (fun _ => False) w w' := by
  have hsm := h.small
  have hpos : 0 < xs.length := List.length_pos_iff.2 h0
  obtain ⟨W0, hW0⟩ : ∃ W0, W0 = (w.alloc (.cells #[.slice none 0 0] 98)).drew := ⟨_, rfl⟩
  have hk0 : Keeps (fun _ => False) w W0 := by rw [hW0]; exact ((Keeps.refl _ w).alloc _).drew
  have hB0 : Blk W0 w.heap.size [.slice none 0 0] 98 := by rw [hW0]; exact (Blk.new w _ 98).drew
  have hs0 : W0.heap.size = w.heap.size + 1 := by rw [hW0]; exact World.size_alloc _ _
  have hR0 := h.grown hk0
  obtain ⟨c, hc, hb⟩ := hR0.blk
  have cb := hb.cell (i := 0) rfl
  obtain ⟨i0, hi, hz0, hz1, hz2⟩ := info_parts Try.info26
  have hap := run_append_nil (P := Try.prog) W0 27 27 26 i0 (.int .u32 0) Try.underlying27 hi hz0 ⟨g, 0, none⟩ xs.length c (wvs xs) (by rw [hz1, wvs_length, Nat.mul_one]) (by
    intro j v hj
    have hlt : j < xs.length := by
      have := (List.getElem?_eq_some_iff.1 hj).1
      rw [wvs_length] at this
      exact this
    rw [wvs_get xs j hlt] at hj
    rw [addr_add, Nat.zero_add, hR0.cell j hlt]; exact hj) (by omega) (by omega) (by rw [hz2]; omega)
  have hap2 : ∀ ty, (Builtin.append_ #[27, 27] ty #[.slice none 0 0, .slice (some ⟨g, 0, none⟩) xs.length c]).run Try.prog W0 = _ := fun ty => hap
  obtain ⟨cap, hcap⟩ : ∃ cap, cap = grownCap W0 xs.length 0 26 := ⟨_, rfl⟩
  rw [← hcap] at hap2
  obtain ⟨W1, hW1⟩ : ∃ W1, W1 = W0.drew.alloc (.cells ((wvs xs).toArray ++ Builtin.zeroCells (Value.int .u32 0).cells (cap - xs.length)) 26) := ⟨_, rfl⟩
  rw [← hW1, hs0] at hap2
  have hk1 : Keeps (fun _ => False) w W1 := by rw [hW1]; exact hk0.drew.alloc _
  have hB1 : Blk W1 (w.heap.size + 1) (wvs xs ++ wvs (List.replicate (cap - xs.length) 0)) 26 := by
    rw [hW1]
    have h := Blk.new W0.drew ((wvs xs).toArray ++ Builtin.zeroCells (Value.int .u32 0).cells (cap - xs.length)) 26
    have e : W0.drew.heap.size = w.heap.size + 1 := hs0
    rw [e, Array.toList_append, zero_cells] at h
    exact h
  have hB2 : Blk W1 w.heap.size [.slice none 0 0] 98 := by rw [hW1]; exact hB0.drew.alloc _
  have hcl : xs.length ≤ cap := by rw [hcap]; exact grownCap_ge _ _ _ _
  have c0 := hB2.cell (i := 0) rfl
  have z0 := hB2.frozen 0
  have cb1 : W1.cell? ⟨b, 0, none⟩ = some (.slice (some ⟨g, 0, none⟩) xs.length c) := by
    have hk01 : Keeps (fun _ => False) W0 W1 := by rw [hW1]; exact (Keeps.refl _ W0).drew.alloc _
    exact cell_kept cb hk01 (fun e => e)
  have hbB : b ≠ w.heap.size := by have := h.ltb; omega
  have HF : Hid (Rm (W1.setCell ⟨w.heap.size, 0, none⟩ (.slice (some ⟨w.heap.size + 1, 0, none⟩) xs.length cap)) w.heap.size (w.heap.size + 1) xs ∧ Keeps (fun _ => False) w (W1.setCell ⟨w.heap.size, 0, none⟩ (.slice (some ⟨w.heap.size + 1, 0, none⟩) xs.length cap))) := by
    refine ⟨⟨by omega, ⟨cap, hcl, ?_⟩, ⟨_, hB1.setCell_ne (by show ¬ _; simp) _⟩, by omega⟩, hk1.setCell _ _ (fun h => by simp at h)⟩
    exact hB2.setCell 0 _
  obtain ⟨L, hL⟩ : ∃ L, L = xs.length := ⟨_, rfl⟩
  rw [← hL] at hap2 HF cb cb1
  have HA : Hid (∀ ty, (Builtin.append_ #[27, 27] ty #[.slice none 0 0, .slice (some ⟨g, 0, none⟩) L c]).run Try.prog W0 = .ok (.slice (some ⟨w.heap.size + 1, 0, none⟩) L cap) W1) := hap2
  have cB0 := hB0.cell (i := 0) rfl
  have HbB : Hid (b ≠ w.heap.size) := hbB
  have HW0 : Hid (W0 = _) := hW0
  clear hsm hpos h h0 hL hap hap2 hc hi hz0 hz1 hz2 hcap hW1 hk1 hB1 hB2 hcl hs0 hk0 hB0 hW0 hR0 hb
  obtain ⟨B, hB⟩ : ∃ B, B = w.heap.size := ⟨_, rfl⟩
  have HBB : Hid (B = w.heap.size) := hB
  rw [← hB] at c0 z0 HF HA cB0 HbB ⊢
  clear hB
  go_enter Try.func30, Try.ntmps30
  go_wp2_with fail
  refine wp_region_held_drew (S := fun w' => w'.cell? ⟨b, 0, none⟩ = some (.slice (some ⟨g, 0, none⟩) L c)) Try.mixed (by rw [← HW0.out]; exact cb) (fun hHeld => ?_)
  simp only [List.size_toArray, List.length_cons, List.length_nil, Nat.reduceAdd, Array.replicate_succ, Array.replicate_zero, List.push_toArray, List.append_toArray, List.nil_append, List.cons_append]
  rw [← HW0.out] at hHeld ⊢
  rw [← HBB.out]
  refine hk 0 (.pointer (some ⟨B, 0, none⟩)) hHeld ?_
  simp only [Act.put, List.setIfInBounds_toArray, List.set_cons_zero, List.set_cons_succ]
  refine hk 1 (.pointer (some ⟨B, 0, none⟩)) hHeld ?_
  simp only [Act.put, List.setIfInBounds_toArray, List.set_cons_zero, List.set_cons_succ]
  refine hk 2 (.pointer (some ⟨B, 0, none⟩)) hHeld ?_
  simp only [Act.put, List.setIfInBounds_toArray, List.set_cons_zero, List.set_cons_succ]
  refine hk 3 (.pointer (some ⟨B, 0, none⟩)) hHeld ?_
  simp only [Act.put, List.setIfInBounds_toArray, List.set_cons_zero, List.set_cons_succ]
  refine hk 5 (.pointer (some ⟨b, 0, none⟩)) hHeld ?_
  simp only [Act.put, List.setIfInBounds_toArray, List.set_cons_zero, List.set_cons_succ]
  refine hk 6 (.pointer (some ⟨b, 0, none⟩)) hHeld ?_
  simp only [Act.put, List.setIfInBounds_toArray, List.set_cons_zero, List.set_cons_succ]
  refine hk 7 (.pointer (some ⟨b, 0, none⟩)) hHeld ?_
  simp only [Act.put, List.setIfInBounds_toArray, List.set_cons_zero, List.set_cons_succ]
  refine hk 8 (.slice (some ⟨g, 0, none⟩) L c) hHeld ?_
  simp only [Act.put, List.setIfInBounds_toArray, List.set_cons_zero, List.set_cons_succ]
  refine wpAnyH_ready (rs := [4]) (by kernel_rfl) (by simp) ?_
  refine AllReadyH.cons rfl (fun Kq hK => ?_) AllReadyH.nil
  go_simp
  refine hK.out _ _ cb (fun hHeld => ?_)
  simp only [Act.put, List.setIfInBounds_toArray, List.set_cons_zero, List.set_cons_succ]
  refine wpAnyH_ready (rs := [9]) (by kernel_rfl) (by simp) ?_
  refine AllReadyH.cons rfl (fun Kq hK => ?_) AllReadyH.nil
  rw [if_pos (by rfl)]
  refine wp_append_run (.tmp 12) (.tmp 16) 27 27 rfl (.slice none 0 0) (.slice (some ⟨g, 0, none⟩) L c) (.slice (some ⟨B + 1, 0, none⟩) L cap) W1 rfl rfl HA.out ?_
  refine hK.out _ _ cb1 (fun hHeld => ?_)
  simp only [Act.put, List.setIfInBounds_toArray, List.set_cons_zero, List.set_cons_succ]
  refine hk 10 (.pointer (some ⟨B, 0, none⟩)) hHeld ?_
  simp only [Act.put, List.setIfInBounds_toArray, List.set_cons_zero, List.set_cons_succ]
  refine hk 11 (.pointer (some ⟨B, 0, none⟩)) hHeld ?_
  simp only [Act.put, List.setIfInBounds_toArray, List.set_cons_zero, List.set_cons_succ]
  refine wpAnyH_ready (rs := [12]) (by kernel_rfl) (by simp) ?_
  refine AllReadyH.cons rfl (fun Kq hK => ?_) AllReadyH.nil
  go_simp
  refine hK.out _ _ (cell_kept cb1 (S := (· = B)) ((Keeps.refl _ W1).setCell _ _ fun _ => rfl) HbB.out) (fun hHeld => ?_)
  simp only [Act.put, List.setIfInBounds_toArray, List.set_cons_zero, List.set_cons_succ]
  refine wpAnyH_done (by kernel_rfl) ?_ _
  clear hHeld hK
  go_wp2
  go_ret
  exact ⟨rfl, HF.out⟩

end Go.Proofs.Ytljhdijledclhaa
