import Derived.Test.YtmkeccibminnhaaRm
import Derived.Test.YtmkeccibminnhaaRn
import Derived.Defers
import Derived.Recover
namespace Go.Proofs.Ytmkeccibminnhaa
open Go.RowKit
set_option linter.unusedVariables false
set_option maxRecDepth 6000
set_option linter.unusedSimpArgs false

theorem all53 (q k : Int) : (#[.int .i64 q, .int .i64 k] : Array Value).all (·.oneCell') = true := by kernel_rfl
theorem Try.size53 : (Try.prog.info? 53).map (·.size) = some 2 := by kernel_rfl
set_option maxHeartbeats 1000000 in
theorem catch_gone (C D q : Nat) (k : Int) (l : List Value) (x y : Value) (w : World) (hC : Blk w C l 26) (hl : l.length = 7) (hD : Blk w D [x, y] 53) (hne : C ≠ D) :
    CallsD Try.prog 47 #[.pointer (some ⟨C, 0, none⟩), .pointer (some ⟨D, 0, none⟩)] (.panicking [{ v := refV q k, recovered := false }]) w fun e u' w' =>
      e = .returned (.tuple #[]) ∧ u' = .panicking [{ v := refV q k, recovered := true }] ∧ Blk w' C [.int .i64 0, .int .i64 0, .int .i64 0, .int .i64 0, .slice none 0 0, .slice none 0 0, .slice none 0 0] 26 ∧ Blk w' D [.int .i64 q, .int .i64 k] 53 ∧ Keeps (fun k => k = C ∨ k = D) w w' := by
  refine callsD_of_wpS Try.func47 rfl fun c₀ cs hu => ?_
  apply wpS_seq
  apply wpS_region
  simp [wpOpsS, go_sem, recoverD, hu, Try.ntmps47, Exit.thenS]
  refine wpS_of_wp ?_
  simp only [Array.replicate_succ, Array.replicate_zero, List.push_toArray, List.append_toArray, List.nil_append, List.cons_append, List.setIfInBounds_toArray, List.set_cons_succ, List.set_cons_zero]
  have hta : ∀ w, (Instr.typeAssert (refV q k) 20 53 true).run Try.prog w = .ok (.tuple #[.agg #[.int .i64 q, .int .i64 k], .bool true]) w := fun w => by
    rfl
  have HH : Hid (Blk w C l 26 ∧ l.length = 7 ∧ Blk w D [x, y] 53 ∧ C ≠ D) := ⟨hC, hl, hD, hne⟩
  clear hC hl hD hne
  go_wp2
  obtain ⟨W, hW⟩ : ∃ W, W = w.alloc (.cells #[.int .i64 q, .int .i64 k] 53) := ⟨_, rfl⟩
  have HW : Hid (Blk W w.heap.size [.int .i64 q, .int .i64 k] 53 ∧ Keeps (fun _ => False) w W) := by rw [hW]; exact ⟨Blk.new w _ _, (Keeps.refl _ w).alloc _⟩
  rw [← hW]
  clear hW
  obtain ⟨T, hT⟩ : ∃ T, T = w.heap.size := ⟨_, rfl⟩
  rw [← hT] at HW ⊢
  have HT : Hid (T = w.heap.size) := hT
  clear hT
  have t0 : W.drew.cell? ⟨T, 0, none⟩ = some (.int .i64 q) := HW.out.1.drew.cell (i := 0) rfl
  have t1 : W.drew.cell? ⟨T, 1, none⟩ = some (.int .i64 k) := HW.out.1.drew.cell (i := 1) rfl
  refine wp_region_held_drew (S := fun w' => w'.cell? ⟨T, 0, none⟩ = some (.int .i64 q) ∧ w'.cell? ⟨T, 1, none⟩ = some (.int .i64 k)) (by kernel_rfl) ⟨t0, t1⟩ (fun hHeld => ?_)
  simp only [List.size_toArray, List.length_cons, List.length_nil, Nat.reduceAdd, Array.replicate_succ, Array.replicate_zero, List.push_toArray, List.append_toArray, List.nil_append, List.cons_append]
  refine wpAnyH_take (i := 0) (v := .agg #[.int .i64 0, .int .i64 0, .int .i64 0, .int .i64 0, .slice none 0 0, .slice none 0 0, .slice none 0 0]) rfl (by kernel_rfl) (by kernel_rfl) (by kernel_rfl) (fun _ _ _ h => h) (Or.inl ⟨by rfl, by (intro w hSw; (try dsimp only at hSw); go_simp)⟩) hHeld ?_
  simp only [Act.put, List.setIfInBounds_toArray, List.set_cons_zero, List.set_cons_succ]
  refine wpAnyH_take (i := 1) (v := .agg #[.int .i64 q, .int .i64 k]) rfl (by kernel_rfl) (by kernel_rfl) (by kernel_rfl) (fun _ _ _ h => h) (Or.inl ⟨by rfl, by (intro w hSw; (try dsimp only at hSw); go_simp)⟩) hHeld ?_
  simp only [Act.put, List.setIfInBounds_toArray, List.set_cons_zero, List.set_cons_succ]
  refine wpAnyH_ready (rs := [2]) (by kernel_rfl) (by simp) ?_
  refine AllReadyH.cons rfl (fun K hK => ?_) AllReadyH.nil
  rw [if_pos (by rfl)]
  have hC1 : Blk W.drew C l 26 := (HH.out.1.kept HW.out.2 fun e => e).drew
  have hne : C ≠ T := by have := HH.out.1.lt; have := HT.out; omega
  have hne2 : D ≠ T := by have := HH.out.2.2.1.lt; have := HT.out; omega
  refine wp_store_row 26 _ _ rfl C #[.int .i64 0, .int .i64 0, .int .i64 0, .int .i64 0, .slice none 0 0, .slice none 0 0, .slice none 0 0] rfl rfl 26 _ hC1 Try.size26 (by simp [HH.out.2.1]) (all26 ..) ?_
  have hT1 := HW.out.1.drew.setRow_ne (Ne.symm hne) #[.int .i64 0, .int .i64 0, .int .i64 0, .int .i64 0, .slice none 0 0, .slice none 0 0, .slice none 0 0]
  refine hK.out _ _ ⟨hT1.cell (i := 0) rfl, hT1.cell (i := 1) rfl⟩ (fun hHeld => ?_)
  simp only [Act.put, List.setIfInBounds_toArray, List.set_cons_zero, List.set_cons_succ]
  refine wpAnyH_ready (rs := [3]) (by kernel_rfl) (by simp) ?_
  refine AllReadyH.cons rfl (fun K hK => ?_) AllReadyH.nil
  rw [if_pos (by rfl)]
  have hD1 : Blk (W.drew.setRow C #[.int .i64 0, .int .i64 0, .int .i64 0, .int .i64 0, .slice none 0 0, .slice none 0 0, .slice none 0 0]) D [x, y] 53 := ((HH.out.2.2.1.kept HW.out.2 fun e => e).drew).setRow_ne HH.out.2.2.2.symm _
  refine wp_store_row 53 _ _ rfl D #[.int .i64 q, .int .i64 k] rfl rfl 53 _ hD1 Try.size53 rfl (all53 ..) ?_
  have hT2 := hT1.setRow_ne (Ne.symm hne2) #[.int .i64 q, .int .i64 k]
  refine hK.out _ _ ⟨hT2.cell (i := 0) rfl, hT2.cell (i := 1) rfl⟩ (fun hHeld => ?_)
  simp only [Act.put, List.setIfInBounds_toArray, List.set_cons_zero, List.set_cons_succ]
  refine wpAnyH_done (by kernel_rfl) ?_ _
  have hCF := (hC1.setRow [.int .i64 0, .int .i64 0, .int .i64 0, .int .i64 0, .slice none 0 0, .slice none 0 0, .slice none 0 0]).setRow_ne HH.out.2.2.2 #[.int .i64 q, .int .i64 k]
  have hDF := hD1.setRow [.int .i64 q, .int .i64 k]
  have hKF : Keeps (fun k => k = C ∨ k = D) w _ := ((((HW.out.2.mono fun _ _ e => e.elim).drew).setRow C #[.int .i64 0, .int .i64 0, .int .i64 0, .int .i64 0, .slice none 0 0, .slice none 0 0, .slice none 0 0] (fun _ => .inl rfl)).setRow D #[.int .i64 q, .int .i64 k] (fun _ => .inr rfl))
  exact ⟨rfl, _, rfl, _, results_none rfl _ _ _, rfl, rfl, hCF, hDF, hKF⟩

set_option maxHeartbeats 1000000 in
theorem catch_idle (C D : Nat) (w : World) :
    CallsD Try.prog 47 #[.pointer (some ⟨C, 0, none⟩), .pointer (some ⟨D, 0, none⟩)] .returning w fun e u' w' => e = .returned (.tuple #[]) ∧ u' = .returning ∧ w' = w := by
  refine callsD_of_wpS Try.func47 rfl fun c₀ cs hu => ?_
  apply wpS_seq
  apply wpS_region
  simp [wpOpsS, go_sem, recoverD, hu, Try.ntmps47, Exit.thenS]
  refine wpS_of_wp ?_
  simp only [Array.replicate_succ, Array.replicate_zero, List.push_toArray, List.append_toArray, List.nil_append, List.cons_append, List.setIfInBounds_toArray, List.set_cons_succ, List.set_cons_zero]
  go_wp2
  cases c₀
  simp only at hu
  subst hu
  exact ⟨rfl, _, rfl, _, results_none rfl _ _ _, rfl, rfl, rfl⟩
end Go.Proofs.Ytmkeccibminnhaa
