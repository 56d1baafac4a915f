import Derived.Test.YthaoopaafdgioaaP
import Derived.Test.YthaoopaafdgioaaOq
namespace Go.Proofs.Ythaoopaafdgioaa
open Go.RowKit
set_option linter.unusedVariables false
set_option linter.unusedSimpArgs false
set_option maxRecDepth 6000

/-- With all lists apart. -/
def OfQ (x : Cfg) (w : World) (e : Ending) (w' : World) : Prop :=
  Keeps (fun _ => False) w w' ∧ ((x.mayB = false ∧ e = .returned (.tuple #[.agg #[.int .i64 0, .slice none 0 0, .slice none 0 0, .int .i64 0], .int .i64 150])) ∨
    (x.mayB = true ∧ ∃ b1 b2 F G T D, e = .returned (.tuple #[.agg #[.int .i64 (16 * x.kernel), .slice (some ⟨b1, 0, none⟩) x.ps.length x.ps.length, .slice (some ⟨b2, 0, none⟩) x.hs.length x.hs.length, .int .i64 (rtAt x (rtB x (16 * x.kernel)) x.ps.length / 16)], .int .i64 0]) ∧
      LD x w.heap.size b1 b2 F G T D w' ∧ FOK x (16 * x.kernel + 2) (rtB x (16 * x.kernel)) x.ps.length F T ∧ GOK x (chB x (16 * x.kernel)) x.hs.length G D ∧ PwF x.ps.length F ∧ PwG x.hs.length G))

set_option maxHeartbeats 4000000 in
theorem Of_anyQ (x : Cfg) (w : World) (N : Nat) (hi : x.In w N) (hN : N ≤ w.heap.size) : Calls Try.prog 9 #[x.v] w (OfQ x w) := by
  obtain ⟨W, hW⟩ : ∃ W, W = (x.laid w).alloc (.cells #[.int .i64 0, .slice none 0 0, .slice none 0 0, .int .i64 0] 30) := ⟨_, rfl⟩
  obtain ⟨C, hC⟩ : ∃ C, C = w.heap.size := ⟨_, rfl⟩
  have HO : Hid (One w x C N W ∧ Blk W (C + 1) [.int .i64 0, .slice none 0 0, .slice none 0 0, .int .i64 0] 30 ∧ C = w.heap.size) := by
    rw [hW, hC]
    refine ⟨(One.mk' hi hN).kept ((Keeps.refl _ _).alloc _), ?_, rfl⟩
    have := Blk.new (x.laid w) #[.int .i64 0, .slice none 0 0, .slice none 0 0, .int .i64 0] 30
    simpa [Cfg.laid] using this
  clear hi hN
  unfold Cfg.laid at hW
  go_enter Try.func9, Try.ntmps9
  go_upto_region 1 with fail
  rw [← hW, ← hC]
  clear hW hC
  obtain ⟨q0, q1, q2, q3, q4, q5, q6⟩ := HO.out.1.cells
  have HC : Hid (Calls Try.prog 29 #[x.v] W fun e w' => e = .returned (.bool x.mayB) ∧ Keeps (fun _ => False) W w') := canLie_any x W N HO.out.1.cin HO.out.1.nn
  go_wp2_with fail
  refine HC.out.mono ?_
  rintro e w1 ⟨rfl, hK⟩
  have HO1 : Hid (One w x C N w1 ∧ Blk w1 (C + 1) [.int .i64 0, .slice none 0 0, .slice none 0 0, .int .i64 0] 30) := ⟨HO.out.1.kept hK, HO.out.2.1.kept hK fun h => h⟩
  clear hK HC q0 q1 q2 q3 q4 q5 q6
  obtain ⟨b, hb⟩ : ∃ b, x.mayB = b := ⟨_, rfl⟩
  rw [hb]
  have HB : Hid (x.mayB = b) := hb
  clear hb
  cases b with
  | false =>
    have r0 := HO1.out.2.cell (i := 0) rfl
    have r1 := HO1.out.2.cell (i := 1) rfl
    have r2 := HO1.out.2.cell (i := 2) rfl
    have r3 := HO1.out.2.cell (i := 3) rfl
    have f0 := HO1.out.2.frozen 0
    have f1 := HO1.out.2.frozen 1
    have f2 := HO1.out.2.frozen 2
    have f3 := HO1.out.2.frozen 3
    go_wp2
    obtain ⟨hB, hK4⟩ := set4 HO1.out.2 (.int .i64 0) (.slice none 0 0) (.slice none 0 0) (.int .i64 0)
    obtain ⟨Wb, hWb⟩ : ∃ Wb, Wb = ((((w1.setCell ⟨C + 1, 0, none⟩ (.int .i64 0)).setCell ⟨C + 1, 1, none⟩ (.slice none 0 0)).setCell ⟨C + 1, 2, none⟩ (.slice none 0 0)).setCell ⟨C + 1, 3, none⟩ (.int .i64 0)) := ⟨_, rfl⟩
    rw [← hWb] at hB hK4 ⊢
    (try simp only [Exit.inBlock, Exit.then])
    refine bodyPost_ret (results_cell_two rfl _ _ (C + 1) 30 _ (0, 0) _ rfl hB Try.underlying30 rfl (by kernel_rfl)) rfl ?_
    have hcw := HO.out.2.2
    exact ⟨HO1.out.1.keeps.trans hK4 fun k hk e => by omega, .inl ⟨HB.out, rfl⟩⟩
  | true =>
    obtain ⟨q0, q1, q2, q3, q4, q5, q6⟩ := HO1.out.1.cells
    have hk := Cfg.mayB_iff.1 HB.out
    go_wp2
    refine wp_region_held_drew (S := (fun w' => w'.cell? ⟨C, 0, none⟩ = some (.int .i64 x.frames) ∧ w'.cell? ⟨C, 1, none⟩ = some (.int .i64 x.major) ∧ w'.cell? ⟨C, 2, none⟩ = some (.int .i64 x.kernel) ∧ w'.cell? ⟨C, 3, none⟩ = some (.int .i64 x.room) ∧ w'.cell? ⟨C, 4, none⟩ = some (.slice x.ca x.cs.length x.cc) ∧ w'.cell? ⟨C, 5, none⟩ = some (.slice x.pa x.ps.length x.pc) ∧ w'.cell? ⟨C, 6, none⟩ = some (.slice x.ha x.hs.length x.hc))) Try.mixed ⟨q0, q1, q2, q3, q4, q5, q6⟩ (fun hHeld => ?_)
    simp only [List.size_toArray, List.length_cons, List.length_nil, Nat.reduceAdd, Array.replicate_succ, Array.replicate_zero, List.push_toArray, List.append_toArray, List.nil_append, List.cons_append]
    refine wpAnyH_take (i := 0) (oi := { dst := some 8, op := Op.load 26 (Operand.tmp 1), type := 26, pos := "layout.go:11", after := #[], guard := none }) (v := .agg #[.int .i64 x.frames, .int .i64 x.major, .int .i64 x.kernel, .int .i64 x.room, .slice x.ca x.cs.length x.cc, .slice x.pa x.ps.length x.pc, .slice x.ha x.hs.length x.hc]) rfl (by kernel_rfl) (by kernel_rfl) (by kernel_rfl) (fun _ _ _ h => h) (Or.inl ⟨by kernel_rfl, by (intro w hSw; (try dsimp only at hSw); go_simp)⟩) hHeld ?_
    simp only [Act.put, List.setIfInBounds_toArray, List.set_cons_zero, List.set_cons_succ]
    refine wpAnyH_take (i := 1) (oi := { dst := some 9, op := Op.load 26 (Operand.tmp 1), type := 26, pos := "layout.go:11", after := #[], guard := none }) (v := .agg #[.int .i64 x.frames, .int .i64 x.major, .int .i64 x.kernel, .int .i64 x.room, .slice x.ca x.cs.length x.cc, .slice x.pa x.ps.length x.pc, .slice x.ha x.hs.length x.hc]) rfl (by kernel_rfl) (by kernel_rfl) (by kernel_rfl) (fun _ _ _ h => h) (Or.inl ⟨by kernel_rfl, by (intro w hSw; (try dsimp only at hSw); go_simp)⟩) hHeld ?_
    simp only [Act.put, List.setIfInBounds_toArray, List.set_cons_zero, List.set_cons_succ]
    refine wpAnyH_ready (rs := [2]) (by kernel_rfl) (by simp) ?_
    refine AllReadyH.cons (o := { dst := some 10, op := Op.call { callee := Callee.value (Operand.func 32), args := #[Operand.tmp 9], argTypes := #[26] }, type := 3, pos := "layout.go:11", after := #[{ on := 1, ground := Ground.data }], guard := none }) rfl (fun K hK => ?_) AllReadyH.nil
    go_simp
    refine (begin_any x w1.drew ⟨hk.1, hk.2.1⟩).mono ?_
    rintro r w2 ⟨rfl, hK2⟩
    have k2 : Keeps (fun _ => False) w1 w2 := ((Keeps.refl _ _).drew).trans hK2 fun _ _ h => h
    have HO2 : Hid (One w x C N w2 ∧ Blk w2 (C + 1) [.int .i64 0, .slice none 0 0, .slice none 0 0, .int .i64 0] 30) := ⟨HO1.out.1.kept k2, HO1.out.2.kept k2 fun h => h⟩
    clear hK2 k2
    refine hK.out _ _ HO2.out.1.cells (fun hHeld => ?_)
    simp only [Act.put, List.setIfInBounds_toArray, List.set_cons_zero, List.set_cons_succ]
    refine wpAnyH_ready (rs := [3]) (by kernel_rfl) (by simp) ?_
    refine AllReadyH.cons (o := { dst := some 11, op := Op.call { callee := Callee.value (Operand.func 31), args := #[Operand.tmp 10], argTypes := #[3] }, type := 67, pos := "layout.go:11", after := #[{ on := 2, ground := Ground.data }, { on := 2, ground := Ground.chain }], guard := none }) rfl (fun K hK => ?_) AllReadyH.nil
    go_simp
    refine (countFrom_any (16 * x.kernel) w2).mono ?_
    rintro r w3 ⟨rfl, hB3, hK3⟩
    have hB3l := hB3.lt
    have hC2 : C + 1 < w2.heap.size := HO2.out.2.lt
    obtain ⟨B, hBe⟩ : ∃ B, w2.heap.size = B := ⟨_, rfl⟩
    rw [hBe] at hB3 hB3l hC2 ⊢
    have HO3 : Hid (One w x C N w3 ∧ Blk w3 (C + 1) [.int .i64 0, .slice none 0 0, .slice none 0 0, .int .i64 0] 30 ∧ Blk w3 B [.int .i64 (16 * x.kernel)] 3 ∧ B < w3.heap.size ∧ C + 1 < B) := ⟨HO2.out.1.kept hK3, HO2.out.2.kept hK3 fun h => h, hB3, hB3l, hC2⟩
    have HCL : Hid (Calls Try.prog 30 #[x.v, .func (.func 51) #[] #[.pointer (some ⟨B, 0, none⟩)]] w3 (LayQ (JC B) (fun b => b = B) x w3 (16 * x.kernel) [])) := by
      have hcw := HO.out.2.2
      have hn := HO3.out.1.n
      have hl := HO3.out.2.2.2
      exact lay_anyQ (dl_count B) x HB.out w3 N HO3.out.1.cin HO3.out.1.nn (16 * x.kernel) [] HO3.out.2.2.1 (fun k hk => by subst hk; exact ⟨by omega, hl.1⟩) (by omega) (by omega)
    clear hB3 hK3 hB3l hC2 hBe
    refine hK.out _ _ HO3.out.1.cells (fun hHeld => ?_)
    simp only [Act.put, List.setIfInBounds_toArray, List.set_cons_zero, List.set_cons_succ]
    refine wpAnyH_ready (rs := [4]) (by kernel_rfl) (by simp) ?_
    refine AllReadyH.cons (o := { dst := some 12, op := Op.call { callee := Callee.value (Operand.func 30), args := #[Operand.tmp 8, Operand.tmp 11], argTypes := #[26, 67] }, type := 30, pos := "layout.go:11", after := #[{ on := 0, ground := Ground.data }, { on := 3, ground := Ground.data }, { on := 3, ground := Ground.chain }], guard := none }) rfl (fun K hK => ?_) AllReadyH.nil
    go_simp
    refine HCL.out.mono ?_
    rintro r w4 ⟨b1, b2, F, G, T, D, rfl, hLD, hF, hG, _, hK4, hpf, hpg⟩
    have HPW : Hid (PwF x.ps.length F ∧ PwG x.hs.length G) := ⟨hpf, hpg⟩
    clear hpf hpg
    have hcw := HO.out.2.2
    have hn := HO3.out.1.n
    have hl := HO3.out.2.2.2
    have HO4 : Hid (One w x C N w4 ∧ Blk w4 (C + 1) [.int .i64 0, .slice none 0 0, .slice none 0 0, .int .i64 0] 30 ∧ LD x w3.heap.size b1 b2 F G T D w4 ∧ FOK x (16 * x.kernel + 2) (rtB x (16 * x.kernel)) x.ps.length F T ∧ GOK x (chB x (16 * x.kernel)) x.hs.length G D) :=
      ⟨HO3.out.1.kept' hK4 (by omega) (fun k hk => by omega) (fun k hk => by omega), HO3.out.2.1.kept hK4 (by omega), hLD, hF, hG⟩
    clear hLD hF hG hK4 hcw hn hl
    obtain ⟨EN, hEN⟩ : ∃ EN, rtAt x (rtB x (16 * x.kernel)) x.ps.length / 16 = EN := ⟨_, rfl⟩
    have HEN : Hid (rtAt x (rtB x (16 * x.kernel)) x.ps.length / 16 = EN) := hEN
    rw [hEN]
    clear hEN
    refine hK.out _ _ HO4.out.1.cells (fun hHeld => ?_)
    simp only [Act.put, List.setIfInBounds_toArray, List.set_cons_zero, List.set_cons_succ]
    refine wpAnyH_ready (rs := [5]) (by kernel_rfl) (by simp) ?_
    refine AllReadyH.cons (o := { dst := none, op := Op.store 30 (Operand.tmp 2) (Operand.tmp 12), type := 0, pos := "layout.go:11", after := #[{ on := 4, ground := Ground.data }, { on := 4, ground := Ground.chain }, { on := 0, ground := Ground.phase }, { on := 1, ground := Ground.phase }, { on := 2, ground := Ground.phase }, { on := 3, ground := Ground.phase }, { on := 4, ground := Ground.phase }], guard := none }) rfl (fun K hK => ?_) AllReadyH.nil
    refine wp_store_row 30 _ _ rfl (C + 1) #[.int .i64 (16 * x.kernel), .slice (some ⟨b1, 0, none⟩) x.ps.length x.ps.length, .slice (some ⟨b2, 0, none⟩) x.hs.length x.hs.length, .int .i64 EN] (by rfl) (by rfl) 30 _ HO4.out.2.1 Try.size30 rfl (all30 ..) ?_
    obtain ⟨W5, hW5⟩ : ∃ W5, W5 = w4.setRow (C + 1) #[.int .i64 (16 * x.kernel), .slice (some ⟨b1, 0, none⟩) x.ps.length x.ps.length, .slice (some ⟨b2, 0, none⟩) x.hs.length x.hs.length, .int .i64 EN] := ⟨_, rfl⟩
    have hB5 : Blk W5 (C + 1) [.int .i64 (16 * x.kernel), .slice (some ⟨b1, 0, none⟩) x.ps.length x.ps.length, .slice (some ⟨b2, 0, none⟩) x.hs.length x.hs.length, .int .i64 EN] 30 := by rw [hW5]; exact HO4.out.2.1.setRow _
    have k5 : Keeps (fun k => k = C + 1) w4 W5 := by rw [hW5]; exact (Keeps.refl _ _).setRow _ _ fun _ => rfl
    have hcw := HO.out.2.2
    have hn := HO3.out.1.n
    have hl := HO3.out.2.2.2
    have HO5 : Hid (One w x C N W5 ∧ Blk W5 (C + 1) [.int .i64 (16 * x.kernel), .slice (some ⟨b1, 0, none⟩) x.ps.length x.ps.length, .slice (some ⟨b2, 0, none⟩) x.hs.length x.hs.length, .int .i64 EN] 30 ∧ LD x w.heap.size b1 b2 F G T D W5) :=
      ⟨HO4.out.1.kept' k5 (by omega) (fun k hk => by omega) (fun k hk => by omega), hB5, HO4.out.2.2.1.kept k5 (fun k hk => by omega) (by have := HO3.out.1.keeps.size; omega)⟩
    clear hB5 k5 hcw hn hl
    rw [← hW5]
    clear hW5
    refine hK.out _ _ HO5.out.1.cells (fun hHeld => ?_)
    simp only [Act.put, List.setIfInBounds_toArray, List.set_cons_zero, List.set_cons_succ]
    refine wpAnyH_take (i := 6) (oi := { dst := some 3, op := Op.assign (Operand.const (Value.int IntKind.i64 0)), type := 31, pos := "layout.go:11", after := #[{ on := 5, ground := Ground.chain }, { on := 0, ground := Ground.phase }, { on := 1, ground := Ground.phase }, { on := 2, ground := Ground.phase }, { on := 3, ground := Ground.phase }, { on := 4, ground := Ground.phase }, { on := 5, ground := Ground.phase }], guard := none }) (v := .int .i64 0) rfl (by kernel_rfl) (by kernel_rfl) (by kernel_rfl) (fun _ _ _ h => h) (Or.inl ⟨by kernel_rfl, by (intro w hSw; (try dsimp only at hSw); go_simp)⟩) hHeld ?_
    simp only [Act.put, List.setIfInBounds_toArray, List.set_cons_zero, List.set_cons_succ]
    refine wpAnyH_done (by kernel_rfl) ?_ _
    clear q0 q1 q2 q3 q4 q5 q6 hHeld
    go_wp2
    (try simp only [Exit.inBlock, Exit.then])
    refine bodyPost_ret (results_cell_two rfl _ _ (C + 1) 30 _ (0, 0) _ rfl HO5.out.2.1 Try.underlying30 rfl (by kernel_rfl)) rfl ?_
    exact ⟨HO5.out.1.keeps, .inr ⟨HB.out, b1, b2, F, G, T, D, by rw [HEN.out]; rfl, HO5.out.2.2, HO4.out.2.2.2.1, HO4.out.2.2.2.2, HPW.out.1, HPW.out.2⟩⟩
end Go.Proofs.Ythaoopaafdgioaa
