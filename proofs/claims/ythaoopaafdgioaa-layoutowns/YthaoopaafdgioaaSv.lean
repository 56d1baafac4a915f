import Derived.Test.YthaoopaafdgioaaSu
namespace Go.Proofs.Ythaoopaafdgioaa
open Go.RowKit
set_option linter.unusedVariables false
set_option linter.unusedSimpArgs false
set_option maxRecDepth 6000

theorem own_both (x : Cfg) (t : Int) : ownR x t = ownA x t := by
  unfold ownR ownA
  by_cases hm : x.mayB = true
  · rw [own_eq hm]
  · rw [if_pos (by simpa using hm), if_pos (by simpa using hm)]
/-- Both sides say the same of a word. -/
theorem owners (x : Cfg) (t : Int) (ht : I64 t) : ∃ o : Ow, ∃ e : Int,
    (∀ (w : World) (N : Nat), x.In w N → N ≤ w.heap.size → Calls Try.prog 14 #[x.v, .int .i64 t] w fun r w' => r = .returned (.tuple #[o.v, .int .i64 e]) ∧ Keeps (fun _ => False) w w') ∧
    ∀ (w : World) (N : Nat), x.In w N → N ≤ w.heap.size → Calls Try.prog 15 #[x.v, .int .i64 t] w fun r w' => r = .returned (.tuple #[o.v, .int .i64 e]) ∧ Keeps (fun _ => False) w w' := by
  refine ⟨(ownA x t).1, (ownA x t).2, fun w N hi hN => Owner_any x t ht w N hi hN, fun w N hi hN => ?_⟩
  have := ROwner_any x t ht w N hi hN pcAll_bd
  rwa [own_both] at this

set_option maxHeartbeats 4000000 in
theorem layoutOwns_any (x : Cfg) (a : Option Addr) (l : List Int) (cap : Nat) (w : World) (N : Nat) (hi : x.In w N) (hN : N ≤ w.heap.size) (hs : SegA (fun n : Int => [.int .i64 n]) 1 w a l) (hl : l.length ≤ cap ∧ cap ≤ maxLen) (hf : ∀ n ∈ l, I64 n) :
    Calls Try.prog 4 #[x.v, .slice a l.length cap] w fun e w' => e = .returned (.bool true) ∧ Keeps (fun _ => False) w w' := by
  obtain ⟨L, hL⟩ : ∃ L, l.length = L := ⟨_, rfl⟩
  have HS : Hid (SegA (fun n : Int => [.int .i64 n]) 1 w a l ∧ l.length = L ∧ ∀ n ∈ l, I64 n) := ⟨hs, hL, hf⟩
  rw [hL] at hl ⊢
  have hc1 : (L : Int) ≤ cap := by omega
  have hc3 : (cap : Int) ≤ 9223372036854775807 := by unfold maxLen at hl; omega
  obtain ⟨W, hW⟩ : ∃ W, W = x.laid w := ⟨_, rfl⟩
  obtain ⟨C, hC⟩ : ∃ C, C = w.heap.size := ⟨_, rfl⟩
  have HO : Hid (One w x C N W) := by rw [hW, hC]; exact One.mk' hi hN
  clear hs hL hf hl hi hN
  unfold Cfg.laid at hW
  go_enter Try.func4, Try.ntmps4
  go_upto_region 1 with fail
  rw [← hW, ← hC]
  clear hW hC
  go_wp2
  go_loopw [16] (fun i wr => ∃ j : Nat, j ≤ L ∧ i = .int .i64 j ∧ One w x C N wr) (fun i _ => L - (intOf i).toNat)
  case atStart => exact ⟨0, by omega, rfl, HO.out⟩
  case round =>
    obtain ⟨k, hk, rfl, hO⟩ := hrel
    obtain ⟨q0, q1, q2, q3, q4, q5, q6⟩ := hO.cells
    by_cases hlt : k < L
    · obtain ⟨t, ht⟩ : ∃ t, l[k]? = some t := ⟨_, List.getElem?_eq_getElem (by have := HS.out.2.1; omega)⟩
      obtain ⟨g1, o1, rfl, hg1⟩ := (HS.out.1.kept hO.keeps fun _ _ _ e => e).at ht
      have y0 := hg1 0 _ rfl
      rw [Nat.add_zero] at y0
      obtain ⟨o, er, hA, hR⟩ := owners x t (HS.out.2.2 t (List.mem_of_getElem? ht))
      have HA : Hid (∀ (w : World) (N : Nat), x.In w N → N ≤ w.heap.size → Calls Try.prog 14 #[x.v, .int .i64 t] w fun r w' => r = .returned (.tuple #[o.v, .int .i64 er]) ∧ Keeps (fun _ => False) w w') := hA
      have HR : Hid (∀ (w : World) (N : Nat), x.In w N → N ≤ w.heap.size → Calls Try.prog 15 #[x.v, .int .i64 t] w fun r w' => r = .returned (.tuple #[o.v, .int .i64 er]) ∧ Keeps (fun _ => False) w w') := hR
      have H1 : Hid (One w x C N wr ∧ l[k]? = some t) := ⟨hO, ht⟩
      have HSX : Hid (∀ w', One w x C N w' → (w'.cell? ⟨C, 0, none⟩ = some (.int .i64 x.frames) ∧ w'.cell? ⟨C, 1, none⟩ = some (.int .i64 x.major) ∧ w'.cell? ⟨C, 2, none⟩ = some (.int .i64 x.kernel) ∧ w'.cell? ⟨C, 3, none⟩ = some (.int .i64 x.room) ∧ w'.cell? ⟨C, 4, none⟩ = some (.slice x.ca x.cs.length x.cc) ∧ w'.cell? ⟨C, 5, none⟩ = some (.slice x.pa x.ps.length x.pc) ∧ w'.cell? ⟨C, 6, none⟩ = some (.slice x.ha x.hs.length x.hc) ∧ w'.cell? ⟨g1, o1 + k, none⟩ = some (.int .i64 t))) := by
        intro w' h
        obtain ⟨q0, q1, q2, q3, q4, q5, q6⟩ := h.cells
        refine ⟨q0, q1, q2, q3, q4, q5, q6, ?_⟩
        obtain ⟨g2, o2, e2, hg2⟩ := (HS.out.1.kept h.keeps fun _ _ _ e => e).at ht
        obtain ⟨rfl, rfl⟩ : g1 = g2 ∧ o1 = o2 := by simpa using e2
        have := hg2 0 _ rfl
        simpa using this
      clear hO hg1 hA hR ht q0 q1 q2 q3 q4 q5 q6 y0
      go_upto_region 4 with fail
      go_cut [6, 7] from 19 to 27 (fun p e wx => ∃ M, p = .pointer (some ⟨M, 0, none⟩) ∧ e = .int .i64 er ∧ One w x C N wx ∧ Blk wx M o.vs 40)
      case first =>
        have hst := H1.out.1
        obtain ⟨WS, hWS⟩ : ∃ WS, WS = wr := ⟨_, rfl⟩
        rw [← hWS] at hst ⊢
        clear hWS
        refine wp_region_held_drew (S := (fun w' => w'.cell? ⟨C, 0, none⟩ = some (.int .i64 x.frames) ∧ w'.cell? ⟨C, 1, none⟩ = some (.int .i64 x.major) ∧ w'.cell? ⟨C, 2, none⟩ = some (.int .i64 x.kernel) ∧ w'.cell? ⟨C, 3, none⟩ = some (.int .i64 x.room) ∧ w'.cell? ⟨C, 4, none⟩ = some (.slice x.ca x.cs.length x.cc) ∧ w'.cell? ⟨C, 5, none⟩ = some (.slice x.pa x.ps.length x.pc) ∧ w'.cell? ⟨C, 6, none⟩ = some (.slice x.ha x.hs.length x.hc) ∧ w'.cell? ⟨g1, o1 + k, none⟩ = some (.int .i64 t))) Try.mixed (HSX.out _ (hst.kept ((Keeps.refl _ _).drew))) (fun hHeld => ?_)
        simp only [List.size_toArray, List.length_cons, List.length_nil, Nat.reduceAdd, Array.replicate_succ, Array.replicate_zero, List.push_toArray, List.append_toArray, List.nil_append, List.cons_append]
        refine wpAnyH_take (i := 0) (oi := { dst := some 20, op := Op.load 26 (Operand.tmp 2), type := 26, pos := "law.go:54", after := #[], guard := none }) (v := .agg #[.int .i64 x.frames, .int .i64 x.major, .int .i64 x.kernel, .int .i64 x.room, .slice x.ca x.cs.length x.cc, .slice x.pa x.ps.length x.pc, .slice x.ha x.hs.length x.hc]) rfl (by kernel_rfl) (by kernel_rfl) (by kernel_rfl) (fun _ _ _ h => h) (Or.inl ⟨by kernel_rfl, by (intro w hSw; (try dsimp only at hSw); go_simp)⟩) hHeld ?_
        simp only [Act.put, List.setIfInBounds_toArray, List.set_cons_zero, List.set_cons_succ]
        refine wpAnyH_take (i := 1) (oi := { dst := some 21, op := Op.move (Operand.tmp 1), type := 38, pos := "law.go:54", after := #[], guard := none }) (v := .slice (some ⟨g1, o1, none⟩) L cap) rfl (by kernel_rfl) (by kernel_rfl) (by kernel_rfl) (fun _ _ _ h => h) (Or.inl ⟨by kernel_rfl, by (intro w hSw; (try dsimp only at hSw); go_simp)⟩) hHeld ?_
        simp only [Act.put, List.setIfInBounds_toArray, List.set_cons_zero, List.set_cons_succ]
        refine wpAnyH_take (i := 2) (oi := { dst := some 22, op := Op.move (Operand.tmp 5), type := 3, pos := "law.go:54", after := #[], guard := none }) (v := .int .i64 k) rfl (by kernel_rfl) (by kernel_rfl) (by kernel_rfl) (fun _ _ _ h => h) (Or.inl ⟨by kernel_rfl, by (intro w hSw; (try dsimp only at hSw); go_simp)⟩) hHeld ?_
        simp only [Act.put, List.setIfInBounds_toArray, List.set_cons_zero, List.set_cons_succ]
        refine wpAnyH_take (i := 3) (oi := { dst := some 23, op := Op.indexAddr 38 (Operand.tmp 21) (Operand.tmp 22), type := 0, pos := "law.go:54", after := #[{ on := 1, ground := Ground.data }, { on := 2, ground := Ground.data }], guard := none }) (v := .pointer (some ⟨g1, o1 + k, none⟩)) rfl (by kernel_rfl) (by kernel_rfl) (by kernel_rfl) (fun _ _ _ h => h) (Or.inl ⟨by kernel_rfl, by (intro w hSw; (try dsimp only at hSw); go_simp)⟩) hHeld ?_
        simp only [Act.put, List.setIfInBounds_toArray, List.set_cons_zero, List.set_cons_succ]
        refine wpAnyH_take (i := 4) (oi := { dst := some 24, op := Op.load 3 (Operand.tmp 23), type := 3, pos := "law.go:54", after := #[{ on := 3, ground := Ground.data }], guard := none }) (v := .int .i64 t) rfl (by kernel_rfl) (by kernel_rfl) (by kernel_rfl) (fun _ _ _ h => h) (Or.inl ⟨by kernel_rfl, by (intro w hSw; (try dsimp only at hSw); go_simp)⟩) hHeld ?_
        simp only [Act.put, List.setIfInBounds_toArray, List.set_cons_zero, List.set_cons_succ]
        obtain ⟨w0, hw0⟩ : ∃ w0, w0 = WS.drew := ⟨_, rfl⟩
        have hs0 : One w x C N w0 := by rw [hw0]; exact hst.kept ((Keeps.refl (fun _ => False) _).drew)
        rw [← hw0]
        clear hw0
        refine wpAnyH_ready (rs := [5, 9]) (by kernel_rfl) (by simp) ?_
        refine (AllReadyH.cons (o := { dst := some 25, op := Op.call { callee := Callee.value (Operand.func 14), args := #[Operand.tmp 20, Operand.tmp 24], argTypes := #[26, 3] }, type := 41, pos := "law.go:54", after := #[{ on := 0, ground := Ground.data }, { on := 4, ground := Ground.data }], guard := none }) rfl (fun K hK => ?_) (AllReadyH.cons (o := { dst := some 6, op := Op.alloc 40, type := 0, pos := "law.go:54", after := #[], guard := none }) rfl (fun K hK => ?_) AllReadyH.nil))
        · go_simp
          refine (HA.out w0 N hs0.cin hs0.nn).mono ?_
          rintro r wa ⟨rfl, hKc⟩
          have ha : One w x C N wa := hs0.kept hKc
          clear hKc
          refine hK.out _ _ (HSX.out _ ha) (fun hHeld => ?_)
          simp only [Act.put, List.setIfInBounds_toArray, List.set_cons_zero, List.set_cons_succ]
          refine wpAnyH_take (i := 6) (oi := { dst := some 19, op := Op.move (Operand.tmp 25), type := 41, pos := "law.go:54", after := #[{ on := 5, ground := Ground.data }], guard := none }) (v := .tuple #[o.v, .int .i64 er]) rfl (by kernel_rfl) (by kernel_rfl) (by kernel_rfl) (fun _ _ _ h => h) (Or.inl ⟨by kernel_rfl, by (intro w hSw; (try dsimp only at hSw); go_simp)⟩) hHeld ?_
          simp only [Act.put, List.setIfInBounds_toArray, List.set_cons_zero, List.set_cons_succ]
          refine wpAnyH_take (i := 7) (oi := { dst := some 26, op := Op.extract (Operand.tmp 19) 0, type := 40, pos := "law.go:54", after := #[{ on := 6, ground := Ground.data }], guard := none }) (v := o.v) rfl (by kernel_rfl) (by kernel_rfl) (by kernel_rfl) (fun _ _ _ h => h) (Or.inl ⟨by kernel_rfl, by (intro w hSw; (try dsimp only at hSw); go_simp)⟩) hHeld ?_
          simp only [Act.put, List.setIfInBounds_toArray, List.set_cons_zero, List.set_cons_succ]
          refine wpAnyH_take (i := 8) (oi := { dst := some 27, op := Op.extract (Operand.tmp 19) 1, type := 31, pos := "law.go:54", after := #[{ on := 6, ground := Ground.data }, { on := 10, ground := Ground.gcOnly Departure.lateStores }], guard := none }) (v := .int .i64 er) rfl (by kernel_rfl) (by kernel_rfl) (by kernel_rfl) (fun _ _ _ h => h) (Or.inl ⟨by kernel_rfl, by (intro w hSw; (try dsimp only at hSw); go_simp)⟩) hHeld ?_
          simp only [Act.put, List.setIfInBounds_toArray, List.set_cons_zero, List.set_cons_succ]
          refine wpAnyH_ready (rs := [9]) (by kernel_rfl) (by simp) ?_
          refine AllReadyH.cons (o := { dst := some 6, op := Op.alloc 40, type := 0, pos := "law.go:54", after := #[], guard := none }) rfl (fun K hK => ?_) AllReadyH.nil
          go_simp
          obtain ⟨wb, hw⟩ : ∃ wb, wb = wa.alloc (.cells #[.int .i64 0, .int .i64 0, .int .i64 0] 40) := ⟨_, rfl⟩
          have hKc : Keeps (fun _ => False) wa wb := by rw [hw]; exact (Keeps.refl _ _).alloc _
          have hb : One w x C N wb := ha.kept hKc
          have bM : Blk wb wa.heap.size [.int .i64 0, .int .i64 0, .int .i64 0] 40 := by rw [hw]; exact Blk.new _ _ _
          have hM0 : w.heap.size ≤ wa.heap.size ∧ N ≤ wa.heap.size ∧ C < wa.heap.size := ⟨ha.keeps.size, ha.nn, ha.cfg.lt⟩
          rw [← hw]
          clear hw hKc
          obtain ⟨M, hM⟩ : ∃ M, M = wa.heap.size := ⟨_, rfl⟩
          rw [← hM] at bM hM0 ⊢
          clear hM
          refine hK.out _ _ (HSX.out _ hb) (fun hHeld => ?_)
          simp only [Act.put, List.setIfInBounds_toArray, List.set_cons_zero, List.set_cons_succ]
          refine wpAnyH_ready (rs := [10]) (by kernel_rfl) (by simp) ?_
          refine AllReadyH.cons (o := { dst := none, op := Op.store 40 (Operand.tmp 6) (Operand.tmp 26), type := 0, pos := "law.go:54", after := #[{ on := 9, ground := Ground.data }, { on := 7, ground := Ground.data }, { on := 5, ground := Ground.chain }, { on := 0, ground := Ground.phase }, { on := 1, ground := Ground.phase }, { on := 2, ground := Ground.phase }, { on := 3, ground := Ground.phase }, { on := 4, ground := Ground.phase }, { on := 5, ground := Ground.phase }, { on := 6, ground := Ground.phase }, { on := 7, ground := Ground.phase }, { on := 8, ground := Ground.textOnly Departure.lateStores }, { on := 9, ground := Ground.phase }], guard := none }) rfl (fun K hK => ?_) AllReadyH.nil
          have m0 := bM.cell (i := 0) rfl
          have m1 := bM.cell (i := 1) rfl
          have m2 := bM.cell (i := 2) rfl
          have n0 := bM.frozen 0
          have n1 := bM.frozen 1
          have n2 := bM.frozen 2
          go_simp
          obtain ⟨hB, hK3⟩ := set3 bM (.int .i64 o.kind) (.int .i64 o.idx) (.int .i64 o.port)
          obtain ⟨Wb, hWb⟩ : ∃ Wb, Wb = (((wb.setCell ⟨M, 0, none⟩ (.int .i64 o.kind)).setCell ⟨M, 1, none⟩ (.int .i64 o.idx)).setCell ⟨M, 2, none⟩ (.int .i64 o.port)) := ⟨_, rfl⟩
          rw [← hWb] at hB hK3 ⊢
          clear hWb
          have hz : One w x C N Wb := hb.kept' hK3 (by omega) (fun k e => by omega) (fun k e => by omega)
          refine hK.out _ _ (HSX.out _ hz) (fun hHeld => ?_)
          simp only [Act.put, List.setIfInBounds_toArray, List.set_cons_zero, List.set_cons_succ]
          refine wpAnyH_take (i := 11) (oi := { dst := some 7, op := Op.assign (Operand.tmp 27), type := 31, pos := "law.go:54", after := #[{ on := 8, ground := Ground.data }, { on := 10, ground := Ground.chain }, { on := 0, ground := Ground.phase }, { on := 1, ground := Ground.phase }, { on := 2, ground := Ground.phase }, { on := 3, ground := Ground.phase }, { on := 4, ground := Ground.phase }, { on := 5, ground := Ground.phase }, { on := 6, ground := Ground.phase }, { on := 7, ground := Ground.phase }, { on := 8, ground := Ground.phase }, { on := 9, ground := Ground.phase }, { on := 10, ground := Ground.phase }], guard := none }) (v := .int .i64 er) rfl (by kernel_rfl) (by kernel_rfl) (by kernel_rfl) (fun _ _ _ h => h) (Or.inl ⟨by kernel_rfl, by (intro w hSw; (try dsimp only at hSw); go_simp)⟩) hHeld ?_
          simp only [Act.put, List.setIfInBounds_toArray, List.set_cons_zero, List.set_cons_succ]
          refine wpAnyH_done (by kernel_rfl) ?_ _
          go_wp2_with fail
          go_meet
          exact ⟨M, rfl, rfl, hz, hB⟩
        · go_simp
          obtain ⟨wa, hw⟩ : ∃ wa, wa = w0.alloc (.cells #[.int .i64 0, .int .i64 0, .int .i64 0] 40) := ⟨_, rfl⟩
          have hKc : Keeps (fun _ => False) w0 wa := by rw [hw]; exact (Keeps.refl _ _).alloc _
          have ha : One w x C N wa := hs0.kept hKc
          have bM : Blk wa w0.heap.size [.int .i64 0, .int .i64 0, .int .i64 0] 40 := by rw [hw]; exact Blk.new _ _ _
          have hM0 : w.heap.size ≤ w0.heap.size ∧ N ≤ w0.heap.size ∧ C < w0.heap.size := ⟨hs0.keeps.size, hs0.nn, hs0.cfg.lt⟩
          rw [← hw]
          clear hw hKc
          obtain ⟨M, hM⟩ : ∃ M, M = w0.heap.size := ⟨_, rfl⟩
          rw [← hM] at bM hM0 ⊢
          clear hM
          refine hK.out _ _ (HSX.out _ ha) (fun hHeld => ?_)
          simp only [Act.put, List.setIfInBounds_toArray, List.set_cons_zero, List.set_cons_succ]
          refine wpAnyH_ready (rs := [5]) (by kernel_rfl) (by simp) ?_
          refine AllReadyH.cons (o := { dst := some 25, op := Op.call { callee := Callee.value (Operand.func 14), args := #[Operand.tmp 20, Operand.tmp 24], argTypes := #[26, 3] }, type := 41, pos := "law.go:54", after := #[{ on := 0, ground := Ground.data }, { on := 4, ground := Ground.data }], guard := none }) rfl (fun K hK => ?_) AllReadyH.nil
          go_simp
          refine (HA.out wa N ha.cin ha.nn).mono ?_
          rintro r wb ⟨rfl, hKc⟩
          have hb : One w x C N wb := ha.kept hKc
          have bM := bM.kept hKc fun h => h
          clear hKc
          refine hK.out _ _ (HSX.out _ hb) (fun hHeld => ?_)
          simp only [Act.put, List.setIfInBounds_toArray, List.set_cons_zero, List.set_cons_succ]
          refine wpAnyH_take (i := 6) (oi := { dst := some 19, op := Op.move (Operand.tmp 25), type := 41, pos := "law.go:54", after := #[{ on := 5, ground := Ground.data }], guard := none }) (v := .tuple #[o.v, .int .i64 er]) rfl (by kernel_rfl) (by kernel_rfl) (by kernel_rfl) (fun _ _ _ h => h) (Or.inl ⟨by kernel_rfl, by (intro w hSw; (try dsimp only at hSw); go_simp)⟩) hHeld ?_
          simp only [Act.put, List.setIfInBounds_toArray, List.set_cons_zero, List.set_cons_succ]
          refine wpAnyH_take (i := 7) (oi := { dst := some 26, op := Op.extract (Operand.tmp 19) 0, type := 40, pos := "law.go:54", after := #[{ on := 6, ground := Ground.data }], guard := none }) (v := o.v) rfl (by kernel_rfl) (by kernel_rfl) (by kernel_rfl) (fun _ _ _ h => h) (Or.inl ⟨by kernel_rfl, by (intro w hSw; (try dsimp only at hSw); go_simp)⟩) hHeld ?_
          simp only [Act.put, List.setIfInBounds_toArray, List.set_cons_zero, List.set_cons_succ]
          refine wpAnyH_take (i := 8) (oi := { dst := some 27, op := Op.extract (Operand.tmp 19) 1, type := 31, pos := "law.go:54", after := #[{ on := 6, ground := Ground.data }, { on := 10, ground := Ground.gcOnly Departure.lateStores }], guard := none }) (v := .int .i64 er) rfl (by kernel_rfl) (by kernel_rfl) (by kernel_rfl) (fun _ _ _ h => h) (Or.inl ⟨by kernel_rfl, by (intro w hSw; (try dsimp only at hSw); go_simp)⟩) hHeld ?_
          simp only [Act.put, List.setIfInBounds_toArray, List.set_cons_zero, List.set_cons_succ]
          refine wpAnyH_ready (rs := [10]) (by kernel_rfl) (by simp) ?_
          refine AllReadyH.cons (o := { dst := none, op := Op.store 40 (Operand.tmp 6) (Operand.tmp 26), type := 0, pos := "law.go:54", after := #[{ on := 9, ground := Ground.data }, { on := 7, ground := Ground.data }, { on := 5, ground := Ground.chain }, { on := 0, ground := Ground.phase }, { on := 1, ground := Ground.phase }, { on := 2, ground := Ground.phase }, { on := 3, ground := Ground.phase }, { on := 4, ground := Ground.phase }, { on := 5, ground := Ground.phase }, { on := 6, ground := Ground.phase }, { on := 7, ground := Ground.phase }, { on := 8, ground := Ground.textOnly Departure.lateStores }, { on := 9, ground := Ground.phase }], guard := none }) rfl (fun K hK => ?_) AllReadyH.nil
          have m0 := bM.cell (i := 0) rfl
          have m1 := bM.cell (i := 1) rfl
          have m2 := bM.cell (i := 2) rfl
          have n0 := bM.frozen 0
          have n1 := bM.frozen 1
          have n2 := bM.frozen 2
          go_simp
          obtain ⟨hB, hK3⟩ := set3 bM (.int .i64 o.kind) (.int .i64 o.idx) (.int .i64 o.port)
          obtain ⟨Wb, hWb⟩ : ∃ Wb, Wb = (((wb.setCell ⟨M, 0, none⟩ (.int .i64 o.kind)).setCell ⟨M, 1, none⟩ (.int .i64 o.idx)).setCell ⟨M, 2, none⟩ (.int .i64 o.port)) := ⟨_, rfl⟩
          rw [← hWb] at hB hK3 ⊢
          clear hWb
          have hz : One w x C N Wb := hb.kept' hK3 (by omega) (fun k e => by omega) (fun k e => by omega)
          refine hK.out _ _ (HSX.out _ hz) (fun hHeld => ?_)
          simp only [Act.put, List.setIfInBounds_toArray, List.set_cons_zero, List.set_cons_succ]
          refine wpAnyH_take (i := 11) (oi := { dst := some 7, op := Op.assign (Operand.tmp 27), type := 31, pos := "law.go:54", after := #[{ on := 8, ground := Ground.data }, { on := 10, ground := Ground.chain }, { on := 0, ground := Ground.phase }, { on := 1, ground := Ground.phase }, { on := 2, ground := Ground.phase }, { on := 3, ground := Ground.phase }, { on := 4, ground := Ground.phase }, { on := 5, ground := Ground.phase }, { on := 6, ground := Ground.phase }, { on := 7, ground := Ground.phase }, { on := 8, ground := Ground.phase }, { on := 9, ground := Ground.phase }, { on := 10, ground := Ground.phase }], guard := none }) (v := .int .i64 er) rfl (by kernel_rfl) (by kernel_rfl) (by kernel_rfl) (fun _ _ _ h => h) (Or.inl ⟨by kernel_rfl, by (intro w hSw; (try dsimp only at hSw); go_simp)⟩) hHeld ?_
          simp only [Act.put, List.setIfInBounds_toArray, List.set_cons_zero, List.set_cons_succ]
          refine wpAnyH_done (by kernel_rfl) ?_ _
          go_wp2_with fail
          go_meet
          exact ⟨M, rfl, rfl, hz, hB⟩
      obtain ⟨A, rfl, rfl, hst, hB⟩ := hcut
      have H3 : Hid (One w x C N wc ∧ Blk wc A o.vs 40) := ⟨hst, hB⟩
      clear hst hB
      obtain ⟨WS, hWS⟩ : ∃ WS, WS = wc := ⟨_, rfl⟩
      rw [← hWS] at H3 ⊢
      clear hWS
      go_upto_region 5 with fail
      go_cut [8, 9] from 28 to 36 (fun p e wx => ∃ M, p = .pointer (some ⟨M, 0, none⟩) ∧ e = .int .i64 er ∧ (One w x C N wx ∧ Blk wx A o.vs 40) ∧ Blk wx M o.vs 40)
      case first =>
        have hst := H3.out
        refine wp_region_held_drew (S := (fun w' => w'.cell? ⟨C, 0, none⟩ = some (.int .i64 x.frames) ∧ w'.cell? ⟨C, 1, none⟩ = some (.int .i64 x.major) ∧ w'.cell? ⟨C, 2, none⟩ = some (.int .i64 x.kernel) ∧ w'.cell? ⟨C, 3, none⟩ = some (.int .i64 x.room) ∧ w'.cell? ⟨C, 4, none⟩ = some (.slice x.ca x.cs.length x.cc) ∧ w'.cell? ⟨C, 5, none⟩ = some (.slice x.pa x.ps.length x.pc) ∧ w'.cell? ⟨C, 6, none⟩ = some (.slice x.ha x.hs.length x.hc) ∧ w'.cell? ⟨g1, o1 + k, none⟩ = some (.int .i64 t))) Try.mixed (HSX.out _ (hst.1.kept ((Keeps.refl _ _).drew))) (fun hHeld => ?_)
        simp only [List.size_toArray, List.length_cons, List.length_nil, Nat.reduceAdd, Array.replicate_succ, Array.replicate_zero, List.push_toArray, List.append_toArray, List.nil_append, List.cons_append]
        refine wpAnyH_take (i := 0) (oi := { dst := some 29, op := Op.load 26 (Operand.tmp 2), type := 26, pos := "law.go:55", after := #[], guard := none }) (v := .agg #[.int .i64 x.frames, .int .i64 x.major, .int .i64 x.kernel, .int .i64 x.room, .slice x.ca x.cs.length x.cc, .slice x.pa x.ps.length x.pc, .slice x.ha x.hs.length x.hc]) rfl (by kernel_rfl) (by kernel_rfl) (by kernel_rfl) (fun _ _ _ h => h) (Or.inl ⟨by kernel_rfl, by (intro w hSw; (try dsimp only at hSw); go_simp)⟩) hHeld ?_
        simp only [Act.put, List.setIfInBounds_toArray, List.set_cons_zero, List.set_cons_succ]
        refine wpAnyH_take (i := 1) (oi := { dst := some 30, op := Op.move (Operand.tmp 1), type := 38, pos := "law.go:55", after := #[], guard := none }) (v := .slice (some ⟨g1, o1, none⟩) L cap) rfl (by kernel_rfl) (by kernel_rfl) (by kernel_rfl) (fun _ _ _ h => h) (Or.inl ⟨by kernel_rfl, by (intro w hSw; (try dsimp only at hSw); go_simp)⟩) hHeld ?_
        simp only [Act.put, List.setIfInBounds_toArray, List.set_cons_zero, List.set_cons_succ]
        refine wpAnyH_take (i := 2) (oi := { dst := some 31, op := Op.move (Operand.tmp 5), type := 3, pos := "law.go:55", after := #[], guard := none }) (v := .int .i64 k) rfl (by kernel_rfl) (by kernel_rfl) (by kernel_rfl) (fun _ _ _ h => h) (Or.inl ⟨by kernel_rfl, by (intro w hSw; (try dsimp only at hSw); go_simp)⟩) hHeld ?_
        simp only [Act.put, List.setIfInBounds_toArray, List.set_cons_zero, List.set_cons_succ]
        refine wpAnyH_take (i := 3) (oi := { dst := some 32, op := Op.indexAddr 38 (Operand.tmp 30) (Operand.tmp 31), type := 0, pos := "law.go:55", after := #[{ on := 1, ground := Ground.data }, { on := 2, ground := Ground.data }], guard := none }) (v := .pointer (some ⟨g1, o1 + k, none⟩)) rfl (by kernel_rfl) (by kernel_rfl) (by kernel_rfl) (fun _ _ _ h => h) (Or.inl ⟨by kernel_rfl, by (intro w hSw; (try dsimp only at hSw); go_simp)⟩) hHeld ?_
        simp only [Act.put, List.setIfInBounds_toArray, List.set_cons_zero, List.set_cons_succ]
        refine wpAnyH_take (i := 4) (oi := { dst := some 33, op := Op.load 3 (Operand.tmp 32), type := 3, pos := "law.go:55", after := #[{ on := 3, ground := Ground.data }], guard := none }) (v := .int .i64 t) rfl (by kernel_rfl) (by kernel_rfl) (by kernel_rfl) (fun _ _ _ h => h) (Or.inl ⟨by kernel_rfl, by (intro w hSw; (try dsimp only at hSw); go_simp)⟩) hHeld ?_
        simp only [Act.put, List.setIfInBounds_toArray, List.set_cons_zero, List.set_cons_succ]
        obtain ⟨w0, hw0⟩ : ∃ w0, w0 = WS.drew := ⟨_, rfl⟩
        have hs0 : One w x C N w0 ∧ Blk w0 A o.vs 40 := by rw [hw0]; exact ⟨hst.1.kept ((Keeps.refl (fun _ => False) _).drew), hst.2.kept ((Keeps.refl (fun _ => False) _).drew) fun h => h⟩
        rw [← hw0]
        clear hw0
        refine wpAnyH_ready (rs := [5, 9]) (by kernel_rfl) (by simp) ?_
        refine (AllReadyH.cons (o := { dst := some 34, op := Op.call { callee := Callee.value (Operand.func 15), args := #[Operand.tmp 29, Operand.tmp 33], argTypes := #[26, 3] }, type := 41, pos := "law.go:55", after := #[{ on := 0, ground := Ground.data }, { on := 4, ground := Ground.data }], guard := none }) rfl (fun K hK => ?_) (AllReadyH.cons (o := { dst := some 8, op := Op.alloc 40, type := 0, pos := "law.go:55", after := #[], guard := none }) rfl (fun K hK => ?_) AllReadyH.nil))
        · go_simp
          refine (HR.out w0 N hs0.1.cin hs0.1.nn).mono ?_
          rintro r wa ⟨rfl, hKc⟩
          have ha : One w x C N wa ∧ Blk wa A o.vs 40 := ⟨hs0.1.kept hKc, hs0.2.kept hKc fun h => h⟩
          clear hKc
          refine hK.out _ _ (HSX.out _ ha.1) (fun hHeld => ?_)
          simp only [Act.put, List.setIfInBounds_toArray, List.set_cons_zero, List.set_cons_succ]
          refine wpAnyH_take (i := 6) (oi := { dst := some 28, op := Op.move (Operand.tmp 34), type := 41, pos := "law.go:55", after := #[{ on := 5, ground := Ground.data }], guard := none }) (v := .tuple #[o.v, .int .i64 er]) rfl (by kernel_rfl) (by kernel_rfl) (by kernel_rfl) (fun _ _ _ h => h) (Or.inl ⟨by kernel_rfl, by (intro w hSw; (try dsimp only at hSw); go_simp)⟩) hHeld ?_
          simp only [Act.put, List.setIfInBounds_toArray, List.set_cons_zero, List.set_cons_succ]
          refine wpAnyH_take (i := 7) (oi := { dst := some 35, op := Op.extract (Operand.tmp 28) 0, type := 40, pos := "law.go:55", after := #[{ on := 6, ground := Ground.data }], guard := none }) (v := o.v) rfl (by kernel_rfl) (by kernel_rfl) (by kernel_rfl) (fun _ _ _ h => h) (Or.inl ⟨by kernel_rfl, by (intro w hSw; (try dsimp only at hSw); go_simp)⟩) hHeld ?_
          simp only [Act.put, List.setIfInBounds_toArray, List.set_cons_zero, List.set_cons_succ]
          refine wpAnyH_take (i := 8) (oi := { dst := some 36, op := Op.extract (Operand.tmp 28) 1, type := 31, pos := "law.go:55", after := #[{ on := 6, ground := Ground.data }, { on := 10, ground := Ground.gcOnly Departure.lateStores }], guard := none }) (v := .int .i64 er) rfl (by kernel_rfl) (by kernel_rfl) (by kernel_rfl) (fun _ _ _ h => h) (Or.inl ⟨by kernel_rfl, by (intro w hSw; (try dsimp only at hSw); go_simp)⟩) hHeld ?_
          simp only [Act.put, List.setIfInBounds_toArray, List.set_cons_zero, List.set_cons_succ]
          refine wpAnyH_ready (rs := [9]) (by kernel_rfl) (by simp) ?_
          refine AllReadyH.cons (o := { dst := some 8, op := Op.alloc 40, type := 0, pos := "law.go:55", after := #[], guard := none }) rfl (fun K hK => ?_) AllReadyH.nil
          go_simp
          obtain ⟨wb, hw⟩ : ∃ wb, wb = wa.alloc (.cells #[.int .i64 0, .int .i64 0, .int .i64 0] 40) := ⟨_, rfl⟩
          have hKc : Keeps (fun _ => False) wa wb := by rw [hw]; exact (Keeps.refl _ _).alloc _
          have hb : One w x C N wb ∧ Blk wb A o.vs 40 := ⟨ha.1.kept hKc, ha.2.kept hKc fun h => h⟩
          have bM : Blk wb wa.heap.size [.int .i64 0, .int .i64 0, .int .i64 0] 40 := by rw [hw]; exact Blk.new _ _ _
          have hM0 : w.heap.size ≤ wa.heap.size ∧ N ≤ wa.heap.size ∧ C < wa.heap.size ∧ A < wa.heap.size := ⟨ha.1.keeps.size, ha.1.nn, ha.1.cfg.lt, ha.2.lt⟩
          rw [← hw]
          clear hw hKc
          obtain ⟨M, hM⟩ : ∃ M, M = wa.heap.size := ⟨_, rfl⟩
          rw [← hM] at bM hM0 ⊢
          clear hM
          refine hK.out _ _ (HSX.out _ hb.1) (fun hHeld => ?_)
          simp only [Act.put, List.setIfInBounds_toArray, List.set_cons_zero, List.set_cons_succ]
          refine wpAnyH_ready (rs := [10]) (by kernel_rfl) (by simp) ?_
          refine AllReadyH.cons (o := { dst := none, op := Op.store 40 (Operand.tmp 8) (Operand.tmp 35), type := 0, pos := "law.go:55", after := #[{ on := 9, ground := Ground.data }, { on := 7, ground := Ground.data }, { on := 5, ground := Ground.chain }, { on := 0, ground := Ground.phase }, { on := 1, ground := Ground.phase }, { on := 2, ground := Ground.phase }, { on := 3, ground := Ground.phase }, { on := 4, ground := Ground.phase }, { on := 5, ground := Ground.phase }, { on := 6, ground := Ground.phase }, { on := 7, ground := Ground.phase }, { on := 8, ground := Ground.textOnly Departure.lateStores }, { on := 9, ground := Ground.phase }], guard := none }) rfl (fun K hK => ?_) AllReadyH.nil
          have m0 := bM.cell (i := 0) rfl
          have m1 := bM.cell (i := 1) rfl
          have m2 := bM.cell (i := 2) rfl
          have n0 := bM.frozen 0
          have n1 := bM.frozen 1
          have n2 := bM.frozen 2
          go_simp
          obtain ⟨hB, hK3⟩ := set3 bM (.int .i64 o.kind) (.int .i64 o.idx) (.int .i64 o.port)
          obtain ⟨Wb, hWb⟩ : ∃ Wb, Wb = (((wb.setCell ⟨M, 0, none⟩ (.int .i64 o.kind)).setCell ⟨M, 1, none⟩ (.int .i64 o.idx)).setCell ⟨M, 2, none⟩ (.int .i64 o.port)) := ⟨_, rfl⟩
          rw [← hWb] at hB hK3 ⊢
          clear hWb
          have hz : One w x C N Wb ∧ Blk Wb A o.vs 40 := ⟨hb.1.kept' hK3 (by omega) (fun k e => by omega) (fun k e => by omega), hb.2.kept hK3 (by omega)⟩
          refine hK.out _ _ (HSX.out _ hz.1) (fun hHeld => ?_)
          simp only [Act.put, List.setIfInBounds_toArray, List.set_cons_zero, List.set_cons_succ]
          refine wpAnyH_take (i := 11) (oi := { dst := some 9, op := Op.assign (Operand.tmp 36), type := 31, pos := "law.go:55", after := #[{ on := 8, ground := Ground.data }, { on := 10, ground := Ground.chain }, { on := 0, ground := Ground.phase }, { on := 1, ground := Ground.phase }, { on := 2, ground := Ground.phase }, { on := 3, ground := Ground.phase }, { on := 4, ground := Ground.phase }, { on := 5, ground := Ground.phase }, { on := 6, ground := Ground.phase }, { on := 7, ground := Ground.phase }, { on := 8, ground := Ground.phase }, { on := 9, ground := Ground.phase }, { on := 10, ground := Ground.phase }], guard := none }) (v := .int .i64 er) rfl (by kernel_rfl) (by kernel_rfl) (by kernel_rfl) (fun _ _ _ h => h) (Or.inl ⟨by kernel_rfl, by (intro w hSw; (try dsimp only at hSw); go_simp)⟩) hHeld ?_
          simp only [Act.put, List.setIfInBounds_toArray, List.set_cons_zero, List.set_cons_succ]
          refine wpAnyH_done (by kernel_rfl) ?_ _
          go_wp2_with fail
          go_meet
          exact ⟨M, rfl, rfl, hz, hB⟩
        · go_simp
          obtain ⟨wa, hw⟩ : ∃ wa, wa = w0.alloc (.cells #[.int .i64 0, .int .i64 0, .int .i64 0] 40) := ⟨_, rfl⟩
          have hKc : Keeps (fun _ => False) w0 wa := by rw [hw]; exact (Keeps.refl _ _).alloc _
          have ha : One w x C N wa ∧ Blk wa A o.vs 40 := ⟨hs0.1.kept hKc, hs0.2.kept hKc fun h => h⟩
          have bM : Blk wa w0.heap.size [.int .i64 0, .int .i64 0, .int .i64 0] 40 := by rw [hw]; exact Blk.new _ _ _
          have hM0 : w.heap.size ≤ w0.heap.size ∧ N ≤ w0.heap.size ∧ C < w0.heap.size ∧ A < w0.heap.size := ⟨hs0.1.keeps.size, hs0.1.nn, hs0.1.cfg.lt, hs0.2.lt⟩
          rw [← hw]
          clear hw hKc
          obtain ⟨M, hM⟩ : ∃ M, M = w0.heap.size := ⟨_, rfl⟩
          rw [← hM] at bM hM0 ⊢
          clear hM
          refine hK.out _ _ (HSX.out _ ha.1) (fun hHeld => ?_)
          simp only [Act.put, List.setIfInBounds_toArray, List.set_cons_zero, List.set_cons_succ]
          refine wpAnyH_ready (rs := [5]) (by kernel_rfl) (by simp) ?_
          refine AllReadyH.cons (o := { dst := some 34, op := Op.call { callee := Callee.value (Operand.func 15), args := #[Operand.tmp 29, Operand.tmp 33], argTypes := #[26, 3] }, type := 41, pos := "law.go:55", after := #[{ on := 0, ground := Ground.data }, { on := 4, ground := Ground.data }], guard := none }) rfl (fun K hK => ?_) AllReadyH.nil
          go_simp
          refine (HR.out wa N ha.1.cin ha.1.nn).mono ?_
          rintro r wb ⟨rfl, hKc⟩
          have hb : One w x C N wb ∧ Blk wb A o.vs 40 := ⟨ha.1.kept hKc, ha.2.kept hKc fun h => h⟩
          have bM := bM.kept hKc fun h => h
          clear hKc
          refine hK.out _ _ (HSX.out _ hb.1) (fun hHeld => ?_)
          simp only [Act.put, List.setIfInBounds_toArray, List.set_cons_zero, List.set_cons_succ]
          refine wpAnyH_take (i := 6) (oi := { dst := some 28, op := Op.move (Operand.tmp 34), type := 41, pos := "law.go:55", after := #[{ on := 5, ground := Ground.data }], guard := none }) (v := .tuple #[o.v, .int .i64 er]) rfl (by kernel_rfl) (by kernel_rfl) (by kernel_rfl) (fun _ _ _ h => h) (Or.inl ⟨by kernel_rfl, by (intro w hSw; (try dsimp only at hSw); go_simp)⟩) hHeld ?_
          simp only [Act.put, List.setIfInBounds_toArray, List.set_cons_zero, List.set_cons_succ]
          refine wpAnyH_take (i := 7) (oi := { dst := some 35, op := Op.extract (Operand.tmp 28) 0, type := 40, pos := "law.go:55", after := #[{ on := 6, ground := Ground.data }], guard := none }) (v := o.v) rfl (by kernel_rfl) (by kernel_rfl) (by kernel_rfl) (fun _ _ _ h => h) (Or.inl ⟨by kernel_rfl, by (intro w hSw; (try dsimp only at hSw); go_simp)⟩) hHeld ?_
          simp only [Act.put, List.setIfInBounds_toArray, List.set_cons_zero, List.set_cons_succ]
          refine wpAnyH_take (i := 8) (oi := { dst := some 36, op := Op.extract (Operand.tmp 28) 1, type := 31, pos := "law.go:55", after := #[{ on := 6, ground := Ground.data }, { on := 10, ground := Ground.gcOnly Departure.lateStores }], guard := none }) (v := .int .i64 er) rfl (by kernel_rfl) (by kernel_rfl) (by kernel_rfl) (fun _ _ _ h => h) (Or.inl ⟨by kernel_rfl, by (intro w hSw; (try dsimp only at hSw); go_simp)⟩) hHeld ?_
          simp only [Act.put, List.setIfInBounds_toArray, List.set_cons_zero, List.set_cons_succ]
          refine wpAnyH_ready (rs := [10]) (by kernel_rfl) (by simp) ?_
          refine AllReadyH.cons (o := { dst := none, op := Op.store 40 (Operand.tmp 8) (Operand.tmp 35), type := 0, pos := "law.go:55", after := #[{ on := 9, ground := Ground.data }, { on := 7, ground := Ground.data }, { on := 5, ground := Ground.chain }, { on := 0, ground := Ground.phase }, { on := 1, ground := Ground.phase }, { on := 2, ground := Ground.phase }, { on := 3, ground := Ground.phase }, { on := 4, ground := Ground.phase }, { on := 5, ground := Ground.phase }, { on := 6, ground := Ground.phase }, { on := 7, ground := Ground.phase }, { on := 8, ground := Ground.textOnly Departure.lateStores }, { on := 9, ground := Ground.phase }], guard := none }) rfl (fun K hK => ?_) AllReadyH.nil
          have m0 := bM.cell (i := 0) rfl
          have m1 := bM.cell (i := 1) rfl
          have m2 := bM.cell (i := 2) rfl
          have n0 := bM.frozen 0
          have n1 := bM.frozen 1
          have n2 := bM.frozen 2
          go_simp
          obtain ⟨hB, hK3⟩ := set3 bM (.int .i64 o.kind) (.int .i64 o.idx) (.int .i64 o.port)
          obtain ⟨Wb, hWb⟩ : ∃ Wb, Wb = (((wb.setCell ⟨M, 0, none⟩ (.int .i64 o.kind)).setCell ⟨M, 1, none⟩ (.int .i64 o.idx)).setCell ⟨M, 2, none⟩ (.int .i64 o.port)) := ⟨_, rfl⟩
          rw [← hWb] at hB hK3 ⊢
          clear hWb
          have hz : One w x C N Wb ∧ Blk Wb A o.vs 40 := ⟨hb.1.kept' hK3 (by omega) (fun k e => by omega) (fun k e => by omega), hb.2.kept hK3 (by omega)⟩
          refine hK.out _ _ (HSX.out _ hz.1) (fun hHeld => ?_)
          simp only [Act.put, List.setIfInBounds_toArray, List.set_cons_zero, List.set_cons_succ]
          refine wpAnyH_take (i := 11) (oi := { dst := some 9, op := Op.assign (Operand.tmp 36), type := 31, pos := "law.go:55", after := #[{ on := 8, ground := Ground.data }, { on := 10, ground := Ground.chain }, { on := 0, ground := Ground.phase }, { on := 1, ground := Ground.phase }, { on := 2, ground := Ground.phase }, { on := 3, ground := Ground.phase }, { on := 4, ground := Ground.phase }, { on := 5, ground := Ground.phase }, { on := 6, ground := Ground.phase }, { on := 7, ground := Ground.phase }, { on := 8, ground := Ground.phase }, { on := 9, ground := Ground.phase }, { on := 10, ground := Ground.phase }], guard := none }) (v := .int .i64 er) rfl (by kernel_rfl) (by kernel_rfl) (by kernel_rfl) (fun _ _ _ h => h) (Or.inl ⟨by kernel_rfl, by (intro w hSw; (try dsimp only at hSw); go_simp)⟩) hHeld ?_
          simp only [Act.put, List.setIfInBounds_toArray, List.set_cons_zero, List.set_cons_succ]
          refine wpAnyH_done (by kernel_rfl) ?_ _
          go_wp2_with fail
          go_meet
          exact ⟨M, rfl, rfl, hz, hB⟩
      obtain ⟨M, rfl, rfl, hst, hB⟩ := hcut
      have f0 := hst.2.cell (i := 0) rfl
      have f1 := hst.2.cell (i := 1) rfl
      have f2 := hst.2.cell (i := 2) rfl
      have z0 := hB.cell (i := 0) rfl
      have z1 := hB.cell (i := 1) rfl
      have z2 := hB.cell (i := 2) rfl
      have HZ : Hid (One w x C N _) := hst.1
      clear hst hB
      go_wp2
      go_roundw
      case rel => exact ⟨k + 1, by omega, by go_num, HZ.out⟩
      case measure => simp [intOf]; omega
    · obtain rfl : k = L := by omega
      have H1 : Hid (One w x C N wr) := hO
      clear hO
      obtain ⟨T, hT⟩ : ∃ T, IntKind.i64.wrap (16 * x.kernel) = T := ⟨_, rfl⟩
      obtain ⟨o, er, hA, hR⟩ := owners x T (by rw [← hT, IntKind.wrap_i64]; unfold I64; omega)
      have HA : Hid (∀ (w : World) (N : Nat), x.In w N → N ≤ w.heap.size → Calls Try.prog 14 #[x.v, .int .i64 T] w fun r w' => r = .returned (.tuple #[o.v, .int .i64 er]) ∧ Keeps (fun _ => False) w w') := hA
      have HR : Hid (∀ (w : World) (N : Nat), x.In w N → N ≤ w.heap.size → Calls Try.prog 15 #[x.v, .int .i64 T] w fun r w' => r = .returned (.tuple #[o.v, .int .i64 er]) ∧ Keeps (fun _ => False) w w') := hR
      clear hA hR
      go_wp2_with fail
      refine (HA.out wr N H1.out.cin H1.out.nn).mono ?_
      rintro r w2 ⟨rfl, hK⟩
      have H2 : Hid (One w x C N w2) := H1.out.kept hK
      clear hK q0 q1 q2 q3 q4 q5 q6
      obtain ⟨W3, hW3⟩ : ∃ W3, W3 = w2.alloc (.cells #[.int .i64 o.kind, .int .i64 o.idx, .int .i64 o.port] 40) := ⟨_, rfl⟩
      obtain ⟨M, hM⟩ : ∃ M, M = w2.heap.size := ⟨_, rfl⟩
      have H3 : Hid (One w x C N W3 ∧ Blk W3 M o.vs 40) := by rw [hW3, hM]; exact ⟨H2.out.kept ((Keeps.refl _ _).alloc _), Blk.new _ _ _⟩
      go_upto_region 10 with fail
      rw [← hW3, ← hM]
      clear hW3 hM H2
      obtain ⟨q0, q1, q2, q3, q4, q5, q6⟩ := H3.out.1.cells
      go_wp2_with fail
      refine (HR.out W3 N H3.out.1.cin H3.out.1.nn).mono ?_
      rintro r w4 ⟨rfl, hK⟩
      have H4 : Hid (One w x C N w4 ∧ Blk w4 M o.vs 40) := ⟨H3.out.1.kept hK, H3.out.2.kept hK fun h => h⟩
      clear hK q0 q1 q2 q3 q4 q5 q6 H3
      obtain ⟨W5, hW5⟩ : ∃ W5, W5 = w4.alloc (.cells #[.int .i64 o.kind, .int .i64 o.idx, .int .i64 o.port] 40) := ⟨_, rfl⟩
      obtain ⟨Q, hQ⟩ : ∃ Q, Q = w4.heap.size := ⟨_, rfl⟩
      have H5 : Hid (One w x C N W5 ∧ Blk W5 M o.vs 40 ∧ Blk W5 Q o.vs 40) := by rw [hW5, hQ]; exact ⟨H4.out.1.kept ((Keeps.refl _ _).alloc _), H4.out.2.kept ((Keeps.refl (fun _ => False) _).alloc _) fun h => h, Blk.new _ _ _⟩
      go_upto_region 11 with fail
      rw [← hW5, ← hQ]
      clear hW5 hQ H4
      have f0 := H5.out.2.1.cell (i := 0) rfl
      have f1 := H5.out.2.1.cell (i := 1) rfl
      have f2 := H5.out.2.1.cell (i := 2) rfl
      have z0 := H5.out.2.2.cell (i := 0) rfl
      have z1 := H5.out.2.2.cell (i := 1) rfl
      have z2 := H5.out.2.2.cell (i := 2) rfl
      have HZ : Hid (One w x C N W5) := H5.out.1
      clear hT
      go_wp2
      go_ret
      exact ⟨rfl, HZ.out.keeps⟩
end Go.Proofs.Ythaoopaafdgioaa
