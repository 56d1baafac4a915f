import Derived.Test.YtnkfdmlpjgmckaaGp
namespace Go.Proofs.Ytnkfdmlpjgmckaa
open Go.RowKit
set_option linter.unusedVariables false
set_option linter.unusedSimpArgs false
set_option maxRecDepth 6000

theorem step_append_run {P : Program} {w : World} {ops : Array Oper} {o : Oper} {a : Act} {K : Act → World → Prop} {Q : Exit → Act → World → Prop} {E : Prop} (hgd : o.guard = none) (s x : Operand) (t k : TypeId)
    (ho : o.op = .call { callee := .builtin .append, args := #[s, x], argTypes := #[t, k] }) (vs vx v' : Value) (w' : World) (hs : a.eval s = vs) (hx : a.eval x = vx)
    (hr : ∀ ty, (Builtin.append_ #[t, k] ty #[vs, vx]).run P w = .ok v' w') (h : K (a.put o.dst v') w') : if Region.wanted o (yielded ops a.tmps) = true then Oper.wp P o a w K Q else E := by
  have hw : Region.wanted o (yielded ops a.tmps) = true := by simp [Region.wanted, hgd]
  rw [if_pos hw]
  unfold Oper.wp execOp
  simp only [ho, resolve, invoke, builtin, Sem.run_bind, Sem.run_pure, Result.andThen_ok, List.map_toArray, List.map_cons, List.map_nil, hs, hx, hr]
  exact h

/-- What Spans tells. -/
def SsP (w : World) (x : Cfg) (p : Int) (e : Ending) (w' : World) : Prop := Keeps (fun _ => False) w w' ∧
  ((¬ (0 ≤ p ∧ p < x.ps.length) ∧ e = .returned (.tuple #[.slice none 0 0, .int .i64 142])) ∨ ((0 ≤ p ∧ p < x.ps.length) ∧
    ((allMay x.cs = false ∧ e = .returned (.tuple #[.slice none 0 0, .int .i64 1])) ∨ (allMay x.cs = true ∧ ∃ u, e = .returned (.tuple #[u, .int .i64 0]) ∧ Row eSpn w' w.heap.size u (pickAll p x.cs x.cs.length)))))

set_option maxHeartbeats 2000000 in
theorem rspans_any (x : Cfg) (p : Int) (w : World) (N : Nat) (hi : x.In w N) (hN : N ≤ w.heap.size) (ht : tot x.cs x.cs.length ≤ 2147483647) :
    Calls Try.prog 17 #[x.v, .int .i64 p] w (SsP w x p) := by
  obtain ⟨W, hW⟩ : ∃ W, W = x.laid w := ⟨_, rfl⟩
  have hsz : w.heap.size + 1 ≤ W.heap.size := by rw [hW]; simp [Cfg.laid]
  obtain ⟨C, hC⟩ : ∃ C, C = w.heap.size := ⟨_, rfl⟩
  have HO : Hid (One w x C N W ∧ tot x.cs x.cs.length ≤ 2147483647 ∧ C = w.heap.size ∧ C + 1 ≤ W.heap.size) := by refine ⟨?_, ht, hC, by rw [hC]; exact hsz⟩; rw [hW, hC]; exact One.mk' hi hN
  have hcc : (x.cs.length : Int) ≤ x.cc ∧ (x.cc : Int) ≤ 9223372036854775807 := by have := hi.clen; unfold maxLen at this; omega
  clear hi hN ht hsz
  unfold Cfg.laid at hW
  go_enter Try.func17, Try.ntmps17
  go_wp2_with fail
  rw [← hW, ← hC]
  clear hW hC
  refine (rpartition_any x p W).mono ?_
  rintro e w1 ⟨rfl, hK⟩
  have HO1 : Hid (One w x C N w1 ∧ C + 1 ≤ w1.heap.size) := ⟨HO.out.1.kept hK, Nat.le_trans HO.out.2.2.2 hK.size⟩
  clear hK
  by_cases hp : 0 ≤ p ∧ p < x.ps.length
  · rw [part_true hp]
    obtain ⟨c0, c1, c2, c3, c4, c5, c6⟩ := HO1.out.1.cells
    have HP : Hid (0 ≤ p ∧ p < x.ps.length) := hp
    clear hp
    go_wp2_with fail
    refine (rall_any x w1 N HO1.out.1.cin HO1.out.1.nn).mono ?_
    rintro e w2 ⟨rfl, hK⟩
    have HO2 : Hid (One w x C N w2 ∧ C + 1 ≤ w2.heap.size) := ⟨HO1.out.1.kept hK, Nat.le_trans HO1.out.2 hK.size⟩
    clear hK c0 c1 c2 c3 c4 c5 c6
    obtain ⟨b, hb⟩ : ∃ b, allMay x.cs = b := ⟨_, rfl⟩
    rw [hb]
    have HB : Hid (allMay x.cs = b) := hb
    clear hb
    cases b with
    | false =>
      go_wp2
      go_ret2
      exact ⟨HO2.out.1.keeps, .inr ⟨HP.out, .inl ⟨HB.out, rfl⟩⟩⟩
    | true =>
      go_wp2
      go_loopw [6, 7] (fun u i wr => ∃ j : Nat, j ≤ x.cs.length ∧ i = .int .i64 j ∧ Row eSpn wr (C + 1) u (pickAll p x.cs j) ∧ One w x C N wr ∧ C + 1 ≤ wr.heap.size) (fun _ i _ => x.cs.length - (intOf i).toNat)
      case atStart => exact ⟨0, by omega, rfl, Row.nil _ _, HO2.out.1, HO2.out.2⟩
      case round =>
        obtain ⟨k, hk, rfl, hRow, hO, hlo⟩ := hrel
        clear HO2 HO1
        by_cases hlt : k < x.cs.length
        · obtain ⟨X, hX⟩ : ∃ X, x.cs[k]? = some X := ⟨_, List.getElem?_eq_getElem hlt⟩
          have hlt' : (k : Int) < x.cs.length := by omega
          have c4 := hO.cells.2.2.2.2.1
          obtain ⟨wz, hwz⟩ : ∃ wz, wz = wr := ⟨_, rfl⟩
          subst hwz
          have hm : may X.ws = true := by have h := HB.out; unfold allMay at h; rw [List.all_eq_true] at h; exact h X (List.mem_of_getElem? hX)
          obtain ⟨XL, hXL⟩ : ∃ XL, X.ws.length = XL := ⟨_, rfl⟩
          have HK : Hid (One w x C N wz ∧ x.cs[k]? = some X ∧ may X.ws = true ∧ X.ws.length = XL ∧ Row eSpn wz (C + 1) u6 (pickAll p x.cs k) ∧ C + 1 ≤ wz.heap.size) := ⟨hO, hX, hm, hXL, hRow, hlo⟩
          have hl16 : XL ≤ 16 := by have := (may_iff.1 hm).2.1; omega
          clear hO hX hm hXL hRow hlo
          go_wp2
          clear c4
          go_loopw [6, 8] (fun u i wr => ∃ j : Nat, j ≤ XL ∧ i = .int .i64 j ∧ Row eSpn wr (C + 1) u (pickAll p x.cs k ++ pick p k X.ws j) ∧ One w x C N wr ∧ C + 1 ≤ wr.heap.size) (fun _ i _ => XL - (intOf i).toNat)
          case atStart => exact ⟨0, by omega, rfl, by simpa [pick] using HK.out.2.2.2.2.1, HK.out.1, HK.out.2.2.2.2.2⟩
          case round =>
            obtain ⟨j, hj, rfl, hRow, hO, hlo⟩ := hrel
            have c4 := hO.cells.2.2.2.2.1
            obtain ⟨g, o, ha, hc⟩ := hO.cin.core HK.out.2.1
            have hXi := hO.cin.cin X (List.mem_of_getElem? HK.out.2.1)
            have hxc : (X.ws.length : Int) ≤ X.c ∧ (X.c : Int) ≤ 9223372036854775807 := by have := hXi.len; unfold maxLen at this; omega
            have hv : Core.v X = .slice X.a XL X.c := by unfold Core.v; rw [HK.out.2.2.2.1]
            rw [hv] at hc
            rw [HK.out.2.2.2.1] at hxc
            rw [ha] at c4
            have HO3 : Hid (One w x C N wr ∧ Row eSpn wr (C + 1) u6 (pickAll p x.cs k ++ pick p k X.ws j) ∧ C + 1 ≤ wr.heap.size) := ⟨hO, hRow, hlo⟩
            clear hO hRow hlo
            by_cases hlj : j < XL
            · obtain ⟨y, hy⟩ : ∃ y, X.ws[j]? = some y := ⟨_, List.getElem?_eq_getElem (by have := HK.out.2.2.2.1; omega)⟩
              obtain ⟨g3, o3, ha3, hg3⟩ := hXi.seg.at hy
              have y0 := hg3 0 _ rfl
              rw [Nat.add_zero] at y0
              have HY : Hid (X.ws[j]? = some y) := hy
              have hlj' : (j : Int) < XL := by omega
              clear hy hg3 hXi
              by_cases hp : y.p = p
              · have hp' : (y.p == p) = true := by simp [hp]
                obtain ⟨B, hB⟩ : ∃ B, beg X.ws j = B := ⟨_, rfl⟩
                obtain ⟨B', hB'⟩ : ∃ B, beg X.ws (j + 1) = B := ⟨_, rfl⟩
                have HBB : Hid (beg X.ws j = B ∧ beg X.ws (j + 1) = B') := ⟨hB, hB'⟩
                have HC1 : Hid (∀ w', Keeps (fun _ => False) wr w' → Calls Try.prog 34 #[.slice X.a XL X.c, .int .i64 j] w' fun e w'' => e = .returned (.int .i64 B) ∧ Keeps (fun _ => False) w' w'' ∧ w''.heap.size = w'.heap.size) := by
                  intro w' hK
                  have hXi := (HO3.out.1.kept hK).cin.cin X (List.mem_of_getElem? HK.out.2.1)
                  have h := rbegin_any X.a X.c X.ws j (by have := HK.out.2.2.2.1; omega) w' hXi.seg hXi.len HK.out.2.2.1
                  rw [HK.out.2.2.2.1, hB] at h
                  exact h
                have HC2 : Hid (∀ w', Keeps (fun _ => False) wr w' → Calls Try.prog 34 #[.slice X.a XL X.c, .int .i64 ((j + 1 : Nat) : Int)] w' fun e w'' => e = .returned (.int .i64 B') ∧ Keeps (fun _ => False) w' w'' ∧ w''.heap.size = w'.heap.size) := by
                  intro w' hK
                  have hXi := (HO3.out.1.kept hK).cin.cin X (List.mem_of_getElem? HK.out.2.1)
                  have h := rbegin_any X.a X.c X.ws (j + 1) (by have := HK.out.2.2.2.1; omega) w' hXi.seg hXi.len HK.out.2.2.1
                  rw [HK.out.2.2.2.1, hB'] at h
                  exact h
                have HSS : Hid (∀ w', Keeps (fun _ => False) wr w' → w'.cell? ⟨C, 4, none⟩ = some (.slice (some ⟨g, o, none⟩) x.cs.length x.cc) ∧ w'.cell? ⟨g, o + k, none⟩ = some (.slice X.a XL X.c)) := by
                  intro w' hK
                  have h1 := HO3.out.1.kept hK
                  have h4 := h1.cells.2.2.2.2.1
                  rw [ha] at h4
                  obtain ⟨g', o', ha', hc'⟩ := h1.cin.core HK.out.2.1
                  rw [ha] at ha'
                  cases ha'
                  rw [hv] at hc'
                  exact ⟨h4, hc'⟩
                have hq : IntKind.i64.wrap ((j : Int) + 1) = ((j + 1 : Nat) : Int) := by rw [IntKind.wrap_i64]; omega
                clear hB hB'
                have hv' : Hid (Core.v X = .slice X.a XL X.c) := hv
                go_upto_region 13 with fail
                have hS0 := HSS.out wr.drew ((Keeps.refl _ _).drew)
                clear y0 c4 hc ha3
                refine wp_region_held_drew (S := (fun w' => w'.cell? ⟨C, 4, none⟩ = some (.slice (some ⟨g, o, none⟩) x.cs.length x.cc) ∧ w'.cell? ⟨g, o + k, none⟩ = some (.slice X.a XL X.c))) Try.mixed hS0 (fun hHeld => ?_)
                simp only [List.size_toArray, List.length_cons, List.length_nil, Nat.reduceAdd, Array.replicate_succ, Array.replicate_zero, List.push_toArray, List.append_toArray, List.nil_append, List.cons_append]
                refine wpAnyH_take (i := 0) (oi := { dst := some 44, op := Op.move (Operand.tmp 6), type := 44, pos := "ref.go:114", after := #[], guard := none }) (v := u6) rfl (by kernel_rfl) (by kernel_rfl) (by kernel_rfl) (fun _ _ _ h => h) (Or.inl ⟨by kernel_rfl, by (intro w hSw; (try dsimp only at hSw); go_simp)⟩) hHeld ?_
                simp only [Act.put, List.setIfInBounds_toArray, List.set_cons_zero, List.set_cons_succ]
                refine wpAnyH_take (i := 1) (oi := { dst := some 45, op := Op.move (Operand.tmp 7), type := 3, pos := "ref.go:114", after := #[], guard := none }) (v := .int .i64 k) rfl (by kernel_rfl) (by kernel_rfl) (by kernel_rfl) (fun _ _ _ h => h) (Or.inl ⟨by kernel_rfl, by (intro w hSw; (try dsimp only at hSw); go_simp)⟩) hHeld ?_
                simp only [Act.put, List.setIfInBounds_toArray, List.set_cons_zero, List.set_cons_succ]
                refine wpAnyH_take (i := 2) (oi := { dst := some 46, op := Op.move (Operand.tmp 8), type := 3, pos := "ref.go:114", after := #[], guard := none }) (v := .int .i64 j) rfl (by kernel_rfl) (by kernel_rfl) (by kernel_rfl) (fun _ _ _ h => h) (Or.inl ⟨by kernel_rfl, by (intro w hSw; (try dsimp only at hSw); go_simp)⟩) hHeld ?_
                simp only [Act.put, List.setIfInBounds_toArray, List.set_cons_zero, List.set_cons_succ]
                refine wpAnyH_take (i := 3) (oi := { dst := some 47, op := Op.fieldAddr 27 (Operand.tmp 2) 4, type := 0, pos := "ref.go:114", after := #[], guard := none }) (v := .pointer (some ⟨C, 4, none⟩)) rfl (by kernel_rfl) (by kernel_rfl) (by kernel_rfl) (fun _ _ _ h => h) (Or.inl ⟨by kernel_rfl, by (intro w hSw; (try dsimp only at hSw); go_simp)⟩) hHeld ?_
                simp only [Act.put, List.setIfInBounds_toArray, List.set_cons_zero, List.set_cons_succ]
                refine wpAnyH_take (i := 4) (oi := { dst := some 48, op := Op.load 23 (Operand.tmp 47), type := 23, pos := "ref.go:114", after := #[{ on := 3, ground := Ground.data }], guard := none }) (v := .slice (some ⟨g, o, none⟩) x.cs.length x.cc) rfl (by kernel_rfl) (by kernel_rfl) (by kernel_rfl) (fun _ _ _ h => h) (Or.inl ⟨by kernel_rfl, by (intro w hSw; (try dsimp only at hSw); go_simp)⟩) hHeld ?_
                simp only [Act.put, List.setIfInBounds_toArray, List.set_cons_zero, List.set_cons_succ]
                refine wpAnyH_take (i := 5) (oi := { dst := some 49, op := Op.move (Operand.tmp 7), type := 3, pos := "ref.go:114", after := #[], guard := none }) (v := .int .i64 k) rfl (by kernel_rfl) (by kernel_rfl) (by kernel_rfl) (fun _ _ _ h => h) (Or.inl ⟨by kernel_rfl, by (intro w hSw; (try dsimp only at hSw); go_simp)⟩) hHeld ?_
                simp only [Act.put, List.setIfInBounds_toArray, List.set_cons_zero, List.set_cons_succ]
                refine wpAnyH_take (i := 6) (oi := { dst := some 50, op := Op.indexAddr 23 (Operand.tmp 48) (Operand.tmp 49), type := 0, pos := "ref.go:114", after := #[{ on := 4, ground := Ground.data }, { on := 5, ground := Ground.data }], guard := none }) (v := .pointer (some ⟨g, o + k, none⟩)) rfl (by kernel_rfl) (by kernel_rfl) (by kernel_rfl) (fun _ _ _ h => h) (Or.inl ⟨by kernel_rfl, by (intro w hSw; (try dsimp only at hSw); go_simp)⟩) hHeld ?_
                simp only [Act.put, List.setIfInBounds_toArray, List.set_cons_zero, List.set_cons_succ]
                refine wpAnyH_take (i := 7) (oi := { dst := some 51, op := Op.load 38 (Operand.tmp 50), type := 38, pos := "ref.go:114", after := #[{ on := 6, ground := Ground.data }], guard := none }) (v := .slice X.a XL X.c) rfl (by kernel_rfl) (by kernel_rfl) (by kernel_rfl) (fun _ _ _ h => h) (Or.inl ⟨by kernel_rfl, by (intro w hSw; (try dsimp only at hSw); go_simp)⟩) hHeld ?_
                simp only [Act.put, List.setIfInBounds_toArray, List.set_cons_zero, List.set_cons_succ]
                refine wpAnyH_take (i := 8) (oi := { dst := some 52, op := Op.move (Operand.tmp 8), type := 3, pos := "ref.go:114", after := #[], guard := none }) (v := .int .i64 j) rfl (by kernel_rfl) (by kernel_rfl) (by kernel_rfl) (fun _ _ _ h => h) (Or.inl ⟨by kernel_rfl, by (intro w hSw; (try dsimp only at hSw); go_simp)⟩) hHeld ?_
                simp only [Act.put, List.setIfInBounds_toArray, List.set_cons_zero, List.set_cons_succ]
                refine wpAnyH_take (i := 10) (oi := { dst := some 54, op := Op.fieldAddr 27 (Operand.tmp 2) 4, type := 0, pos := "ref.go:114", after := #[], guard := none }) (v := .pointer (some ⟨C, 4, none⟩)) rfl (by kernel_rfl) (by kernel_rfl) (by kernel_rfl) (fun _ _ _ h => h) (Or.inl ⟨by kernel_rfl, by (intro w hSw; (try dsimp only at hSw); go_simp)⟩) hHeld ?_
                simp only [Act.put, List.setIfInBounds_toArray, List.set_cons_zero, List.set_cons_succ]
                refine wpAnyH_take (i := 11) (oi := { dst := some 55, op := Op.load 23 (Operand.tmp 54), type := 23, pos := "ref.go:114", after := #[{ on := 10, ground := Ground.data }], guard := none }) (v := .slice (some ⟨g, o, none⟩) x.cs.length x.cc) rfl (by kernel_rfl) (by kernel_rfl) (by kernel_rfl) (fun _ _ _ h => h) (Or.inl ⟨by kernel_rfl, by (intro w hSw; (try dsimp only at hSw); go_simp)⟩) hHeld ?_
                simp only [Act.put, List.setIfInBounds_toArray, List.set_cons_zero, List.set_cons_succ]
                refine wpAnyH_take (i := 12) (oi := { dst := some 56, op := Op.move (Operand.tmp 7), type := 3, pos := "ref.go:114", after := #[], guard := none }) (v := .int .i64 k) rfl (by kernel_rfl) (by kernel_rfl) (by kernel_rfl) (fun _ _ _ h => h) (Or.inl ⟨by kernel_rfl, by (intro w hSw; (try dsimp only at hSw); go_simp)⟩) hHeld ?_
                simp only [Act.put, List.setIfInBounds_toArray, List.set_cons_zero, List.set_cons_succ]
                refine wpAnyH_take (i := 13) (oi := { dst := some 57, op := Op.indexAddr 23 (Operand.tmp 55) (Operand.tmp 56), type := 0, pos := "ref.go:114", after := #[{ on := 11, ground := Ground.data }, { on := 12, ground := Ground.data }], guard := none }) (v := .pointer (some ⟨g, o + k, none⟩)) rfl (by kernel_rfl) (by kernel_rfl) (by kernel_rfl) (fun _ _ _ h => h) (Or.inl ⟨by kernel_rfl, by (intro w hSw; (try dsimp only at hSw); go_simp)⟩) hHeld ?_
                simp only [Act.put, List.setIfInBounds_toArray, List.set_cons_zero, List.set_cons_succ]
                refine wpAnyH_take (i := 14) (oi := { dst := some 58, op := Op.load 38 (Operand.tmp 57), type := 38, pos := "ref.go:114", after := #[{ on := 13, ground := Ground.data }], guard := none }) (v := .slice X.a XL X.c) rfl (by kernel_rfl) (by kernel_rfl) (by kernel_rfl) (fun _ _ _ h => h) (Or.inl ⟨by kernel_rfl, by (intro w hSw; (try dsimp only at hSw); go_simp)⟩) hHeld ?_
                simp only [Act.put, List.setIfInBounds_toArray, List.set_cons_zero, List.set_cons_succ]
                refine wpAnyH_take (i := 15) (oi := { dst := some 59, op := Op.move (Operand.tmp 8), type := 3, pos := "ref.go:114", after := #[], guard := none }) (v := .int .i64 j) rfl (by kernel_rfl) (by kernel_rfl) (by kernel_rfl) (fun _ _ _ h => h) (Or.inl ⟨by kernel_rfl, by (intro w hSw; (try dsimp only at hSw); go_simp)⟩) hHeld ?_
                simp only [Act.put, List.setIfInBounds_toArray, List.set_cons_zero, List.set_cons_succ]
                refine wpAnyH_take (i := 16) (oi := { dst := some 60, op := Op.binOp BinOp.add 3 (Operand.tmp 59) (Operand.const (Value.int IntKind.i64 1)) 3, type := 3, pos := "ref.go:114", after := #[{ on := 15, ground := Ground.data }], guard := none }) (v := .int .i64 ((j + 1 : Nat) : Int)) rfl (by kernel_rfl) (by kernel_rfl) (by kernel_rfl) (fun _ _ _ h => h) (Or.inl ⟨by kernel_rfl, by (intro w hSw; (try dsimp only at hSw); go_simp)⟩) hHeld ?_
                simp only [Act.put, List.setIfInBounds_toArray, List.set_cons_zero, List.set_cons_succ]
                refine wpAnyH_ready (rs := [9]) (by kernel_rfl) (by simp) ?_
                refine AllReadyH.cons (o := { dst := some 53, op := Op.call { callee := Callee.value (Operand.func 34), args := #[Operand.tmp 51, Operand.tmp 52], argTypes := #[38, 3] }, type := 3, pos := "ref.go:114", after := #[{ on := 7, ground := Ground.data }, { on := 8, ground := Ground.data }], guard := none }) rfl (fun K hK => ?_) AllReadyH.nil
                go_simp
                refine (HC1.out _ ((Keeps.refl _ _).drew)).mono ?_
                rintro r w5 ⟨rfl, hK5, hz5⟩
                clear hz5
                have hK5' : Keeps (fun _ => False) wr w5 := ((Keeps.refl _ _).drew).trans hK5 (fun _ _ h => h)
                have hS1 := HSS.out w5 hK5'
                refine hK.out _ _ hS1 (fun hHeld => ?_)
                simp only [Act.put, List.setIfInBounds_toArray, List.set_cons_zero, List.set_cons_succ]
                refine wpAnyH_ready (rs := [17]) (by kernel_rfl) (by simp) ?_
                refine AllReadyH.cons (o := { dst := some 61, op := Op.call { callee := Callee.value (Operand.func 34), args := #[Operand.tmp 58, Operand.tmp 60], argTypes := #[38, 3] }, type := 3, pos := "ref.go:114", after := #[{ on := 14, ground := Ground.data }, { on := 16, ground := Ground.data }, { on := 9, ground := Ground.chain }], guard := none }) rfl (fun K hK => ?_) AllReadyH.nil
                go_simp
                refine (HC2.out _ hK5').mono ?_
                rintro r w6 ⟨rfl, hK6, hz6⟩
                clear hz6
                have hK6' : Keeps (fun _ => False) wr w6 := hK5'.trans hK6 (fun _ _ h => h)
                have hS2 := HSS.out w6 hK6'
                refine hK.out _ _ hS2 (fun hHeld => ?_)
                simp only [Act.put, List.setIfInBounds_toArray, List.set_cons_zero, List.set_cons_succ]
                refine wpAnyH_take (i := 18) (oi := { dst := some 62, op := Op.build 69 #[(0, Operand.tmp 45), (1, Operand.tmp 46), (2, Operand.tmp 53), (3, Operand.tmp 61)], type := 69, pos := "ref.go:114", after := #[{ on := 1, ground := Ground.data }, { on := 2, ground := Ground.data }, { on := 9, ground := Ground.data }, { on := 17, ground := Ground.data }], guard := none }) (v := .agg #[.int .i64 k, .int .i64 j, .int .i64 B, .int .i64 B']) rfl (by kernel_rfl) (by kernel_rfl) (by kernel_rfl) (fun _ _ _ h => h) (Or.inl ⟨by kernel_rfl, by (intro w hSw; (try dsimp only at hSw); go_simp)⟩) hHeld ?_
                simp only [Act.put, List.setIfInBounds_toArray, List.set_cons_zero, List.set_cons_succ]
                have hRow6 := HO3.out.2.1.kept hK6' fun _ e => e.elim
                have hlo6 := Nat.le_trans HO3.out.2.2 hK6'.size
                have hO6 := HO3.out.1.kept hK6'
                have hlen : (pickAll p x.cs k ++ pick p k X.ws j).length + 1 ≤ 2147483647 := by
                  have h1 := pickAll_len p x.cs k
                  have h2 := pick_len p k X.ws j
                  have h3 := tot_succ HK.out.2.1
                  have h4 := tot_le (cs := x.cs) (i := k + 1) (j := x.cs.length) (by omega)
                  have h5 := HO.out.2.1
                  have h6 := HK.out.2.2.2.1
                  rw [List.length_append]
                  omega
                obtain ⟨i0, hi, hz0, hz1, hz2⟩ := info_parts Try.info69
                have hvs : ∀ v ∈ Spn.vs ⟨k, j, B, B'⟩, v.oneCell' = true := by
                  intro v hv
                  simp only [Spn.vs, List.mem_cons, List.not_mem_nil, or_false] at hv
                  rcases hv with rfl | rfl | rfl | rfl <;> rfl
                obtain ⟨v', W', happ, hown', hfr', hKa⟩ := append_new 44 69 i0 (.agg #[.int .i64 0, .int .i64 0, .int .i64 0, .int .i64 0]) 4 32 Try.underlying44 hi hz0 hz1 hz2 rfl (by omega) u6 (pickAll p x.cs k ++ pick p k X.ws j).length ((pickAll p x.cs k ++ pick p k X.ws j).flatMap Spn.vs) hRow6.own (Spn.vs ⟨k, j, B, B'⟩).toArray rfl (by simpa using hvs) (by unfold maxLen; omega) (by omega)
                have HN : Hid (Row eSpn W' (C + 1) v' (pickAll p x.cs k ++ pick p k X.ws (j + 1)) ∧ One w x C N W' ∧ C + 1 ≤ W'.heap.size) := by
                  rw [pick_in HY.out hp, HBB.out.1, HBB.out.2, ← List.append_assoc]
                  refine ⟨hRow6.push (x := ⟨k, j, B, B'⟩) trivial (fun k hk => by cases hk) hlo6 hown' hfr' hKa, hO6.up hKa fun b e => ?_, Nat.le_trans hlo6 hKa.size⟩
                  have := hRow6.low b e.symm
                  have := HO.out.2.2.1
                  omega
                have HAP : Hid (∀ ty, (Builtin.append_ #[44, 44] ty #[u6, .slice (some ⟨w6.heap.size, 0, none⟩) 1 1]).run Try.prog (w6.alloc (.cells (Spn.vs ⟨k, j, B, B'⟩).toArray 69)) = .ok v' W') := happ
                have hS3 : w6.heap.size = w6.heap.size := rfl
                have hS4 := HSS.out (w6.alloc (.cells (Spn.vs ⟨k, j, B, B'⟩).toArray 69)) (hK6'.alloc _)
                have hS5 : W'.cell? ⟨C, 4, none⟩ = some (.slice (some ⟨g, o, none⟩) x.cs.length x.cc) ∧ W'.cell? ⟨g, o + k, none⟩ = some (.slice X.a XL X.c) := by
                  have h4 := HN.out.2.1.cells.2.2.2.2.1
                  rw [ha] at h4
                  obtain ⟨g', o', ha', hc'⟩ := HN.out.2.1.cin.core HK.out.2.1
                  rw [ha] at ha'
                  cases ha'
                  rw [hv'.out] at hc'
                  exact ⟨h4, hc'⟩
                clear hi hz0 hz1 hz2 hvs happ hown' hfr' hKa hlen hRow6 hlo6 hO6 hS3
                refine wpAnyH_ready (rs := [19]) (by kernel_rfl) (by simp) ?_
                refine AllReadyH.cons (o := { dst := some 63, op := Op.buildSlice 44 1 #[(0, Operand.tmp 62)], type := 44, pos := "ref.go:114", after := #[{ on := 18, ground := Ground.data }], guard := none }) rfl (fun K hK => ?_) AllReadyH.nil
                go_simp
                refine hK.out _ _ hS4 (fun hHeld => ?_)
                simp only [Act.put, List.setIfInBounds_toArray, List.set_cons_zero, List.set_cons_succ]
                refine wpAnyH_ready (rs := [20]) (by kernel_rfl) (by simp) ?_
                refine AllReadyH.cons (o := { dst := some 64, op := Op.call { callee := Callee.builtin Builtin.append, args := #[Operand.tmp 44, Operand.tmp 63], argTypes := #[44, 44] }, type := 44, pos := "ref.go:114", after := #[{ on := 0, ground := Ground.data }, { on := 19, ground := Ground.data }, { on := 17, ground := Ground.chain }], guard := none }) rfl (fun K hK => ?_) AllReadyH.nil
                refine step_append_run rfl (.tmp 44) (.tmp 63) 44 44 rfl u6 (.slice (some ⟨w6.heap.size, 0, none⟩) 1 1) v' W' rfl rfl HAP.out ?_
                refine hK.out _ _ hS5 (fun hHeld => ?_)
                simp only [Act.put, List.setIfInBounds_toArray, List.set_cons_zero, List.set_cons_succ]
                refine wpAnyH_take (i := 21) (oi := { dst := some 6, op := Op.assign (Operand.tmp 64), type := 44, pos := "ref.go:114", after := #[{ on := 20, ground := Ground.data }, { on := 20, ground := Ground.chain }, { on := 0, ground := Ground.phase }, { on := 1, ground := Ground.phase }, { on := 2, ground := Ground.phase }, { on := 3, ground := Ground.phase }, { on := 4, ground := Ground.phase }, { on := 5, ground := Ground.phase }, { on := 6, ground := Ground.phase }, { on := 7, ground := Ground.phase }, { on := 8, ground := Ground.phase }, { on := 9, ground := Ground.phase }, { on := 10, ground := Ground.phase }, { on := 11, ground := Ground.phase }, { on := 12, ground := Ground.phase }, { on := 13, ground := Ground.phase }, { on := 14, ground := Ground.phase }, { on := 15, ground := Ground.phase }, { on := 16, ground := Ground.phase }, { on := 17, ground := Ground.phase }, { on := 18, ground := Ground.phase }, { on := 19, ground := Ground.phase }, { on := 20, ground := Ground.phase }], guard := none }) (v := v') rfl (by kernel_rfl) (by kernel_rfl) (by kernel_rfl) (fun _ _ _ h => h) (Or.inl ⟨by kernel_rfl, by (intro w hSw; (try dsimp only at hSw); go_simp)⟩) hHeld ?_
                simp only [Act.put, List.setIfInBounds_toArray, List.set_cons_zero, List.set_cons_succ]
                refine wpAnyH_done (by kernel_rfl) ?_ _
                clear hS0 hS1 hS2 hS4 hS5 hHeld hK HAP hK5 hK5' hK6 hK6'
                go_wp2
                go_roundw
                case rel => exact ⟨j + 1, by omega, by go_num, HN.out.1, HN.out.2.1, HN.out.2.2⟩
                case measure => simp [intOf]; omega
              · have hp' : (y.p == p) = false := by simp [hp]
                go_wp2
                go_roundw
                case rel => exact ⟨j + 1, by omega, by go_num, by rw [pick_out HY.out hp]; exact HO3.out.2.1, HO3.out.1, HO3.out.2.2⟩
                case measure => simp [intOf]; omega
            · obtain rfl : j = XL := by omega
              have HE : Hid (Row eSpn wr (C + 1) u6 (pickAll p x.cs (k + 1))) := by
                unfold Hid
                rw [pickAll_succ HK.out.2.1, HK.out.2.2.2.1]
                exact HO3.out.2.1
              clear hXi
              go_wp2
              go_roundw
              case rel => exact ⟨k + 1, by omega, by go_num, HE.out, HO3.out.1, HO3.out.2.2⟩
              case measure => simp [intOf]; omega
        · obtain hjl : k = x.cs.length := by omega
          have hlt' : ¬ (k : Int) < x.cs.length := by omega
          have c4 := hO.cells.2.2.2.2.1
          have HK : Hid (One w x C N wr ∧ k = x.cs.length ∧ Row eSpn wr (C + 1) u6 (pickAll p x.cs k)) := ⟨hO, hjl, hRow⟩
          clear hO hjl hRow hlo
          go_wp2
          go_ret2
          refine ⟨HK.out.1.keeps, .inr ⟨HP.out, .inr ⟨HB.out, _, rfl, ?_⟩⟩⟩
          rw [← HK.out.2.1]
          refine ⟨HK.out.2.2.own, fun b hb => ?_, HK.out.2.2.ok, fun x hx b hb => by cases hb⟩
          have := HK.out.2.2.low b hb
          have := HO.out.2.2.1
          omega
  · rw [part_false hp]
    have HP : Hid (¬ (0 ≤ p ∧ p < x.ps.length)) := hp
    clear hp
    go_wp2
    go_ret2
    exact ⟨HO1.out.1.keeps, .inl ⟨HP.out, rfl⟩⟩
end Go.Proofs.Ytnkfdmlpjgmckaa
