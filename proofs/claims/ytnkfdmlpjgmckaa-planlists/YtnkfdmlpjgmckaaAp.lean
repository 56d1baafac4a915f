import Derived.Test.YtnkfdmlpjgmckaaAn
namespace Go.Proofs.Ytnkfdmlpjgmckaa
open Go.RowKit
set_option linter.unusedVariables false
set_option maxRecDepth 6000

theorem mks_all (i n m : Nat) : mks i n 0 ++ List.replicate m (Value.int .i64 (mrk i - 1)) = mks i n m := by simp [mks]
theorem mks_succ (i n m : Nat) : mks i n m ++ [Value.int .i64 (mrk i - 1)] = mks i n (m + 1) := by
  unfold mks
  rw [List.replicate_succ', List.append_assoc]
set_option maxHeartbeats 4000000 in
theorem apartInts_any (a0 a1 : Option Addr) (c0 c1 L Q : Nat) (hL : L ≤ 16) (x0 x1 : List Value) (h0 : x0.length = L) (h1 : x1.length = L) (hf0 : Fl a0 L c0) (hf1 : Fl a1 L c1) (w : World)
    (h : Objs w [(Value.slice a0 L c0, 3, x0), (Value.slice a1 L c1, 3, x1), (Value.slice (some ⟨Q, 0, none⟩) 2 2, 35, [Value.slice a0 L c0, Value.slice a1 L c1])]) :
    Calls Try.prog 16 #[Value.slice (some ⟨Q, 0, none⟩) 2 2] w fun e w' => e = .returned (.bool true) ∧ Keeps (fun k => some k = (Value.slice a0 L c0).ownBlock ∨ some k = (Value.slice a1 L c1).ownBlock) w w' := by
  have HX : Hid (x0.length = L ∧ x1.length = L) := ⟨h0, h1⟩
  have HF : Hid (Fl a0 L c0 ∧ Fl a1 L c1) := ⟨hf0, hf1⟩
  have HO : Hid (Ob3 w (fun k => some k = (Value.slice a0 L c0).ownBlock ∨ some k = (Value.slice a1 L c1).ownBlock) w [(Value.slice a0 L c0, 3, x0), (Value.slice a1 L c1, 3, x1), (Value.slice (some ⟨Q, 0, none⟩) 2 2, 35, [Value.slice a0 L c0, Value.slice a1 L c1])]) := ⟨h, fun i o k hi ho => by
    have := (List.getElem?_eq_some_iff.1 ho).1
    simp at this
    omega, Keeps.refl _ _⟩
  have hc0 : (L : Int) ≤ c0 ∧ (L : Int) ≤ c1 := by unfold Fl at hf0 hf1; constructor <;> (rcases hf0 with ⟨_, _, _⟩ | ⟨_, _, _⟩ <;> rcases hf1 with ⟨_, _, _⟩ | ⟨_, _, _⟩ <;> omega)
  clear h h0 h1 hf0 hf1
  go_enter Try.func16, Try.ntmps16
  go_wp2
  go_loopw [3] (fun i wr => (i = .int .i64 0 ∧ Ob3 w (fun k => some k = (Value.slice a0 L c0).ownBlock ∨ some k = (Value.slice a1 L c1).ownBlock) wr [(Value.slice a0 L c0, 3, x0), (Value.slice a1 L c1, 3, x1), (Value.slice (some ⟨Q, 0, none⟩) 2 2, 35, [Value.slice a0 L c0, Value.slice a1 L c1])]) ∨ (i = .int .i64 1 ∧ Ob3 w (fun k => some k = (Value.slice a0 L c0).ownBlock ∨ some k = (Value.slice a1 L c1).ownBlock) wr [(Value.slice a0 L c0, 3, mks 0 L 0), (Value.slice a1 L c1, 3, x1), (Value.slice (some ⟨Q, 0, none⟩) 2 2, 35, [Value.slice a0 L c0, Value.slice a1 L c1])]) ∨ (i = .int .i64 2 ∧ Ob3 w (fun k => some k = (Value.slice a0 L c0).ownBlock ∨ some k = (Value.slice a1 L c1).ownBlock) wr [(Value.slice a0 L c0, 3, mks 0 L 0), (Value.slice a1 L c1, 3, mks 1 L 0), (Value.slice (some ⟨Q, 0, none⟩) 2 2, 35, [Value.slice a0 L c0, Value.slice a1 L c1])])) (fun i _ => 2 - (intOf i).toNat)
  case atStart => exact .inl ⟨rfl, HO.out⟩
  case round =>
    rcases hrel with ⟨rfl, hO⟩ | ⟨rfl, hO⟩ | ⟨rfl, hO⟩
    · clear HO
      obtain ⟨wz, hwz⟩ : ∃ wz, wz = wr := ⟨_, rfl⟩
      subst hwz
      have HI : Hid (Ob3 w (fun k => some k = (Value.slice a0 L c0).ownBlock ∨ some k = (Value.slice a1 L c1).ownBlock) wz [(Value.slice a0 L c0, 3, x0), (Value.slice a1 L c1, 3, x1), (Value.slice (some ⟨Q, 0, none⟩) 2 2, 35, [Value.slice a0 L c0, Value.slice a1 L c1])]) := hO
      clear hO
      have hq2 : IntKind.i64.wrap (-7000000 - 2 * (0 : Int)) = mrk 0 := by decide
      go_wp2
      go_loopw [4] (fun k wr => ∃ j : Nat, j ≤ L ∧ k = .int .i64 j ∧ Ob3 w (fun k => some k = (Value.slice a0 L c0).ownBlock ∨ some k = (Value.slice a1 L c1).ownBlock) wr [(Value.slice a0 L c0, 3, mks 0 j 0 ++ x0.drop (j)), (Value.slice a1 L c1, 3, x1), (Value.slice (some ⟨Q, 0, none⟩) 2 2, 35, [Value.slice a0 L c0, Value.slice a1 L c1])]) (fun k _ => L - (intOf k).toNat)
      case atStart => exact ⟨0, by omega, rfl, by simpa [mks] using HI.out⟩
      case round =>
        obtain ⟨j, hj, rfl, hO⟩ := hrel
        clear HI
        have HI : Hid (Ob3 w (fun k => some k = (Value.slice a0 L c0).ownBlock ∨ some k = (Value.slice a1 L c1).ownBlock) wr [(Value.slice a0 L c0, 3, mks 0 j 0 ++ x0.drop (j)), (Value.slice a1 L c1, 3, x1), (Value.slice (some ⟨Q, 0, none⟩) 2 2, 35, [Value.slice a0 L c0, Value.slice a1 L c1])]) := hO
        clear hO
        have lq := (HI.out.objs.own 2 _ rfl).cells (g := Q) rfl 0 _ rfl
        rw [addr_add, Nat.zero_add] at lq
        by_cases hlt : j < L
        · rcases HF.out.1 with ⟨h0, _⟩ | ⟨g, rfl, rfl⟩
          · omega
          have ho := HI.out.objs.own 0 _ rfl
          have hxl : (mks 0 j 0 ++ x0.drop j).length = c0 := by rw [List.length_append, mks_len, List.length_drop]; have := HX.out.1; omega
          dsimp only at ho
          rw [hxl] at ho
          obtain ⟨l, hB, _, hln⟩ := owns_blk ho
          obtain ⟨vv, hvv⟩ : ∃ vv, l[j]? = some vv := ⟨_, List.getElem?_eq_getElem (by omega)⟩
          have cj := hB.cell hvv
          have fj := hB.frozen j
          have HN := HI.out.mark (i := 0) rfl hxl (by first | exact Or.inl rfl | exact Or.inr rfl) (by omega) j hlt (.int .i64 (mrk 0))
          rw [mark_step (HX.out.1) hlt] at HN
          have HN : Hid (Ob3 w (fun k => some k = (Value.slice (some ⟨g, 0, none⟩) c0 c0).ownBlock ∨ some k = (Value.slice a1 c0 c1).ownBlock) (wr.setCell ⟨g, j, none⟩ (.int .i64 (mrk 0))) [(Value.slice (some ⟨g, 0, none⟩) c0 c0, 3, mks 0 (j + 1) 0 ++ x0.drop (j + 1)), (Value.slice a1 c0 c1, 3, x1), (Value.slice (some ⟨Q, 0, none⟩) 2 2, 35, [Value.slice (some ⟨g, 0, none⟩) c0 c0, Value.slice a1 c0 c1])]) := HN
          clear ho hxl hB hln hvv
          go_wp2
          go_roundw
          case rel => exact ⟨j + 1, by omega, by go_num, HN.out⟩
          case measure => simp [intOf]; omega
        · obtain rfl : j = L := by omega
          have HE : Hid (Ob3 w (fun k => some k = (Value.slice a0 j c0).ownBlock ∨ some k = (Value.slice a1 j c1).ownBlock) wr [(Value.slice a0 j c0, 3, mks 0 j 0), (Value.slice a1 j c1, 3, x1), (Value.slice (some ⟨Q, 0, none⟩) 2 2, 35, [Value.slice a0 j c0, Value.slice a1 j c1])]) := by
            have h := HI.out
            rw [List.drop_of_length_le (by rw [HX.out.1]; exact Nat.le_refl _), List.append_nil] at h
            exact h
          go_wp2
          go_roundw
          case rel => exact .inr (.inl ⟨rfl, HE.out⟩)
          case measure => simp [intOf]
    · clear HO
      obtain ⟨wz, hwz⟩ : ∃ wz, wz = wr := ⟨_, rfl⟩
      subst hwz
      have HI : Hid (Ob3 w (fun k => some k = (Value.slice a0 L c0).ownBlock ∨ some k = (Value.slice a1 L c1).ownBlock) wz [(Value.slice a0 L c0, 3, mks 0 L 0), (Value.slice a1 L c1, 3, x1), (Value.slice (some ⟨Q, 0, none⟩) 2 2, 35, [Value.slice a0 L c0, Value.slice a1 L c1])]) := hO
      clear hO
      have hq2 : IntKind.i64.wrap (-7000000 - 2 * (1 : Int)) = mrk 1 := by decide
      go_wp2
      go_loopw [4] (fun k wr => ∃ j : Nat, j ≤ L ∧ k = .int .i64 j ∧ Ob3 w (fun k => some k = (Value.slice a0 L c0).ownBlock ∨ some k = (Value.slice a1 L c1).ownBlock) wr [(Value.slice a0 L c0, 3, mks 0 L 0), (Value.slice a1 L c1, 3, mks 1 j 0 ++ x1.drop (j)), (Value.slice (some ⟨Q, 0, none⟩) 2 2, 35, [Value.slice a0 L c0, Value.slice a1 L c1])]) (fun k _ => L - (intOf k).toNat)
      case atStart => exact ⟨0, by omega, rfl, by simpa [mks] using HI.out⟩
      case round =>
        obtain ⟨j, hj, rfl, hO⟩ := hrel
        clear HI
        have HI : Hid (Ob3 w (fun k => some k = (Value.slice a0 L c0).ownBlock ∨ some k = (Value.slice a1 L c1).ownBlock) wr [(Value.slice a0 L c0, 3, mks 0 L 0), (Value.slice a1 L c1, 3, mks 1 j 0 ++ x1.drop (j)), (Value.slice (some ⟨Q, 0, none⟩) 2 2, 35, [Value.slice a0 L c0, Value.slice a1 L c1])]) := hO
        clear hO
        have lq := (HI.out.objs.own 2 _ rfl).cells (g := Q) rfl 1 _ rfl
        rw [addr_add, Nat.zero_add] at lq
        by_cases hlt : j < L
        · rcases HF.out.2 with ⟨h0, _⟩ | ⟨g, rfl, rfl⟩
          · omega
          have ho := HI.out.objs.own 1 _ rfl
          have hxl : (mks 1 j 0 ++ x1.drop j).length = c1 := by rw [List.length_append, mks_len, List.length_drop]; have := HX.out.2; omega
          dsimp only at ho
          rw [hxl] at ho
          obtain ⟨l, hB, _, hln⟩ := owns_blk ho
          obtain ⟨vv, hvv⟩ : ∃ vv, l[j]? = some vv := ⟨_, List.getElem?_eq_getElem (by omega)⟩
          have cj := hB.cell hvv
          have fj := hB.frozen j
          have HN := HI.out.mark (i := 1) rfl hxl (by first | exact Or.inl rfl | exact Or.inr rfl) (by omega) j hlt (.int .i64 (mrk 1))
          rw [mark_step (HX.out.2) hlt] at HN
          have HN : Hid (Ob3 w (fun k => some k = (Value.slice a0 c1 c0).ownBlock ∨ some k = (Value.slice (some ⟨g, 0, none⟩) c1 c1).ownBlock) (wr.setCell ⟨g, j, none⟩ (.int .i64 (mrk 1))) [(Value.slice a0 c1 c0, 3, mks 0 c1 0), (Value.slice (some ⟨g, 0, none⟩) c1 c1, 3, mks 1 (j + 1) 0 ++ x1.drop (j + 1)), (Value.slice (some ⟨Q, 0, none⟩) 2 2, 35, [Value.slice a0 c1 c0, Value.slice (some ⟨g, 0, none⟩) c1 c1])]) := HN
          clear ho hxl hB hln hvv
          go_wp2
          go_roundw
          case rel => exact ⟨j + 1, by omega, by go_num, HN.out⟩
          case measure => simp [intOf]; omega
        · obtain rfl : j = L := by omega
          have HE : Hid (Ob3 w (fun k => some k = (Value.slice a0 j c0).ownBlock ∨ some k = (Value.slice a1 j c1).ownBlock) wr [(Value.slice a0 j c0, 3, mks 0 j 0), (Value.slice a1 j c1, 3, mks 1 j 0), (Value.slice (some ⟨Q, 0, none⟩) 2 2, 35, [Value.slice a0 j c0, Value.slice a1 j c1])]) := by
            have h := HI.out
            rw [List.drop_of_length_le (by rw [HX.out.2]; exact Nat.le_refl _), List.append_nil] at h
            exact h
          go_wp2
          go_roundw
          case rel => exact .inr (.inr ⟨rfl, HE.out⟩)
          case measure => simp [intOf]
    · have HO2 : Hid (Ob3 w (fun k => some k = (Value.slice a0 L c0).ownBlock ∨ some k = (Value.slice a1 L c1).ownBlock) wr [(Value.slice a0 L c0, 3, mks 0 L 0), (Value.slice a1 L c1, 3, mks 1 L 0), (Value.slice (some ⟨Q, 0, none⟩) 2 2, 35, [Value.slice a0 L c0, Value.slice a1 L c1])]) := hO
      clear hO HO
      obtain ⟨wy, hwy⟩ : ∃ wy, wy = wr := ⟨_, rfl⟩
      subst hwy
      go_wp2
      go_loopw [5, 6, 7] (fun one many i wr => (i = .int .i64 0 ∧ Ob3 w (fun k => some k = (Value.slice a0 L c0).ownBlock ∨ some k = (Value.slice a1 L c1).ownBlock) wr [(Value.slice a0 L c0, 3, mks 0 L 0), (Value.slice a1 L c1, 3, mks 1 L 0), (Value.slice (some ⟨Q, 0, none⟩) 2 2, 35, [Value.slice a0 L c0, Value.slice a1 L c1]), (one, 35, []), (many, 35, [])]) ∨ (i = .int .i64 1 ∧ ∃ g0 t0 mo0, Ob3 w (fun k => some k = (Value.slice a0 L c0).ownBlock ∨ some k = (Value.slice a1 L c1).ownBlock) wr [(Value.slice a0 L c0, 3, mks 0 L 0), (Value.slice a1 L c1, 3, mks 1 L 0), (Value.slice (some ⟨Q, 0, none⟩) 2 2, 35, [Value.slice a0 L c0, Value.slice a1 L c1]), (one, 35, [g0]), (many, 35, [t0]), (mo0, 3, List.replicate 72 (.int .i64 (-7000001))), (g0, 3, mks 0 L 17), (t0, 3, mks 0 L 72)]) ∨ (i = .int .i64 2 ∧ ∃ g0 t0 mo0 g1 t1 mo1, Ob3 w (fun k => some k = (Value.slice a0 L c0).ownBlock ∨ some k = (Value.slice a1 L c1).ownBlock) wr [(Value.slice a0 L c0, 3, mks 0 L 0), (Value.slice a1 L c1, 3, mks 1 L 0), (Value.slice (some ⟨Q, 0, none⟩) 2 2, 35, [Value.slice a0 L c0, Value.slice a1 L c1]), (one, 35, [g0, g1]), (many, 35, [t0, t1]), (mo0, 3, List.replicate 72 (.int .i64 (-7000001))), (g0, 3, mks 0 L 17), (t0, 3, mks 0 L 72), (mo1, 3, List.replicate 72 (.int .i64 (-7000003))), (g1, 3, mks 1 L 17), (t1, 3, mks 1 L 72)])) (fun _ _ i _ => 2 - (intOf i).toNat)
      case atStart =>
        have h1 := HO2.out.push (v := .slice none 0 0) (e := 35) (ys := []) (W := wy) ⟨rfl, .inl ⟨rfl, rfl⟩⟩ (fun k hk => by cases hk) (Keeps.refl _ _)
        have h2 := h1.push (v := .slice none 0 0) (e := 35) (ys := []) (W := wy) ⟨rfl, .inl ⟨rfl, rfl⟩⟩ (fun k hk => by cases hk) (Keeps.refl _ _)
        exact .inl ⟨rfl, h2⟩
      case round =>
        rcases hrel with ⟨rfl, hO⟩ | ⟨rfl, g0, t0, mo0, hO⟩ | ⟨rfl, g0, t0, mo0, g1, t1, mo1, hO⟩
        · clear HO2
          have HI : Hid (Ob3 w (fun k => some k = (Value.slice a0 L c0).ownBlock ∨ some k = (Value.slice a1 L c1).ownBlock) wr [(Value.slice a0 L c0, 3, mks 0 L 0), (Value.slice a1 L c1, 3, mks 1 L 0), (Value.slice (some ⟨Q, 0, none⟩) 2 2, 35, [Value.slice a0 L c0, Value.slice a1 L c1]), (u5, 35, []), (u6, 35, [])]) := hO
          clear hO
          obtain ⟨wz, hwz⟩ : ∃ wz, wz = wr := ⟨_, rfl⟩
          subst hwz
          have lq := (HI.out.objs.own 2 _ rfl).cells (g := Q) rfl 0 _ rfl
          rw [addr_add, Nat.zero_add] at lq
          go_wp2
          clear lq
          go_loopw [8, 9, 10] (fun g more k wr => (k = .int .i64 0 ∧ g = Value.slice a0 L c0 ∧ more = .slice none 0 0 ∧ Ob3 w (fun k => some k = (Value.slice a0 L c0).ownBlock ∨ some k = (Value.slice a1 L c1).ownBlock) wr [(Value.slice a0 L c0, 3, mks 0 L 0), (Value.slice a1 L c1, 3, mks 1 L 0), (Value.slice (some ⟨Q, 0, none⟩) 2 2, 35, [Value.slice a0 L c0, Value.slice a1 L c1]), (u5, 35, []), (u6, 35, [])]) ∨ ∃ j : Nat, 1 ≤ j ∧ j ≤ 72 ∧ k = .int .i64 j ∧ Ob3 w (fun k => some k = (Value.slice a0 L c0).ownBlock ∨ some k = (Value.slice a1 L c1).ownBlock) wr [(Value.slice a0 L c0, 3, mks 0 L 0), (Value.slice a1 L c1, 3, mks 1 L 0), (Value.slice (some ⟨Q, 0, none⟩) 2 2, 35, [Value.slice a0 L c0, Value.slice a1 L c1]), (u5, 35, []), (u6, 35, []), (more, 3, List.replicate j (.int .i64 (-7000001))), (g, 3, mks 0 L (min j 17))]) (fun _ _ k _ => 72 - (intOf k).toNat)
          case atStart => exact .inl ⟨rfl, rfl, rfl, HI.out⟩
          case round =>
            rcases hrel with ⟨rfl, rfl, rfl, hO⟩ | ⟨j, hj1, hj2, rfl, hO⟩
            · have hO2 := hO.push (v := .slice none 0 0) (e := 3) (ys := []) (W := wr) ⟨rfl, .inl ⟨rfl, rfl⟩⟩ (fun k hk => by cases hk) (Keeps.refl _ _)
              obtain ⟨g', W1, hap, hob⟩ := hO2.full1 (i := 0) rfl (HF.out.1.v (by rw [mks_len]; rfl)) (-7000001) (by rw [mks_len]; omega)
              have HAP : Hid (∀ ty, (Builtin.append_ #[35, 35] ty #[Value.slice a0 L c0, .slice (some ⟨wr.heap.size, 0, none⟩) 1 1]).run Try.prog (wr.alloc (.cells #[.int .i64 (-7000001)] 3)) = .ok g' W1) := hap
              obtain ⟨mo', W2, hap2, hob2⟩ := hob.app1 35 3 (.int .i64 0) 8 Try.underlying35 Try.info3 rfl (by omega) (i := 5) (by omega) rfl (.int .i64 (-7000001)) rfl (by simp)
              have HAP2 : Hid (∀ ty, (Builtin.append_ #[35, 35] ty #[Value.slice none 0 0, .slice (some ⟨W1.heap.size, 0, none⟩) 1 1]).run Try.prog (W1.alloc (.cells #[.int .i64 (-7000001)] 3)) = .ok mo' W2) := hap2
              have HN : Hid (Ob3 w (fun k => some k = (Value.slice a0 L c0).ownBlock ∨ some k = (Value.slice a1 L c1).ownBlock) W2 [(Value.slice a0 L c0, 3, mks 0 L 0), (Value.slice a1 L c1, 3, mks 1 L 0), (Value.slice (some ⟨Q, 0, none⟩) 2 2, 35, [Value.slice a0 L c0, Value.slice a1 L c1]), (u5, 35, []), (u6, 35, []), (mo', 3, List.replicate 1 (.int .i64 (-7000001))), (g', 3, mks 0 L (min 1 17))]) := by
                have h : Ob3 w (fun k => some k = (Value.slice a0 L c0).ownBlock ∨ some k = (Value.slice a1 L c1).ownBlock) W2 [(Value.slice a0 L c0, 3, mks 0 L 0), (Value.slice a1 L c1, 3, mks 1 L 0), (Value.slice (some ⟨Q, 0, none⟩) 2 2, 35, [Value.slice a0 L c0, Value.slice a1 L c1]), (u5, 35, []), (u6, 35, []), (mo', 3, [.int .i64 (-7000001)]), (g', 3, mks 0 L 0 ++ [.int .i64 (-7000001)])] := hob2
                rw [show mks 0 L 0 ++ [Value.int .i64 (-7000001)] = mks 0 L 1 from mks_succ 0 L 0] at h
                exact h
              clear hO hO2 hap hob hap2 hob2
              go_wp2_with (at_builtin; go_must (refine wpList_append_run rfl (.tmp 53) (.tmp 57) 35 35 rfl (Value.slice a0 L c0) (.slice (some ⟨wr.heap.size, 0, none⟩) 1 1) g' W1 rfl rfl HAP.out ?_; refine Hid.out ?_))
              unfold Hid
              clear HAP
              go_wp2_with (at_builtin; go_must (refine wpList_append_run rfl (.tmp 59) (.tmp 63) 35 35 rfl (Value.slice none 0 0) (.slice (some ⟨W1.heap.size, 0, none⟩) 1 1) mo' W2 rfl rfl HAP2.out ?_; refine Hid.out ?_))
              unfold Hid
              clear HAP2
              go_wp2
              go_roundw
              case rel => exact .inr ⟨1, by omega, by omega, by go_num, HN.out⟩
              case measure => simp [intOf]
            · by_cases hlt : j < 72
              · have hlt' : (j : Int) < 72 := by omega
                by_cases h17 : j < 17
                · have h17' : (j : Int) < 17 := by omega
                  obtain ⟨g', W1, hap, hob⟩ := hO.app1 35 3 (.int .i64 0) 8 Try.underlying35 Try.info3 rfl (by omega) (i := 6) (by omega) rfl (.int .i64 (-7000001)) rfl (by rw [mks_len]; omega)
                  have HAP : Hid (∀ ty, (Builtin.append_ #[35, 35] ty #[u8, .slice (some ⟨wr.heap.size, 0, none⟩) 1 1]).run Try.prog (wr.alloc (.cells #[.int .i64 (-7000001)] 3)) = .ok g' W1) := hap
                  obtain ⟨mo', W2, hap2, hob2⟩ := hob.app1 35 3 (.int .i64 0) 8 Try.underlying35 Try.info3 rfl (by omega) (i := 5) (by omega) rfl (.int .i64 (-7000001)) rfl (by rw [List.length_replicate]; omega)
                  have HAP2 : Hid (∀ ty, (Builtin.append_ #[35, 35] ty #[u9, .slice (some ⟨W1.heap.size, 0, none⟩) 1 1]).run Try.prog (W1.alloc (.cells #[.int .i64 (-7000001)] 3)) = .ok mo' W2) := hap2
                  have HN : Hid (Ob3 w (fun k => some k = (Value.slice a0 L c0).ownBlock ∨ some k = (Value.slice a1 L c1).ownBlock) W2 [(Value.slice a0 L c0, 3, mks 0 L 0), (Value.slice a1 L c1, 3, mks 1 L 0), (Value.slice (some ⟨Q, 0, none⟩) 2 2, 35, [Value.slice a0 L c0, Value.slice a1 L c1]), (u5, 35, []), (u6, 35, []), (mo', 3, List.replicate (j + 1) (.int .i64 (-7000001))), (g', 3, mks 0 L (min (j + 1) 17))]) := by
                    have h : Ob3 w (fun k => some k = (Value.slice a0 L c0).ownBlock ∨ some k = (Value.slice a1 L c1).ownBlock) W2 [(Value.slice a0 L c0, 3, mks 0 L 0), (Value.slice a1 L c1, 3, mks 1 L 0), (Value.slice (some ⟨Q, 0, none⟩) 2 2, 35, [Value.slice a0 L c0, Value.slice a1 L c1]), (u5, 35, []), (u6, 35, []), (mo', 3, List.replicate j (.int .i64 (-7000001)) ++ [.int .i64 (-7000001)]), (g', 3, mks 0 L (min j 17) ++ [.int .i64 (-7000001)])] := hob2
                    rw [show mks 0 L (min j 17) ++ [Value.int .i64 (-7000001)] = mks 0 L (min j 17 + 1) from mks_succ 0 L _, show min j 17 + 1 = min (j + 1) 17 from by omega, ← List.replicate_succ'] at h
                    exact h
                  clear hO hap hob hap2 hob2
                  go_wp2_with (at_builtin; go_must (refine wpList_append_run rfl (.tmp 53) (.tmp 57) 35 35 rfl u8 (.slice (some ⟨wr.heap.size, 0, none⟩) 1 1) g' W1 rfl rfl HAP.out ?_; refine Hid.out ?_))
                  unfold Hid
                  clear HAP
                  go_wp2_with (at_builtin; go_must (refine wpList_append_run rfl (.tmp 59) (.tmp 63) 35 35 rfl u9 (.slice (some ⟨W1.heap.size, 0, none⟩) 1 1) mo' W2 rfl rfl HAP2.out ?_; refine Hid.out ?_))
                  unfold Hid
                  clear HAP2
                  go_wp2
                  go_roundw
                  case rel => exact .inr ⟨j + 1, by omega, by omega, by go_num, HN.out⟩
                  case measure => simp [intOf]; omega
                · have h17' : ¬ (j : Int) < 17 := by omega
                  obtain ⟨mo', W2, hap2, hob2⟩ := hO.app1 35 3 (.int .i64 0) 8 Try.underlying35 Try.info3 rfl (by omega) (i := 5) (by omega) rfl (.int .i64 (-7000001)) rfl (by rw [List.length_replicate]; omega)
                  have HAP2 : Hid (∀ ty, (Builtin.append_ #[35, 35] ty #[u9, .slice (some ⟨wr.heap.size, 0, none⟩) 1 1]).run Try.prog (wr.alloc (.cells #[.int .i64 (-7000001)] 3)) = .ok mo' W2) := hap2
                  have HN : Hid (Ob3 w (fun k => some k = (Value.slice a0 L c0).ownBlock ∨ some k = (Value.slice a1 L c1).ownBlock) W2 [(Value.slice a0 L c0, 3, mks 0 L 0), (Value.slice a1 L c1, 3, mks 1 L 0), (Value.slice (some ⟨Q, 0, none⟩) 2 2, 35, [Value.slice a0 L c0, Value.slice a1 L c1]), (u5, 35, []), (u6, 35, []), (mo', 3, List.replicate (j + 1) (.int .i64 (-7000001))), (u8, 3, mks 0 L (min (j + 1) 17))]) := by
                    have h : Ob3 w (fun k => some k = (Value.slice a0 L c0).ownBlock ∨ some k = (Value.slice a1 L c1).ownBlock) W2 [(Value.slice a0 L c0, 3, mks 0 L 0), (Value.slice a1 L c1, 3, mks 1 L 0), (Value.slice (some ⟨Q, 0, none⟩) 2 2, 35, [Value.slice a0 L c0, Value.slice a1 L c1]), (u5, 35, []), (u6, 35, []), (mo', 3, List.replicate j (.int .i64 (-7000001)) ++ [.int .i64 (-7000001)]), (u8, 3, mks 0 L (min j 17))] := hob2
                    rw [show min j 17 = min (j + 1) 17 from by omega, ← List.replicate_succ'] at h
                    exact h
                  clear hO hap2 hob2
                  go_wp2_with (at_builtin; go_must (refine wpList_append_run rfl (.tmp 59) (.tmp 63) 35 35 rfl u9 (.slice (some ⟨wr.heap.size, 0, none⟩) 1 1) mo' W2 rfl rfl HAP2.out ?_; refine Hid.out ?_))
                  unfold Hid
                  clear HAP2
                  go_wp2
                  go_roundw
                  case rel => exact .inr ⟨j + 1, by omega, by omega, by go_num, HN.out⟩
                  case measure => simp [intOf]; omega
              · obtain rfl : j = 72 := by omega
                obtain ⟨am, cm, hmo, _, hmc⟩ := owns_cell (hO.objs.own 5 _ rfl)
                obtain ⟨ag, cg, hg8, _, _⟩ := owns_cell (hO.objs.own 6 _ rfl)
                dsimp only at hmo hg8 hmc
                rw [List.length_replicate] at hmo hmc
                rw [mks_len] at hg8
                rcases hmc with h0 | ⟨gm, rfl, _⟩
                · cases h0
                subst hmo hg8
                obtain ⟨one', W1, hap, hob⟩ := hO.app1 43 35 (.slice none 0 0) 24 Try.underlying43 Try.info35 rfl (by omega) (i := 3) (by omega) rfl (.slice ag (L + min 72 17) cg) rfl (by simp)
                have HAP : Hid (∀ ty, (Builtin.append_ #[43, 43] ty #[u5, .slice (some ⟨wr.heap.size, 0, none⟩) 1 1]).run Try.prog (wr.alloc (.cells #[.slice ag (L + min 72 17) cg] 35)) = .ok one' W1) := hap
                have lq := (hob.objs.own 2 _ rfl).cells (g := Q) rfl 0 _ rfl
                rw [addr_add, Nat.zero_add] at lq
                obtain ⟨t', W2, hap2, hob2⟩ := hob.fullMany (i := 0) (j := 5) (g := gm) (c := cm) (ys := List.replicate 72 (.int .i64 (-7000001))) rfl (HF.out.1.v (by rw [mks_len]; rfl)) rfl (by intro u hu; obtain rfl := List.eq_of_mem_replicate hu; rfl) (by rw [mks_len]; omega) (by rw [List.length_replicate]; omega) (by rw [List.length_replicate]; omega)
                obtain ⟨at', ct', ht', _, _⟩ := owns_cell (hob2.objs.own 7 _ rfl)
                dsimp only at ht'
                subst ht'
                have HAP2 : Hid (∀ ty, (Builtin.append_ #[35, 35] ty #[Value.slice a0 L c0, .slice (some ⟨gm, 0, none⟩) 72 cm]).run Try.prog W1 = .ok _ W2) := hap2
                obtain ⟨tl, htl⟩ : ∃ tl, (mks 0 L 0 ++ List.replicate 72 (Value.int .i64 (-7000001))).length = tl := ⟨_, rfl⟩
                obtain ⟨many', W3, hap3, hob3⟩ := hob2.app1 43 35 (.slice none 0 0) 24 Try.underlying43 Try.info35 rfl (by omega) (i := 4) (by omega) rfl (.slice at' tl ct') rfl (by simp)
                have HAP3 : Hid (∀ ty, (Builtin.append_ #[43, 43] ty #[u6, .slice (some ⟨W2.heap.size, 0, none⟩) 1 1]).run Try.prog (W2.alloc (.cells #[.slice at' tl ct'] 35)) = .ok many' W3) := hap3
                have HN : Hid (Ob3 w (fun k => some k = (Value.slice a0 L c0).ownBlock ∨ some k = (Value.slice a1 L c1).ownBlock) W3 [(Value.slice a0 L c0, 3, mks 0 L 0), (Value.slice a1 L c1, 3, mks 1 L 0), (Value.slice (some ⟨Q, 0, none⟩) 2 2, 35, [Value.slice a0 L c0, Value.slice a1 L c1]), (one', 35, [Value.slice ag (L + min 72 17) cg]), (many', 35, [Value.slice at' (mks 0 L 0 ++ List.replicate 72 (Value.int .i64 (-7000001))).length ct']), (Value.slice (some ⟨gm, 0, none⟩) 72 cm, 3, List.replicate 72 (.int .i64 (-7000001))), (Value.slice ag (L + min 72 17) cg, 3, mks 0 L 17), (Value.slice at' (mks 0 L 0 ++ List.replicate 72 (Value.int .i64 (-7000001))).length ct', 3, mks 0 L 72)]) := by
                  have h : Ob3 w (fun k => some k = (Value.slice a0 L c0).ownBlock ∨ some k = (Value.slice a1 L c1).ownBlock) W3 [(Value.slice a0 L c0, 3, mks 0 L 0), (Value.slice a1 L c1, 3, mks 1 L 0), (Value.slice (some ⟨Q, 0, none⟩) 2 2, 35, [Value.slice a0 L c0, Value.slice a1 L c1]), (one', 35, [Value.slice ag (L + min 72 17) cg]), (many', 35, [Value.slice at' (mks 0 L 0 ++ List.replicate 72 (Value.int .i64 (-7000001))).length ct']), (Value.slice (some ⟨gm, 0, none⟩) 72 cm, 3, List.replicate 72 (.int .i64 (-7000001))), (Value.slice ag (L + min 72 17) cg, 3, mks 0 L 17), (Value.slice at' (mks 0 L 0 ++ List.replicate 72 (Value.int .i64 (-7000001))).length ct', 3, mks 0 L 0 ++ List.replicate 72 (.int .i64 (-7000001)))] := by rw [← htl] at hob3; exact hob3
                  have e : mks 0 L 0 ++ List.replicate 72 (Value.int .i64 (-7000001)) = mks 0 L 72 := mks_all 0 L 72
                  rw [e] at h ⊢
                  exact h
                rw [htl] at HN HAP2
                clear hO hap hob hap2 hob2 hap3 hob3 htl
                go_wp2_with (at_builtin; go_must (refine wpList_append_run rfl (.tmp 65) (.tmp 67) 43 43 rfl u5 (.slice (some ⟨wr.heap.size, 0, none⟩) 1 1) one' W1 rfl rfl HAP.out ?_; refine Hid.out ?_))
                unfold Hid
                clear HAP
                go_wp2_with (at_builtin; go_must (refine wpList_append_run rfl (.tmp 73) (.tmp 74) 35 35 rfl (Value.slice a0 L c0) (.slice (some ⟨gm, 0, none⟩) 72 cm) (.slice at' tl ct') W2 rfl rfl HAP2.out ?_; refine Hid.out ?_))
                unfold Hid
                clear HAP2 lq
                go_wp2_with (at_builtin; go_must (refine wpList_append_run rfl (.tmp 69) (.tmp 76) 43 43 rfl u6 (.slice (some ⟨W2.heap.size, 0, none⟩) 1 1) many' W3 rfl rfl HAP3.out ?_; refine Hid.out ?_))
                unfold Hid
                clear HAP3
                go_wp2
                go_roundw
                case rel => exact .inr (.inl ⟨by go_num, _, _, _, HN.out⟩)
                case measure => simp [intOf]
        · clear HO2
          have HI : Hid (Ob3 w (fun k => some k = (Value.slice a0 L c0).ownBlock ∨ some k = (Value.slice a1 L c1).ownBlock) wr [(Value.slice a0 L c0, 3, mks 0 L 0), (Value.slice a1 L c1, 3, mks 1 L 0), (Value.slice (some ⟨Q, 0, none⟩) 2 2, 35, [Value.slice a0 L c0, Value.slice a1 L c1]), (u5, 35, [g0]), (u6, 35, [t0]), (mo0, 3, List.replicate 72 (.int .i64 (-7000001))), (g0, 3, mks 0 L 17), (t0, 3, mks 0 L 72)]) := hO
          clear hO
          obtain ⟨wz, hwz⟩ : ∃ wz, wz = wr := ⟨_, rfl⟩
          subst hwz
          have lq := (HI.out.objs.own 2 _ rfl).cells (g := Q) rfl 1 _ rfl
          rw [addr_add, Nat.zero_add] at lq
          go_wp2
          clear lq
          go_loopw [8, 9, 10] (fun g more k wr => (k = .int .i64 0 ∧ g = Value.slice a1 L c1 ∧ more = .slice none 0 0 ∧ Ob3 w (fun k => some k = (Value.slice a0 L c0).ownBlock ∨ some k = (Value.slice a1 L c1).ownBlock) wr [(Value.slice a0 L c0, 3, mks 0 L 0), (Value.slice a1 L c1, 3, mks 1 L 0), (Value.slice (some ⟨Q, 0, none⟩) 2 2, 35, [Value.slice a0 L c0, Value.slice a1 L c1]), (u5, 35, [g0]), (u6, 35, [t0]), (mo0, 3, List.replicate 72 (.int .i64 (-7000001))), (g0, 3, mks 0 L 17), (t0, 3, mks 0 L 72)]) ∨ ∃ j : Nat, 1 ≤ j ∧ j ≤ 72 ∧ k = .int .i64 j ∧ Ob3 w (fun k => some k = (Value.slice a0 L c0).ownBlock ∨ some k = (Value.slice a1 L c1).ownBlock) wr [(Value.slice a0 L c0, 3, mks 0 L 0), (Value.slice a1 L c1, 3, mks 1 L 0), (Value.slice (some ⟨Q, 0, none⟩) 2 2, 35, [Value.slice a0 L c0, Value.slice a1 L c1]), (u5, 35, [g0]), (u6, 35, [t0]), (mo0, 3, List.replicate 72 (.int .i64 (-7000001))), (g0, 3, mks 0 L 17), (t0, 3, mks 0 L 72), (more, 3, List.replicate j (.int .i64 (-7000003))), (g, 3, mks 1 L (min j 17))]) (fun _ _ k _ => 72 - (intOf k).toNat)
          case atStart => exact .inl ⟨rfl, rfl, rfl, HI.out⟩
          case round =>
            rcases hrel with ⟨rfl, rfl, rfl, hO⟩ | ⟨j, hj1, hj2, rfl, hO⟩
            · have hO2 := hO.push (v := .slice none 0 0) (e := 3) (ys := []) (W := wr) ⟨rfl, .inl ⟨rfl, rfl⟩⟩ (fun k hk => by cases hk) (Keeps.refl _ _)
              obtain ⟨g', W1, hap, hob⟩ := hO2.full1 (i := 1) rfl (HF.out.2.v (by rw [mks_len]; rfl)) (-7000003) (by rw [mks_len]; omega)
              have HAP : Hid (∀ ty, (Builtin.append_ #[35, 35] ty #[Value.slice a1 L c1, .slice (some ⟨wr.heap.size, 0, none⟩) 1 1]).run Try.prog (wr.alloc (.cells #[.int .i64 (-7000003)] 3)) = .ok g' W1) := hap
              obtain ⟨mo', W2, hap2, hob2⟩ := hob.app1 35 3 (.int .i64 0) 8 Try.underlying35 Try.info3 rfl (by omega) (i := 8) (by omega) rfl (.int .i64 (-7000003)) rfl (by simp)
              have HAP2 : Hid (∀ ty, (Builtin.append_ #[35, 35] ty #[Value.slice none 0 0, .slice (some ⟨W1.heap.size, 0, none⟩) 1 1]).run Try.prog (W1.alloc (.cells #[.int .i64 (-7000003)] 3)) = .ok mo' W2) := hap2
              have HN : Hid (Ob3 w (fun k => some k = (Value.slice a0 L c0).ownBlock ∨ some k = (Value.slice a1 L c1).ownBlock) W2 [(Value.slice a0 L c0, 3, mks 0 L 0), (Value.slice a1 L c1, 3, mks 1 L 0), (Value.slice (some ⟨Q, 0, none⟩) 2 2, 35, [Value.slice a0 L c0, Value.slice a1 L c1]), (u5, 35, [g0]), (u6, 35, [t0]), (mo0, 3, List.replicate 72 (.int .i64 (-7000001))), (g0, 3, mks 0 L 17), (t0, 3, mks 0 L 72), (mo', 3, List.replicate 1 (.int .i64 (-7000003))), (g', 3, mks 1 L (min 1 17))]) := by
                have h : Ob3 w (fun k => some k = (Value.slice a0 L c0).ownBlock ∨ some k = (Value.slice a1 L c1).ownBlock) W2 [(Value.slice a0 L c0, 3, mks 0 L 0), (Value.slice a1 L c1, 3, mks 1 L 0), (Value.slice (some ⟨Q, 0, none⟩) 2 2, 35, [Value.slice a0 L c0, Value.slice a1 L c1]), (u5, 35, [g0]), (u6, 35, [t0]), (mo0, 3, List.replicate 72 (.int .i64 (-7000001))), (g0, 3, mks 0 L 17), (t0, 3, mks 0 L 72), (mo', 3, [.int .i64 (-7000003)]), (g', 3, mks 1 L 0 ++ [.int .i64 (-7000003)])] := hob2
                rw [show mks 1 L 0 ++ [Value.int .i64 (-7000003)] = mks 1 L 1 from mks_succ 1 L 0] at h
                exact h
              clear hO hO2 hap hob hap2 hob2
              go_wp2_with (at_builtin; go_must (refine wpList_append_run rfl (.tmp 53) (.tmp 57) 35 35 rfl (Value.slice a1 L c1) (.slice (some ⟨wr.heap.size, 0, none⟩) 1 1) g' W1 rfl rfl HAP.out ?_; refine Hid.out ?_))
              unfold Hid
              clear HAP
              go_wp2_with (at_builtin; go_must (refine wpList_append_run rfl (.tmp 59) (.tmp 63) 35 35 rfl (Value.slice none 0 0) (.slice (some ⟨W1.heap.size, 0, none⟩) 1 1) mo' W2 rfl rfl HAP2.out ?_; refine Hid.out ?_))
              unfold Hid
              clear HAP2
              go_wp2
              go_roundw
              case rel => exact .inr ⟨1, by omega, by omega, by go_num, HN.out⟩
              case measure => simp [intOf]
            · by_cases hlt : j < 72
              · have hlt' : (j : Int) < 72 := by omega
                by_cases h17 : j < 17
                · have h17' : (j : Int) < 17 := by omega
                  obtain ⟨g', W1, hap, hob⟩ := hO.app1 35 3 (.int .i64 0) 8 Try.underlying35 Try.info3 rfl (by omega) (i := 9) (by omega) rfl (.int .i64 (-7000003)) rfl (by rw [mks_len]; omega)
                  have HAP : Hid (∀ ty, (Builtin.append_ #[35, 35] ty #[u8, .slice (some ⟨wr.heap.size, 0, none⟩) 1 1]).run Try.prog (wr.alloc (.cells #[.int .i64 (-7000003)] 3)) = .ok g' W1) := hap
                  obtain ⟨mo', W2, hap2, hob2⟩ := hob.app1 35 3 (.int .i64 0) 8 Try.underlying35 Try.info3 rfl (by omega) (i := 8) (by omega) rfl (.int .i64 (-7000003)) rfl (by rw [List.length_replicate]; omega)
                  have HAP2 : Hid (∀ ty, (Builtin.append_ #[35, 35] ty #[u9, .slice (some ⟨W1.heap.size, 0, none⟩) 1 1]).run Try.prog (W1.alloc (.cells #[.int .i64 (-7000003)] 3)) = .ok mo' W2) := hap2
                  have HN : Hid (Ob3 w (fun k => some k = (Value.slice a0 L c0).ownBlock ∨ some k = (Value.slice a1 L c1).ownBlock) W2 [(Value.slice a0 L c0, 3, mks 0 L 0), (Value.slice a1 L c1, 3, mks 1 L 0), (Value.slice (some ⟨Q, 0, none⟩) 2 2, 35, [Value.slice a0 L c0, Value.slice a1 L c1]), (u5, 35, [g0]), (u6, 35, [t0]), (mo0, 3, List.replicate 72 (.int .i64 (-7000001))), (g0, 3, mks 0 L 17), (t0, 3, mks 0 L 72), (mo', 3, List.replicate (j + 1) (.int .i64 (-7000003))), (g', 3, mks 1 L (min (j + 1) 17))]) := by
                    have h : Ob3 w (fun k => some k = (Value.slice a0 L c0).ownBlock ∨ some k = (Value.slice a1 L c1).ownBlock) W2 [(Value.slice a0 L c0, 3, mks 0 L 0), (Value.slice a1 L c1, 3, mks 1 L 0), (Value.slice (some ⟨Q, 0, none⟩) 2 2, 35, [Value.slice a0 L c0, Value.slice a1 L c1]), (u5, 35, [g0]), (u6, 35, [t0]), (mo0, 3, List.replicate 72 (.int .i64 (-7000001))), (g0, 3, mks 0 L 17), (t0, 3, mks 0 L 72), (mo', 3, List.replicate j (.int .i64 (-7000003)) ++ [.int .i64 (-7000003)]), (g', 3, mks 1 L (min j 17) ++ [.int .i64 (-7000003)])] := hob2
                    rw [show mks 1 L (min j 17) ++ [Value.int .i64 (-7000003)] = mks 1 L (min j 17 + 1) from mks_succ 1 L _, show min j 17 + 1 = min (j + 1) 17 from by omega, ← List.replicate_succ'] at h
                    exact h
                  clear hO hap hob hap2 hob2
                  go_wp2_with (at_builtin; go_must (refine wpList_append_run rfl (.tmp 53) (.tmp 57) 35 35 rfl u8 (.slice (some ⟨wr.heap.size, 0, none⟩) 1 1) g' W1 rfl rfl HAP.out ?_; refine Hid.out ?_))
                  unfold Hid
                  clear HAP
                  go_wp2_with (at_builtin; go_must (refine wpList_append_run rfl (.tmp 59) (.tmp 63) 35 35 rfl u9 (.slice (some ⟨W1.heap.size, 0, none⟩) 1 1) mo' W2 rfl rfl HAP2.out ?_; refine Hid.out ?_))
                  unfold Hid
                  clear HAP2
                  go_wp2
                  go_roundw
                  case rel => exact .inr ⟨j + 1, by omega, by omega, by go_num, HN.out⟩
                  case measure => simp [intOf]; omega
                · have h17' : ¬ (j : Int) < 17 := by omega
                  obtain ⟨mo', W2, hap2, hob2⟩ := hO.app1 35 3 (.int .i64 0) 8 Try.underlying35 Try.info3 rfl (by omega) (i := 8) (by omega) rfl (.int .i64 (-7000003)) rfl (by rw [List.length_replicate]; omega)
                  have HAP2 : Hid (∀ ty, (Builtin.append_ #[35, 35] ty #[u9, .slice (some ⟨wr.heap.size, 0, none⟩) 1 1]).run Try.prog (wr.alloc (.cells #[.int .i64 (-7000003)] 3)) = .ok mo' W2) := hap2
                  have HN : Hid (Ob3 w (fun k => some k = (Value.slice a0 L c0).ownBlock ∨ some k = (Value.slice a1 L c1).ownBlock) W2 [(Value.slice a0 L c0, 3, mks 0 L 0), (Value.slice a1 L c1, 3, mks 1 L 0), (Value.slice (some ⟨Q, 0, none⟩) 2 2, 35, [Value.slice a0 L c0, Value.slice a1 L c1]), (u5, 35, [g0]), (u6, 35, [t0]), (mo0, 3, List.replicate 72 (.int .i64 (-7000001))), (g0, 3, mks 0 L 17), (t0, 3, mks 0 L 72), (mo', 3, List.replicate (j + 1) (.int .i64 (-7000003))), (u8, 3, mks 1 L (min (j + 1) 17))]) := by
                    have h : Ob3 w (fun k => some k = (Value.slice a0 L c0).ownBlock ∨ some k = (Value.slice a1 L c1).ownBlock) W2 [(Value.slice a0 L c0, 3, mks 0 L 0), (Value.slice a1 L c1, 3, mks 1 L 0), (Value.slice (some ⟨Q, 0, none⟩) 2 2, 35, [Value.slice a0 L c0, Value.slice a1 L c1]), (u5, 35, [g0]), (u6, 35, [t0]), (mo0, 3, List.replicate 72 (.int .i64 (-7000001))), (g0, 3, mks 0 L 17), (t0, 3, mks 0 L 72), (mo', 3, List.replicate j (.int .i64 (-7000003)) ++ [.int .i64 (-7000003)]), (u8, 3, mks 1 L (min j 17))] := hob2
                    rw [show min j 17 = min (j + 1) 17 from by omega, ← List.replicate_succ'] at h
                    exact h
                  clear hO hap2 hob2
                  go_wp2_with (at_builtin; go_must (refine wpList_append_run rfl (.tmp 59) (.tmp 63) 35 35 rfl u9 (.slice (some ⟨wr.heap.size, 0, none⟩) 1 1) mo' W2 rfl rfl HAP2.out ?_; refine Hid.out ?_))
                  unfold Hid
                  clear HAP2
                  go_wp2
                  go_roundw
                  case rel => exact .inr ⟨j + 1, by omega, by omega, by go_num, HN.out⟩
                  case measure => simp [intOf]; omega
              · obtain rfl : j = 72 := by omega
                obtain ⟨am, cm, hmo, _, hmc⟩ := owns_cell (hO.objs.own 8 _ rfl)
                obtain ⟨ag, cg, hg8, _, _⟩ := owns_cell (hO.objs.own 9 _ rfl)
                dsimp only at hmo hg8 hmc
                rw [List.length_replicate] at hmo hmc
                rw [mks_len] at hg8
                rcases hmc with h0 | ⟨gm, rfl, _⟩
                · cases h0
                subst hmo hg8
                obtain ⟨one', W1, hap, hob⟩ := hO.app1 43 35 (.slice none 0 0) 24 Try.underlying43 Try.info35 rfl (by omega) (i := 3) (by omega) rfl (.slice ag (L + min 72 17) cg) rfl (by simp)
                have HAP : Hid (∀ ty, (Builtin.append_ #[43, 43] ty #[u5, .slice (some ⟨wr.heap.size, 0, none⟩) 1 1]).run Try.prog (wr.alloc (.cells #[.slice ag (L + min 72 17) cg] 35)) = .ok one' W1) := hap
                have lq := (hob.objs.own 2 _ rfl).cells (g := Q) rfl 1 _ rfl
                rw [addr_add, Nat.zero_add] at lq
                obtain ⟨t', W2, hap2, hob2⟩ := hob.fullMany (i := 1) (j := 8) (g := gm) (c := cm) (ys := List.replicate 72 (.int .i64 (-7000003))) rfl (HF.out.2.v (by rw [mks_len]; rfl)) rfl (by intro u hu; obtain rfl := List.eq_of_mem_replicate hu; rfl) (by rw [mks_len]; omega) (by rw [List.length_replicate]; omega) (by rw [List.length_replicate]; omega)
                obtain ⟨at', ct', ht', _, _⟩ := owns_cell (hob2.objs.own 10 _ rfl)
                dsimp only at ht'
                subst ht'
                have HAP2 : Hid (∀ ty, (Builtin.append_ #[35, 35] ty #[Value.slice a1 L c1, .slice (some ⟨gm, 0, none⟩) 72 cm]).run Try.prog W1 = .ok _ W2) := hap2
                obtain ⟨tl, htl⟩ : ∃ tl, (mks 1 L 0 ++ List.replicate 72 (Value.int .i64 (-7000003))).length = tl := ⟨_, rfl⟩
                obtain ⟨many', W3, hap3, hob3⟩ := hob2.app1 43 35 (.slice none 0 0) 24 Try.underlying43 Try.info35 rfl (by omega) (i := 4) (by omega) rfl (.slice at' tl ct') rfl (by simp)
                have HAP3 : Hid (∀ ty, (Builtin.append_ #[43, 43] ty #[u6, .slice (some ⟨W2.heap.size, 0, none⟩) 1 1]).run Try.prog (W2.alloc (.cells #[.slice at' tl ct'] 35)) = .ok many' W3) := hap3
                have HN : Hid (Ob3 w (fun k => some k = (Value.slice a0 L c0).ownBlock ∨ some k = (Value.slice a1 L c1).ownBlock) W3 [(Value.slice a0 L c0, 3, mks 0 L 0), (Value.slice a1 L c1, 3, mks 1 L 0), (Value.slice (some ⟨Q, 0, none⟩) 2 2, 35, [Value.slice a0 L c0, Value.slice a1 L c1]), (one', 35, [g0, Value.slice ag (L + min 72 17) cg]), (many', 35, [t0, Value.slice at' (mks 1 L 0 ++ List.replicate 72 (Value.int .i64 (-7000003))).length ct']), (mo0, 3, List.replicate 72 (.int .i64 (-7000001))), (g0, 3, mks 0 L 17), (t0, 3, mks 0 L 72), (Value.slice (some ⟨gm, 0, none⟩) 72 cm, 3, List.replicate 72 (.int .i64 (-7000003))), (Value.slice ag (L + min 72 17) cg, 3, mks 1 L 17), (Value.slice at' (mks 1 L 0 ++ List.replicate 72 (Value.int .i64 (-7000003))).length ct', 3, mks 1 L 72)]) := by
                  have h : Ob3 w (fun k => some k = (Value.slice a0 L c0).ownBlock ∨ some k = (Value.slice a1 L c1).ownBlock) W3 [(Value.slice a0 L c0, 3, mks 0 L 0), (Value.slice a1 L c1, 3, mks 1 L 0), (Value.slice (some ⟨Q, 0, none⟩) 2 2, 35, [Value.slice a0 L c0, Value.slice a1 L c1]), (one', 35, [g0, Value.slice ag (L + min 72 17) cg]), (many', 35, [t0, Value.slice at' (mks 1 L 0 ++ List.replicate 72 (Value.int .i64 (-7000003))).length ct']), (mo0, 3, List.replicate 72 (.int .i64 (-7000001))), (g0, 3, mks 0 L 17), (t0, 3, mks 0 L 72), (Value.slice (some ⟨gm, 0, none⟩) 72 cm, 3, List.replicate 72 (.int .i64 (-7000003))), (Value.slice ag (L + min 72 17) cg, 3, mks 1 L 17), (Value.slice at' (mks 1 L 0 ++ List.replicate 72 (Value.int .i64 (-7000003))).length ct', 3, mks 1 L 0 ++ List.replicate 72 (.int .i64 (-7000003)))] := by rw [← htl] at hob3; exact hob3
                  have e : mks 1 L 0 ++ List.replicate 72 (Value.int .i64 (-7000003)) = mks 1 L 72 := mks_all 1 L 72
                  rw [e] at h ⊢
                  exact h
                rw [htl] at HN HAP2
                clear hO hap hob hap2 hob2 hap3 hob3 htl
                go_wp2_with (at_builtin; go_must (refine wpList_append_run rfl (.tmp 65) (.tmp 67) 43 43 rfl u5 (.slice (some ⟨wr.heap.size, 0, none⟩) 1 1) one' W1 rfl rfl HAP.out ?_; refine Hid.out ?_))
                unfold Hid
                clear HAP
                go_wp2_with (at_builtin; go_must (refine wpList_append_run rfl (.tmp 73) (.tmp 74) 35 35 rfl (Value.slice a1 L c1) (.slice (some ⟨gm, 0, none⟩) 72 cm) (.slice at' tl ct') W2 rfl rfl HAP2.out ?_; refine Hid.out ?_))
                unfold Hid
                clear HAP2 lq
                go_wp2_with (at_builtin; go_must (refine wpList_append_run rfl (.tmp 69) (.tmp 76) 43 43 rfl u6 (.slice (some ⟨W2.heap.size, 0, none⟩) 1 1) many' W3 rfl rfl HAP3.out ?_; refine Hid.out ?_))
                unfold Hid
                clear HAP3
                go_wp2
                go_roundw
                case rel => exact .inr (.inr ⟨by go_num, _, _, _, _, _, _, HN.out⟩)
                case measure => simp [intOf]
        · clear HO2
          have HI : Hid (Ob3 w (fun k => some k = (Value.slice a0 L c0).ownBlock ∨ some k = (Value.slice a1 L c1).ownBlock) wr [(Value.slice a0 L c0, 3, mks 0 L 0), (Value.slice a1 L c1, 3, mks 1 L 0), (Value.slice (some ⟨Q, 0, none⟩) 2 2, 35, [Value.slice a0 L c0, Value.slice a1 L c1]), (u5, 35, [g0, g1]), (u6, 35, [t0, t1]), (mo0, 3, List.replicate 72 (.int .i64 (-7000001))), (g0, 3, mks 0 L 17), (t0, 3, mks 0 L 72), (mo1, 3, List.replicate 72 (.int .i64 (-7000003))), (g1, 3, mks 1 L 17), (t1, 3, mks 1 L 72)]) := hO
          clear hO
          obtain ⟨ao, co, ho5, hb5, hgo⟩ := owns_cell (HI.out.objs.own 3 _ rfl)
          obtain ⟨am, cm, ho6, hb6, hgm⟩ := owns_cell (HI.out.objs.own 4 _ rfl)
          dsimp only at ho5 ho6 hgo hgm hb5 hb6
          rcases hgo with h0 | ⟨go, rfl, _⟩
          · cases h0
          rcases hgm with h0 | ⟨gm, rfl, _⟩
          · cases h0
          have hco : (2 : Int) ≤ co ∧ (2 : Int) ≤ cm := by simp at hb5 hb6; omega
          clear hb5 hb6
          change u5 = .slice _ 2 co at ho5
          change u6 = .slice _ 2 cm at ho6
          subst ho5 ho6
          obtain ⟨wx, hwx⟩ : ∃ wx, wx = wr := ⟨_, rfl⟩
          subst hwx
          go_wp2
          go_loopw [11] (fun i wr => (i = .int .i64 0 ∧ wr = wx) ∨ (i = .int .i64 1 ∧ wr = wx) ∨ (i = .int .i64 2 ∧ wr = wx)) (fun i _ => 2 - (intOf i).toNat)
          case atStart => exact .inl ⟨rfl, rfl⟩
          case round =>
            rcases hrel with ⟨rfl, hw⟩ | ⟨rfl, hw⟩ | ⟨rfl, hw⟩
            · obtain rfl := hw
              have l0 := (HI.out.objs.own 2 _ rfl).cells (g := Q) rfl 0 _ rfl
              have l1 := (HI.out.objs.own 3 _ rfl).cells (g := go) rfl 0 _ rfl
              have l2 := (HI.out.objs.own 4 _ rfl).cells (g := gm) rfl 0 _ rfl
              rw [addr_add, Nat.zero_add] at l0 l1 l2
              have A0 : Hid (Calls Try.prog 35 #[Value.slice a0 L c0, .int .i64 L, .int .i64 (0 : Nat)] wr fun e w' => e = .returned (.bool true) ∧ w' = wr) := allInts_any _ 0 L 0 (by omega) (by omega) wr (by have h := HI.out.objs.own 0 _ rfl; dsimp only at h; rw [mks_len] at h; exact h)
              have A1 : Hid (Calls Try.prog 35 #[g0, .int .i64 L, .int .i64 (0 : Nat)] wr fun e w' => e = .returned (.bool true) ∧ w' = wr) := allInts_any _ 0 L 17 (by omega) (by omega) wr (by have h := HI.out.objs.own 6 _ rfl; dsimp only at h; rw [mks_len] at h; exact h)
              have A2 : Hid (Calls Try.prog 35 #[t0, .int .i64 L, .int .i64 (0 : Nat)] wr fun e w' => e = .returned (.bool true) ∧ w' = wr) := allInts_any _ 0 L 72 (by omega) (by omega) wr (by have h := HI.out.objs.own 7 _ rfl; dsimp only at h; rw [mks_len] at h; exact h)
              go_wp2_with fail
              refine A0.out.mono ?_
              rintro e w9 ⟨rfl, hw9⟩
              obtain rfl := hw9
              go_wp2_with fail
              refine A1.out.mono ?_
              rintro e w8 ⟨rfl, hw8⟩
              obtain rfl := hw8
              go_wp2_with fail
              refine A2.out.mono ?_
              rintro e w7 ⟨rfl, hw7⟩
              obtain rfl := hw7
              clear l0 l1 l2
              go_wp2
              go_roundw
              case rel => exact .inr (.inl ⟨by go_num, by first | trivial | rfl⟩)
              case measure => simp [intOf]
            · obtain rfl := hw
              have l0 := (HI.out.objs.own 2 _ rfl).cells (g := Q) rfl 1 _ rfl
              have l1 := (HI.out.objs.own 3 _ rfl).cells (g := go) rfl 1 _ rfl
              have l2 := (HI.out.objs.own 4 _ rfl).cells (g := gm) rfl 1 _ rfl
              rw [addr_add, Nat.zero_add] at l0 l1 l2
              have A0 : Hid (Calls Try.prog 35 #[Value.slice a1 L c1, .int .i64 L, .int .i64 (1 : Nat)] wr fun e w' => e = .returned (.bool true) ∧ w' = wr) := allInts_any _ 1 L 0 (by omega) (by omega) wr (by have h := HI.out.objs.own 1 _ rfl; dsimp only at h; rw [mks_len] at h; exact h)
              have A1 : Hid (Calls Try.prog 35 #[g1, .int .i64 L, .int .i64 (1 : Nat)] wr fun e w' => e = .returned (.bool true) ∧ w' = wr) := allInts_any _ 1 L 17 (by omega) (by omega) wr (by have h := HI.out.objs.own 9 _ rfl; dsimp only at h; rw [mks_len] at h; exact h)
              have A2 : Hid (Calls Try.prog 35 #[t1, .int .i64 L, .int .i64 (1 : Nat)] wr fun e w' => e = .returned (.bool true) ∧ w' = wr) := allInts_any _ 1 L 72 (by omega) (by omega) wr (by have h := HI.out.objs.own 10 _ rfl; dsimp only at h; rw [mks_len] at h; exact h)
              go_wp2_with fail
              refine A0.out.mono ?_
              rintro e w9 ⟨rfl, hw9⟩
              obtain rfl := hw9
              go_wp2_with fail
              refine A1.out.mono ?_
              rintro e w8 ⟨rfl, hw8⟩
              obtain rfl := hw8
              go_wp2_with fail
              refine A2.out.mono ?_
              rintro e w7 ⟨rfl, hw7⟩
              obtain rfl := hw7
              clear l0 l1 l2
              go_wp2
              go_roundw
              case rel => exact .inr (.inr ⟨by go_num, by first | trivial | rfl⟩)
              case measure => simp [intOf]
            · obtain rfl := hw
              go_wp2
              go_ret
              exact ⟨rfl, HI.out.keeps⟩
end Go.Proofs.Ytnkfdmlpjgmckaa
