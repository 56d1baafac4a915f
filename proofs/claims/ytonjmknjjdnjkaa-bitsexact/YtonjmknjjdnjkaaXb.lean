import Derived.Test.YtonjmknjjdnjkaaXa
import Derived.Test.YtonjmknjjdnjkaaStF
import Derived.Test.YtonjmknjjdnjkaaNbA
import Derived.Test.YtonjmknjjdnjkaaFixed
import Derived.Deep.CutBlock
import Derived.Deep.CutRange
namespace Go.Proofs.Ytonjmknjjdnjkaa
open Go.RowKit
set_option linter.unusedVariables false
set_option maxRecDepth 20000

def OcAt (w : World) (g o : Nat) (x : Oc) : Prop := ∀ i v, x.o.cells.toList[i]? = some v → w.cell? ⟨g, o + i, none⟩ = some v
theorem OcAt.grown {w w' : World} {g o : Nat} {x : Oc} (h : OcAt w g o x) (k : Keeps (fun _ => False) w w') : OcAt w' g o x := fun i v hv => cell_kept (h i v hv) k id
/-- These calls can be read at this address. -/
def SegOc (w : World) (a : Option Addr) (xs : List Oc) : Prop :=
  xs = [] ∨ ∃ g o, a = some ⟨g, o, none⟩ ∧ ∀ j x, xs[j]? = some x → OcAt w g (o + j * 10) x

theorem weight_lt (x : Oc) (h : weightN x.o ≤ 2147483647) : weightN x.o = (x.wt : Int) := by
  unfold weightN at h ⊢
  unfold Oc.wt
  split at h
  · omega
  · omega
theorem weight_ge (x : Oc) : 8 ≤ weightN x.o := by
  unfold weightN
  split <;> omega
theorem weight_le (x : Oc) : weightN x.o ≤ 9000000000 := by
  unfold weightN
  split <;> omega

set_option maxHeartbeats 4000000 in
theorem bitsExact_any (a : Option Addr) (cap : Nat) (os : List Oc) (w0 : World) (hl : os.length ≤ maxLen) (hS : SegOc w0 a os) (hF : ∀ o ∈ os, o.Ok w0) :
    Calls Try.prog 3 #[.slice a os.length cap] w0 fun e w' => e = .returned (.bool true) ∧ Keeps (fun _ => False) w0 w' := by
  obtain ⟨n, hn⟩ : ∃ n, n = os.length := ⟨_, rfl⟩
  have HN : Hid (n = os.length ∧ SegOc w0 a os ∧ ∀ o ∈ os, o.Ok w0) := ⟨hn, hS, hF⟩
  rw [← hn] at hl ⊢
  have hnI : (n : Int) ≤ 9223372036854775807 := by unfold maxLen at hl; omega
  clear hn hS hF hl
  go_enter Try.func3, Try.ntmps3
  go_wp2_with fail
  refine (fixed_any w0).mono ?_
  rintro e w1 ⟨rfl, hK1⟩
  have HK1 : Hid (Keeps (fun _ => False) w0 w1) := hK1
  clear hK1
  go_wp2_with fail
  refine (nobody_any w1).mono ?_
  rintro e w2 ⟨rfl, hw2⟩
  obtain rfl := hw2.symm
  clear hw2
  have HP0 := play0 w0 w1 HK1.out
  obtain ⟨w2, hw2⟩ : ∃ w2, w2 = w1.alloc (.cells #[.slice none 0 0, .slice none 0 0, .slice none 0 0, .slice none 0 0, .slice none 0 0, .slice none 0 0] 34) := ⟨_, rfl⟩
  obtain ⟨X, hX⟩ : ∃ X, X = w1.heap.size := ⟨_, rfl⟩
  rw [← hw2, ← hX] at HP0
  have HP1 := begins_writer 0 0 0 0 0 0 none 0 0 none 0 0 .empty w0 w2 X 0 0 0 HP0 (by omega)
  have HP1 : Hid (Calls _ _ _ _ _) := HP1
  have HW2 : Hid (w1.alloc (.cells #[.slice none 0 0, .slice none 0 0, .slice none 0 0, .slice none 0 0, .slice none 0 0, .slice none 0 0] 34) = w2 ∧ w1.heap.size = X) := ⟨hw2.symm, hX.symm⟩
  clear hw2 hX HP0
  go_wp2_with fail
  rw [HW2.out.1, HW2.out.2]
  refine HP1.out.mono ?_
  rintro e w3 ⟨rfl, hP3⟩
  have HP3 : Hid (Calls _ _ _ _ _) := begins_lit w0 w3 X _ _ _ hP3 (by omega)
  clear hP3 HP1 HW2
  go_wp2_with fail
  refine HP3.out.mono ?_
  rintro e w4 ⟨rfl, hP4⟩
  have HG0 : Hid (Game w0 w4 X 19) := hP4.game (by omega) (by omega)
  clear hP4 HP3 HK1
  go_wp2_with fail
  go_loopw [6, 7, 8] (fun ok all i wr => ∃ (j : Nat) (A : Int), j ≤ n ∧ 0 ≤ A ∧ A ≤ 2147483647 ∧ ok = .bool true ∧ all = .int .i64 A ∧ i = .int .i64 (j : Int) ∧ Game w0 wr X (A.toNat + 19)) (fun _ _ i _ => n - (intOf i).toNat)
  case atStart => exact ⟨0, 0, by omega, by omega, by omega, rfl, rfl, rfl, HG0.out⟩
  case round =>
    clear HG0
    obtain ⟨j, A, hj, hA0, hA1, rfl, rfl, rfl, hG⟩ := hrel
    have HG : Hid (Game w0 wr X (A.toNat + 19)) := hG
    clear hG
    by_cases hlt : j < n
    · have hlt' : (j : Int) < n := by omega
      have hjx : j < os.length := by rw [← HN.out.1]; exact hlt
      have hK := HG.out.base
      obtain ⟨x, hx⟩ : ∃ x, os[j]? = some x := ⟨_, List.getElem?_eq_getElem hjx⟩
      have hxo := HN.out.2.2 x (List.mem_of_getElem? hx)
      obtain ⟨ga, oa, ha, hcells⟩ : ∃ g o, a = some ⟨g, o, none⟩ ∧ ∀ j x, os[j]? = some x → OcAt w0 g (o + j * 10) x := by
        rcases HN.out.2.1 with h | h
        · rw [h] at hjx; simp at hjx
        · exact h
      subst ha
      have hc := (hcells j x hx).grown hK
      have c0 := hc 0 _ rfl
      have c1 := hc 1 _ rfl
      have c2 := hc 2 _ rfl
      have c3 := hc 3 _ rfl
      have c4 := hc 4 _ rfl
      have c5 := hc 5 _ rfl
      have c6 := hc 6 _ rfl
      have c7 := hc 7 _ rfl
      have c8 := hc 8 _ rfl
      have c9 := hc 9 _ rfl
      rw [Nat.add_zero] at c0
      obtain ⟨W1, hW1⟩ : ∃ W1, W1 = wr.alloc (.cells x.o.cells 41) := ⟨_, rfl⟩
      have hk1 : Keeps (fun _ => False) wr W1 := by rw [hW1]; exact (Keeps.refl _ wr).alloc _
      have HWc : Hid (Calls _ _ _ _ _) := weight_any x.o W1 hxo.z.1 hxo.z.2.1 hxo.z.2.2
      have HX : Hid (x.Ok w0 ∧ Keeps (fun _ => False) wr W1 ∧ W1 = wr.alloc (.cells x.o.cells 41)) := ⟨hxo, hk1, hW1⟩
      obtain ⟨K, hKK⟩ : ∃ K, K = x.o.k := ⟨_, rfl⟩
      have HW1 : Hid (wr.alloc (.cells #[.int .i64 K, .int .i64 x.o.who, .int .i64 x.o.a, .int .i64 x.o.b, .int .u32 x.o.W, .int .u32 x.o.V, .int .u64 x.o.N, .slice x.o.pb x.o.lb x.o.cb, .slice x.o.pw x.o.lw x.o.cw, .string x.o.s] 41) = W1) := by rw [hW1, hKK]; rfl
      have HV : Hid (x.o.agg = .agg #[.int .i64 K, .int .i64 x.o.who, .int .i64 x.o.a, .int .i64 x.o.b, .int .u32 x.o.W, .int .u32 x.o.V, .int .u64 x.o.N, .slice x.o.pb x.o.lb x.o.cb, .slice x.o.pw x.o.lw x.o.cw, .string x.o.s]) := by rw [hKK]; rfl
      rw [HV.out] at HWc
      have HK : Hid (K = x.o.k) := hKK
      rw [← hKK] at c0
      clear hcells hc hjx hx hxo hk1 hW1 hKK hK
      go_wp2_with fail
      rw [HW1.out]
      refine HWc.out.mono ?_
      rintro e w2 ⟨rfl, hK2⟩
      clear HWc c0 c1 c2 c3 c4 c5 c6 c7 c8 c9
      obtain ⟨Wt, hWt⟩ : ∃ Wt, Wt = weightN x.o := ⟨_, rfl⟩
      rw [← hWt]
      have hw8 : 8 ≤ Wt := by rw [hWt]; exact weight_ge x
      have hw9 : Wt ≤ 9000000000 := by rw [hWt]; exact weight_le x
      have hwr : IntKind.i64.wrap (A + Wt) = A + Wt := by rw [IntKind.wrap_i64]; omega
      have HG2 : Hid (Game w0 w2 X (A.toNat + 19)) := HG.out.quiet (HX.out.2.1.trans hK2 fun _ _ e => e)
      have hB : Blk w2 wr.heap.size x.o.cells.toList 41 := op_cells x.o (by rw [← HX.out.2.2]; exact hK2)
      have d0 := hB.cell (i := 0) rfl
      have d1 := hB.cell (i := 1) rfl
      have d2 := hB.cell (i := 2) rfl
      have d3 := hB.cell (i := 3) rfl
      have d4 := hB.cell (i := 4) rfl
      have d5 := hB.cell (i := 5) rfl
      have d6 := hB.cell (i := 6) rfl
      have d7 := hB.cell (i := 7) rfl
      have d8 := hB.cell (i := 8) rfl
      have d9 := hB.cell (i := 9) rfl
      rw [← HK.out] at d0
      have HWt : Hid (Wt = weightN x.o) := hWt
      clear hB hK2 hWt
      by_cases hbig : 2147483647 < A + Wt
      · go_wp2
        go_ret
        exact ⟨rfl, HG2.out.base⟩
      · have HWT : Hid (Wt = (x.wt : Int) ∧ A + Wt ≤ 2147483647 ∧ 0 ≤ A) := ⟨by rw [HWt.out]; exact weight_lt x (by rw [← HWt.out]; omega), by omega, hA0⟩
        have hA2 : A + Wt ≤ 2147483647 := by omega
        clear hbig HWt
        by_cases h4 : K ≤ 4
        · have HC := call12 HG2.out HX.out.1
          rw [HV.out] at HC
          have HC : Hid (Calls _ _ _ _ _) := HC
          go_wp2_with fail
          refine HC.out.mono ?_
          rintro e w3 ⟨rfl, hG3⟩
          have HG3 : Hid (Game w0 w3 X (A.toNat + 19 + x.wt)) := hG3
          clear hG3 HC
          go_wp2
          go_roundw
          case rel => exact ⟨j + 1, A + Wt, by omega, by omega, by omega, rfl, rfl, by go_num, by have := HWT.out; rw [show (A + Wt).toNat + 19 = A.toNat + 19 + x.wt from by omega]; exact HG3.out⟩
          case measure => simp [intOf]; omega
        have h4' : 4 < K := by omega
        by_cases h7 : K ≤ 7
        · have HC := call13 HG2.out HX.out.1 (by have := HWT.out; omega) (by have := HWT.out; omega) (by rw [← HK.out]; omega)
          rw [HV.out] at HC
          have HC : Hid (Calls _ _ _ _ _) := HC
          go_wp2_with fail
          refine HC.out.mono ?_
          rintro e w3 ⟨rfl, hG3⟩
          have HG3 : Hid (Game w0 w3 X (A.toNat + 19 + x.wt)) := hG3
          clear hG3 HC
          go_wp2
          go_roundw
          case rel => exact ⟨j + 1, A + Wt, by omega, by omega, by omega, rfl, rfl, by go_num, by have := HWT.out; rw [show (A + Wt).toNat + 19 = A.toNat + 19 + x.wt from by omega]; exact HG3.out⟩
          case measure => simp [intOf]; omega
        have h7' : 7 < K := by omega
        by_cases h8 : K = 8
        · subst h8
          have HC := call10 HG2.out HX.out.1 (by have := HWT.out; omega) (by have := HWT.out; omega) (by rw [← HK.out]; omega)
          rw [HV.out] at HC
          have HC : Hid (Calls _ _ _ _ _) := HC
          go_wp2_with fail
          refine HC.out.mono ?_
          rintro e w3 ⟨rfl, hG3⟩
          have HG3 : Hid (Game w0 w3 X (A.toNat + 19 + x.wt)) := hG3
          clear hG3 HC
          go_wp2
          go_roundw
          case rel => exact ⟨j + 1, A + Wt, by omega, by omega, by omega, rfl, rfl, by go_num, by have := HWT.out; rw [show (A + Wt).toNat + 19 = A.toNat + 19 + x.wt from by omega]; exact HG3.out⟩
          case measure => simp [intOf]; omega
        by_cases h14 : K = 14
        · subst h14
          have HC := call10 HG2.out HX.out.1 (by have := HWT.out; omega) (by have := HWT.out; omega) (by rw [← HK.out]; omega)
          rw [HV.out] at HC
          have HC : Hid (Calls _ _ _ _ _) := HC
          go_wp2_with fail
          refine HC.out.mono ?_
          rintro e w3 ⟨rfl, hG3⟩
          have HG3 : Hid (Game w0 w3 X (A.toNat + 19 + x.wt)) := hG3
          clear hG3 HC
          go_wp2
          go_roundw
          case rel => exact ⟨j + 1, A + Wt, by omega, by omega, by omega, rfl, rfl, by go_num, by have := HWT.out; rw [show (A + Wt).toNat + 19 = A.toNat + 19 + x.wt from by omega]; exact HG3.out⟩
          case measure => simp [intOf]; omega
        by_cases h15 : K = 15
        · subst h15
          have HC := call10 HG2.out HX.out.1 (by have := HWT.out; omega) (by have := HWT.out; omega) (by rw [← HK.out]; omega)
          rw [HV.out] at HC
          have HC : Hid (Calls _ _ _ _ _) := HC
          go_wp2_with fail
          refine HC.out.mono ?_
          rintro e w3 ⟨rfl, hG3⟩
          have HG3 : Hid (Game w0 w3 X (A.toNat + 19 + x.wt)) := hG3
          clear hG3 HC
          go_wp2
          go_roundw
          case rel => exact ⟨j + 1, A + Wt, by omega, by omega, by omega, rfl, rfl, by go_num, by have := HWT.out; rw [show (A + Wt).toNat + 19 = A.toNat + 19 + x.wt from by omega]; exact HG3.out⟩
          case measure => simp [intOf]; omega
        have e8 : (K == 8) = false := by simpa using h8
        have e14 : (K == 14) = false := by simpa using h14
        have e15 : (K == 15) = false := by simpa using h15
        by_cases h13 : K ≤ 13
        · have HC := call14 HG2.out HX.out.1 (by have := HWT.out; omega) (by have := HWT.out; omega) (by rw [← HK.out]; omega)
          rw [HV.out] at HC
          have HC : Hid (Calls _ _ _ _ _) := HC
          go_wp2_with fail
          refine HC.out.mono ?_
          rintro e w3 ⟨rfl, hG3⟩
          have HG3 : Hid (Game w0 w3 X (A.toNat + 19 + x.wt)) := hG3
          clear hG3 HC
          go_wp2
          go_roundw
          case rel => exact ⟨j + 1, A + Wt, by omega, by omega, by omega, rfl, rfl, by go_num, by have := HWT.out; rw [show (A + Wt).toNat + 19 = A.toNat + 19 + x.wt from by omega]; exact HG3.out⟩
          case measure => simp [intOf]; omega
        · have h13' : 13 < K := by omega
          have HC := call15 HG2.out HX.out.1 (by have := HWT.out; omega) (by rw [← HK.out]; omega)
          rw [HV.out] at HC
          have HC : Hid (Calls _ _ _ _ _) := HC
          go_wp2_with fail
          refine HC.out.mono ?_
          rintro e w3 ⟨rfl, hG3⟩
          have HG3 : Hid (Game w0 w3 X (A.toNat + 19 + x.wt)) := hG3
          clear hG3 HC
          go_wp2
          go_roundw
          case rel => exact ⟨j + 1, A + Wt, by omega, by omega, by omega, rfl, rfl, by go_num, by have := HWT.out; rw [show (A + Wt).toNat + 19 = A.toNat + 19 + x.wt from by omega]; exact HG3.out⟩
          case measure => simp [intOf]; omega
    · have ejn : n = j := by omega
      subst ejn
      have HSt : Hid (Calls _ _ _ _ _) := settled_any HG.out (by omega)
      clear HG
      go_wp2_with fail
      refine HSt.out.mono ?_
      rintro e w5 ⟨rfl, hK5⟩
      have HK5 : Hid (Keeps (fun _ => False) w0 w5) := hK5
      clear hK5 HSt
      go_wp2
      go_ret
      exact ⟨rfl, HK5.out⟩
end Go.Proofs.Ytonjmknjjdnjkaa
