import Derived.Test.YtljhdijledclhaaXi
import Derived.Deep.CutBlock
import Derived.Deep.CutRange
namespace Go.Proofs.Ytljhdijledclhaa
open Go.RowKit
set_option linter.unusedVariables false
set_option maxRecDepth 20000

set_option maxHeartbeats 8000000 in
theorem memExact_any (a : Option Addr) (cap : Nat) (os : List Oc) (w0 : World) (hl : os.length ≤ maxLen) (hS : SegOc w0 a os) (hF : ∀ o ∈ os, o.Ok w0) :
    Calls Try.prog 3 #[.slice a os.length cap] w0 fun e w' => e = .returned (.bool true) ∧ Keeps (fun _ => False) w0 w' := by
  obtain ⟨n, hn⟩ : ∃ n, n = os.length := ⟨_, rfl⟩
  have HN : Hid (n = os.length ∧ SegOc w0 a os ∧ ∀ o ∈ os, o.Ok w0) := ⟨hn, hS, hF⟩
  rw [← hn] at hl ⊢
  have hnI : (n : Int) ≤ 9223372036854775807 := by unfold maxLen at hl; omega
  obtain ⟨X, hX⟩ : ∃ X, X = w0.heap.size := ⟨_, rfl⟩
  have HB := begun_any w0
  rw [← hX] at HB
  have HB : Hid (Calls _ _ _ _ _) := HB
  clear hn hS hF hl hX
  go_enter Try.func3, Try.ntmps3
  go_wp2_with fail
  refine HB.out.mono ?_
  rintro e w1 ⟨rfl, hG⟩
  have HG0 : Hid (Game w0 w1 X 4) := hG
  clear hG HB
  go_wp2_with fail
  go_loopw [4, 5] (fun ok i wr => ∃ (j : Nat), j ≤ n ∧ (j : Int) ≤ 2147483647 ∧ ok = .bool true ∧ i = .int .i64 (j : Int) ∧ Game w0 wr X (2 * j + 4)) (fun _ i _ => n - (intOf i).toNat)
  case atStart => exact ⟨0, by omega, by omega, rfl, rfl, HG0.out⟩
  case round =>
    clear HG0
    obtain ⟨j, hj, hj2, rfl, rfl, hG⟩ := hrel
    have HG : Hid (Game w0 wr X (2 * j + 4)) := hG
    clear hG
    by_cases hlt : j < n
    · have hlt' : (j : Int) < n := by omega
      have hjx : j < os.length := by rw [← HN.out.1]; exact hlt
      have hK := HG.out.base
      obtain ⟨x, hx⟩ : ∃ x, os[j]? = some x := ⟨_, List.getElem?_eq_getElem hjx⟩
      have hxo := HN.out.2.2 x (List.mem_of_getElem? hx)
      obtain ⟨ga, oa, ha, hcells⟩ : ∃ g o, a = some ⟨g, o, none⟩ ∧ ∀ j x, os[j]? = some x → OcAt w0 g (o + j * 8) x := by
        rcases HN.out.2.1 with h | h
        · rw [h] at hjx; simp at hjx
        · exact h
      subst ha
      have hc := (hcells j x hx).grown hK
      have c0 := hc 0 _ rfl
      have c1 := hc 1 _ rfl
      have c2 := hc 2 _ rfl
      have c3 := hc 3 _ rfl
      have c4 := hc 4 _ rfl
      have c5 := hc 5 _ rfl
      have c6 := hc 6 _ rfl
      have c7 := hc 7 _ rfl
      rw [Nat.add_zero] at c0
      obtain ⟨W1, hW1⟩ : ∃ W1, W1 = wr.alloc (.cells x.cells 29) := ⟨_, rfl⟩
      have hk1 : Keeps (fun _ => False) wr W1 := by rw [hW1]; exact (Keeps.refl _ wr).alloc _
      have HX : Hid (x.Ok w0 ∧ Keeps (fun _ => False) wr W1) := ⟨hxo, hk1⟩
      obtain ⟨K, hKK⟩ : ∃ K, K = x.k := ⟨_, rfl⟩
      obtain ⟨L, hL⟩ : ∃ L, L = x.ws.length := ⟨_, rfl⟩
      obtain ⟨u, hu⟩ : ∃ u : Int, u = (x.W.toNat : Int) := ⟨_, rfl⟩
      have HW1 : Hid (wr.alloc (.cells #[.int .i64 K, .int .i64 x.who, .int .i64 x.oth, .int .i64 x.a, .int .i64 x.b, .int .i64 x.c, .int .u32 u, .slice x.pw L x.cw] 29) = W1) := by rw [hW1, hKK, hL, hu]; rfl
      have HV : Hid (Value.agg x.cells = .agg #[.int .i64 K, .int .i64 x.who, .int .i64 x.oth, .int .i64 x.a, .int .i64 x.b, .int .i64 x.c, .int .u32 u, .slice x.pw L x.cw]) := by rw [hKK, hL, hu]; rfl
      have hB : Blk W1 wr.heap.size x.cells.toList 29 := by rw [hW1]; exact Blk.new wr _ 29
      have d0 := hB.cell (i := 0) rfl
      have d1 := hB.cell (i := 1) rfl
      have d2 := hB.cell (i := 2) rfl
      have d3 := hB.cell (i := 3) rfl
      have d4 := hB.cell (i := 4) rfl
      have d5 := hB.cell (i := 5) rfl
      have d6 := hB.cell (i := 6) rfl
      have d7 := hB.cell (i := 7) rfl
      rw [← hKK] at c0 d0
      rw [← hu] at c6 d6
      rw [← hL] at c7 d7
      have HK : Hid (K = x.k ∧ L = x.ws.length) := ⟨hKK, hL⟩
      have HGW : Hid (Game w0 W1 X (2 * j + 4)) := HG.out.quiet hk1
      clear hcells hc hjx hx hxo hk1 hW1 hKK hL hu hK hB
      by_cases hbig : 2147483647 ≤ (j : Int)
      · go_wp2
        go_ret
        exact ⟨rfl, by rw [HW1.out]; exact HGW.out.base⟩
      have hbig' : ¬ (j : Int) ≥ 2147483647 := by omega
      by_cases hbl : (2147483647 : Int) < (L : Int)
      · go_wp2
        go_ret
        exact ⟨rfl, by rw [HW1.out]; exact HGW.out.base⟩
      have HBL : Hid (L ≤ 2147483647) := by show L ≤ _; omega
      have hT8 : 2 * j + 4 ≤ 8589934592 := by omega
      have HC8 : Hid (((K == 1) = true ∨ (K == 2) = true ∨ (K == 10) = true) → Calls Try.prog 8 _ _ _) := fun hk => call8 HGW.out HX.out.1 (by have := HK.out.2; have := HBL.out; omega) (by rw [← HK.out.1]; simpa using hk)
      have HC9 : Hid (Calls Try.prog 9 _ _ _) := call9 HGW.out HX.out.1
      have HC10 : Hid (Calls Try.prog 10 _ _ _) := call10 HGW.out
      have HC11 : Hid (Calls Try.prog 11 _ _ _) := call11 HGW.out HX.out.1 hT8
      have HC12 : Hid (Calls Try.prog 12 _ _ _) := call12 HGW.out HX.out.1 (by have := HK.out.2; have := HBL.out; omega) hT8
      rw [HV.out] at HC8 HC9 HC11 HC12
      clear hT8
      go_wp2_with fail
      all_goals rw [HW1.out]
      all_goals first
        | refine Calls.mono (HC8.out (.inl (by assumption))) ?_
        | refine Calls.mono (HC8.out (.inr (.inl (by assumption)))) ?_
        | refine Calls.mono (HC8.out (.inr (.inr (by assumption)))) ?_
        | refine Calls.mono HC9.out ?_
        | refine Calls.mono HC10.out ?_
        | refine Calls.mono HC11.out ?_
        | refine Calls.mono HC12.out ?_
      all_goals
        rintro e w2 ⟨rfl, hG⟩
        have HG2 : Hid (Game w0 w2 X (2 * j + 4 + 2)) := hG
        clear hG HC8 HC9 HC10 HC11 HC12 HGW c0 c1 c2 c3 c4 c5 c6 c7 d0 d1 d2 d3 d4 d5 d6 d7
        go_wp2
        go_roundw
        case rel => exact ⟨j + 1, by omega, by omega, rfl, by go_num, by rw [show 2 * (j + 1) + 4 = 2 * j + 4 + 2 by omega]; exact HG2.out⟩
        case measure => simp [intOf]; omega
    · have ejn : n = j := by omega
      subst ejn
      obtain ⟨wz, hwz⟩ : ∃ wz, wz = wr := ⟨_, rfl⟩
      subst hwz
      have HG1 : Hid (Game w0 wz X (2 * n + 4 + 2 * 0)) := HG.out
      have HTn : Hid (2 * n + 4 ≤ 4294967300) := by show _ ≤ _; omega
      clear HG HN hj hlt
      go_wp2_with fail
      go_loopw [4, 7] (fun ok i ws => ∃ m : Nat, (m : Int) ≤ 12 ∧ ok = .bool true ∧ i = .int .i64 (m : Int) ∧ Game w0 ws X (2 * n + 4 + 2 * m)) (fun _ i _ => 12 - (intOf i).toNat)
      case atStart => exact ⟨0, by omega, rfl, rfl, HG1.out⟩
      case round =>
        clear HG1
        obtain ⟨m, hm, rfl, rfl, hG⟩ := hrel
        obtain ⟨L, lb, lc, hL12, hc0⟩ := hG.many
        have HG : Hid (Game w0 wr X (2 * n + 4 + 2 * m)) := hG
        have hLi : (L : Int) ≤ 12 := by omega
        clear hG hL12
        by_cases hml : (m : Int) < L
        · have i0 : in64 0 := by unfold in64; omega
          have im : in64 (m : Int) := by unfold in64; omega
          have HC : Hid (Calls Try.prog 12 _ _ _) := works_9 m 0 0 0 0 0 (.slice none 0 0) w0 wr X (2 * n + 4 + 2 * m) HG.out im i0 i0 (by have := HTn.out; omega)
          clear i0 im
          go_wp2_with fail
          refine HC.out.mono ?_
          rintro e w2 ⟨rfl, hG⟩
          have HG2 : Hid (Game w0 w2 X (2 * n + 4 + 2 * m + 2)) := hG
          clear hG HC hc0 HG
          go_wp2
          go_roundw
          case rel => exact ⟨m + 1, by omega, rfl, by go_num, by rw [show 2 * n + 4 + 2 * (m + 1) = 2 * n + 4 + 2 * m + 2 by omega]; exact HG2.out⟩
          case measure => simp [intOf]; omega
        · have HSt : Hid (Calls Try.prog 13 _ _ _) := settled_any HG.out (by have := HTn.out; omega)
          go_wp2_with fail
          refine HSt.out.mono ?_
          rintro e w5 ⟨rfl, hK5⟩
          have HK5 : Hid (Keeps (fun _ => False) w0 w5) := hK5
          clear hK5 HSt
          go_wp2
          go_ret
          exact ⟨rfl, HK5.out⟩
end Go.Proofs.Ytljhdijledclhaa
